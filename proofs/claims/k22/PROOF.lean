import PyProof.Rows.All
import Wide.All
import OpenK.AllK
import Wide.FinOn
import Lean
import PyProof.EqAt
import PyProof.EqKinds
import PyProof.TupleCall
import PyProof.NeKinds
import PyProof.FactsAll.tuple_2
import PyProof.WalksMore
import PyProof.AttrMissHeap
import KE.KDictOf
import PyProof.ExcBaseAll.ValueError
import KE.KTryMore
import PyProof.Rows.CallKwBuiltin
import PySem.Challenge.RW_mixform_k22_least_are_least
set_option Elab.async false
set_option linter.all false
set_option maxRecDepth 100000
set_option maxHeartbeats 4000000
set_option bootstrap.genMatcherCode false
section
open PySem PySem.W PySem.Spec PyProof.Rows
def O9:=@wpAny_bind
def Pa:=@Option.bind_eq_some_iff
def Pb:=@Heap.get?_push_of_some
def Pc:=@wpAny_pure
def Pd:=@Bool.and_eq_true
def Pe:=@List.size_toArray
def Pf:=@of_decide_eq_true
def Pg:=@List.getElem?_eq_some_iff
def Ph:=@List.mem_cons_of_mem
def Pi:=@kasC_bind
def Pj:=@Nat.le_refl
def Pk:=@List.mem_cons_self
def Pl:=@Heap.get?_push_size
def Pm:=@kasC_pure
def Pn:=@List.length_map
def Po:=@Heap.lt_size
def Pp:=@Nat.le_trans
def Pq:=@List.mem_cons
def Pr:=@List.not_mem_nil
def Pt:=@List.append_assoc
def Pu:=@Option.map_eq_some_iff
def Pv:=@List.length_append
def Pw:=@List.getElem?_set_ne
def Px:=@List.length_cons
def Py:=@List.getElem?_map
def Pz:=@Array.length_toList
def PC:=@Nat.lt_of_lt_of_le
def PD:=@List.mem_append
def PF:=@eq_of_beq
def PH:=@List.getElem?_eq_getElem
def PJ:=@decide_eq_false
def PK:=@List.lookup_cons
def PL:=@KeyOrd.kle_trans
def PM:=@Heap.get?_update_other
def PN:=@decide_eq_true
def PP:=@Heap.size_push
def PQ:=@Nat.ne_of_lt
def PU:=@List.mem_append_right
def PV:=@wpAny_setField_rec
def PX:=@List.mem_singleton
def PY:=@List.mem_map
def PZ:=@List.all_eq_true
def P0:=@List.any_eq_true
def P4:=@Int.emod_nonneg
def P5:=@Int.emod_lt_of_pos
def P6:=@List.append_nil
def P7:=@Bool.or_eq_true
def P8:=@List.getElem?_append_left
def P9:=@List.getElem?_append_right
def Qa:=@List.map_cons
def Qb:=@List.map_append
def Qc:=@List.getElem?_set_self
def Qd:=@List.mem_range
end
section
namespace L2
open PySem PySem.Spec PyProof.Rows
noncomputable abbrev Key:=Sum Int Str
noncomputable def Br:Key->Value->Bool
 | .inl k,v=>Value.isInt k v
 | .inr x,v=>Value.isStrOf x v
noncomputable def KG (w:World):Key->Int
 | .inl k=>hashInt k
 | .inr x=>hashStr w x
theorem bt:∀{k:Key} {v:Value},Br k v=true->(∃i t,k=Sum.inl i/\v=Value.int i t)\/(∃x t,k=Sum.inr x/\v=Value.str x t)
 | .inl i,v,h=>by obtain⟨t,e⟩:=Value.isInt_shape (k:=i) (v:=v) h;exact .inl ⟨i,t,rfl,e⟩
 | .inr x,v,h=>by obtain⟨t,e⟩:=Value.isStrOf_shape (x:=x) (v:=v) h;exact .inr ⟨x,t,rfl,e⟩
theorem CY (a b:Int):decide ((Sum.inl a:Key)=Sum.inl b)=(a==b):=by
 by_cases e:a=b
 ·subst e;simp
 ·have h:¬(Sum.inl a:Key)=Sum.inl b:=λq=>e (Sum.inl.inj q)
  rw[PJ h];exact(beq_eq_false_iff_ne.mpr e).symm
theorem C1 (a b:Str):decide ((Sum.inr a:Key)=Sum.inr b)=decide (a=b):=by
 by_cases e:a=b
 ·subst e;simp
 ·have h:¬(Sum.inr a:Key)=Sum.inr b:=λq=>e (Sum.inr.inj q)
  rw[PJ h,PJ e]
theorem CZ (a:Int) (b:Str):decide ((Sum.inl a:Key)=Sum.inr b)=false:=PJ (λq=>nomatch q)
theorem C0 (a:Str) (b:Int):decide ((Sum.inr a:Key)=Sum.inl b)=false:=PJ (λq=>nomatch q)
noncomputable def nJ (prog:Program) (w:World):PySem.KeyKind prog w Key where
 is:=Br
 hash:=KG w
 inj:=λv a b ha hb=>by
  rcases bt ha with ⟨i,t,rfl,rfl⟩ | ⟨x,t,rfl,rfl⟩
  ·rcases bt hb with ⟨j,u,rfl,e⟩ | ⟨y,u,rfl,e⟩
   ·injection e with e1 _;rw[e1]
   ·exact nomatch e
  ·rcases bt hb with ⟨j,u,rfl,e⟩ | ⟨y,u,rfl,e⟩
   ·exact nomatch e
   ·injection e with e1 _;rw[e1]
 byValue:=λk v h=>by rcases bt h with ⟨i,t,rfl,rfl⟩ | ⟨x,t,rfl,rfl⟩ <;> rfl
 pyHash:=λhv h=>by
  rcases bt hv with ⟨i,t,rfl,rfl⟩ | ⟨x,t,rfl,rfl⟩
  ·exact wpAny_pyHash_int h
  ·exact wpAny_pyHash_str h
 eqBool:=λhu hv h=>by
  rcases bt hu with ⟨i,t,rfl,rfl⟩ | ⟨x,t,rfl,rfl⟩
  ·rcases bt hv with ⟨j,u,rfl,rfl⟩ | ⟨y,u,rfl,rfl⟩
   ·rw[CY] at h;exact wpAny_eqBool_int h
   ·rw[CZ] at h;exact SeqAt.EqAt.int_str i t y u _ _ _ _ h
  ·rcases bt hv with ⟨j,u,rfl,rfl⟩ | ⟨y,u,rfl,rfl⟩
   ·rw[C0] at h;exact SeqAt.EqAt.str_int x t j u _ _ _ _ h
   ·rw[C1] at h;exact wpAny_eqBool_str h
 «strs»:=λk x t v h=>by
  rcases bt h with ⟨i,u,rfl,e⟩ | ⟨y,u,rfl,e⟩
  ·exact nomatch e
  ·injection e with e1 _;subst e1;cases v <;> rfl
end L2
namespace L2
open PySem PySem.Spec PyProof.Rows
inductive V where
 | aT | bl (b:Bool) | int (i:Int) | str (x:Str) | Cb (b:Array UInt8) | yL (b:UInt64) | ref (a:Addr) | ty (n:String)
 deriving DecidableEq
noncomputable def RelV:V->Value->Prop
 | .aT,u=>u=Value.none
 | .bl b,u=>u=Value.bool b
 | .int i,u=>∃t,u=Value.int i t
 | .str x,u=>∃t,u=Value.str x t
 | .Cb b,u=>∃t,u=Value.bytes b t
 | .yL b,u=>∃t,u=Value.float b t
 | .ref a,u=>u=Value.ref a
 | .ty n,u=>u=Value.type n
noncomputable abbrev au:List V->List Value->Prop:=Paired RelV
theorem au.length {xs:List V} {us:List Value} (r:au xs us):xs.length=us.length:=Paired.length r
theorem au.get:∀{xs:List V} {us:List Value} {i:Nat} {x:V},au xs us->xs[i]?=some x->∃u,us[i]?=some u/\RelV x u
 | _,_,_,_,.nil,e=>by simp at e
 | _,_,0,_,.cons r _,e=>by simp at e;subst e;exact⟨_,rfl,r⟩
 | _,_,i + 1,x,.cons _ t,e=>by obtain⟨u,h1,h2⟩:=au.get (i:=i) (x:=x) t (by simpa using e);exact⟨u,by simpa using h1,h2⟩
theorem au.set {x:V} {u:Value} (r:RelV x u):∀{xs:List V} {us:List Value} (i:Nat),au xs us->au (xs.set i x) (us.set i u)
 | _,_,_,.nil=> .nil
 | _,_,0,.cons _ t=> .cons r t
 | _,_,i + 1,.cons q t=> .cons q (au.set r i t)
theorem au.append:∀{xs ys:List V} {us ws:List Value},au xs us->au ys ws->au (xs++ys) (us++ws)
 | _,_,_,_,.nil,s=>s
 | _,_,_,_,.cons r t,s=> .cons r (au.append t s)
theorem au.take:∀{xs:List V} {us:List Value} (n:Nat),au xs us->au (xs.take n) (us.take n)
 | _,_,0,_=> .nil
 | _,_,_ + 1,.nil=> .nil
 | _,_,n + 1,.cons r t=> .cons r (au.take n t)
theorem au.drop:∀{xs:List V} {us:List Value} (n:Nat),au xs us->au (xs.drop n) (us.drop n)
 | _,_,0,r=>r
 | _,_,_ + 1,.nil=> .nil
 | _,_,n + 1,.cons _ t=>au.drop n t
noncomputable def BW:Option V->Option Value->Prop
 | some v,some u=>RelV v u
 | none,none=>True
 | _,_=>False
noncomputable def KV {κ:Type}:List (κ×V)->List (κ×Value)->Prop:=Paired λ(p:κ×V) (q:κ×Value)=>p.1=q.1/\RelV p.2 q.2
noncomputable def kV:Key->V
 | .inl i=> .int i
 | .inr x=> .str x
inductive HO where
 | lst (xs:List V)
 | tup (xs:List V)
 | dK (cV:List (Key×V)) | dT (cV:List (List Key×V))
 | set (S:Int->Bool) (n:Nat)
 | ins (C dx:Addr) (fs:List (Str×V))
 | own (x:Addr)
 | xd (fs:List (Str×V))
 | met (f x:Addr)
 | Lb (lo hi:Int)
 | sF (o:Obj) (u:HO)
 | yW (ps:Array Value)
 | ext (φ:Heap->Prop)
noncomputable abbrev Hp:=Addr->Option HO
noncomputable def upd (H:Hp) (a:Addr) (o:HO):Hp:=λb=>if b=a then some o else H b
theorem aP {H:Hp} {a:Addr} {o:HO}:upd H a o a=some o:=by unfold upd;rw[if_pos rfl]
theorem aI {H:Hp} {a b:Addr} {o:HO} (h:b≠a):upd H a o b=H b:=by unfold upd;rw[if_neg h]
theorem bc {H:Hp} {a b:Addr} {o:HO} (h:H a=some o) (h':H b=none):a≠b:=by intro e;subst e;rw[h] at h';cases h'
noncomputable def lu (h:Heap) (a:Addr) (items:Array Value):Prop:=∃o,h.get? a=some o/\o.cls= .type "tuple"/\∃n,o.data= .seq items n/\o.dict=none/\o.slots=#[]
theorem lu.is {h:Heap} {a:Addr} {items:Array Value}:lu h a items->IsTup h a items
 | ⟨o,a,b,n,c,_⟩=>⟨o,a,b,n,c⟩
theorem lu.new (h:Heap) (items:Array Value):lu (h.push {cls:= .type "tuple",data:= .seq items}) h.objs.size items:=⟨_,Pl _ rfl,rfl,_,rfl,rfl,rfl⟩
section
variable (P:Program) (w:World)
noncomputable def bH (H:Hp) (h:Heap) (a:Addr):HO->Prop
 | .lst xs=>xs.length<=sizeLine/\∃(its:List Value) (n:Nat),au xs its/\h.get? a=some {cls:= .type "list",data:= .seq its.toArray n}
 | .tup xs=>xs.length<=sizeLine/\∃its:List Value,au xs its/\lu h a its.toArray
 | .dK cV=>cV.length<=sizeLine/\(a==sysModules)=false/\∃vs,KV cV vs/\h.DictOf (nJ P w) a vs
 | .dT cV=>cV.length<=sizeLine/\(a==sysModules)=false/\∃xs:List (List Key×Addr×Value),
   Paired (λ(p:List Key×V) (q:List Key×Addr×Value)=>p.1=q.1/\H q.2.1=some (.tup (p.1.map kV))/\RelV p.2 q.2.2) cV xs/\
   ∃o es ep,h.get? a=some o/\o.ExactDict/\o.data= .dict es ep/\es.toList=xs.map (entryOfKey (tupleKind (nJ P w)))/\(xs.map (·.1)).Nodup
 | .set S n=>h.SetOf (intKind P w) a S n
 | .ins C dx fs=>H dx=some (.own a)/\fs.length<=1000/\dx≠a/\h.get? a=some (PySem.W.instObj C dx)/\
   ∃mA,h.Ns1 dx mA/\(∀f,BW (fs.lookup f) (mA f))/\PySem.Within mA (fs.map (·.1))
 | .own _=>∃o,h.get? a=some o
 | .xd fs=>∃mA,h.Ns1 a mA/\∀f,BW (fs.lookup f) (mA f)
 | .Lb lo hi=>∃t u v,h.get? a=some {cls:= .type "range",data:= .fields #[.int lo t,.int hi u,.int 1 v]}
 | .sF o u=>h.get? a=some o/\bH H h a u
 | .yW ps=>h.get? a=some {cls:= .none,data:= .fields ps}
 | .met f x=>h.get? a=some (PySem.W.methodObj (.ref f) (.ref x))
 | .ext φ=>φ h/\(∃o,h.get? a=some o)/\∀h1 h2:Heap,φ h1->(∀o,h1.get? a=some o->h2.get? a=some o)->φ h2
noncomputable def eX (H:Hp) (h:Heap):Prop:=∀a o,H a=some o->bH P w H h a o
end
section
variable {P:Program} {w:World} {H H':Hp} {h h':Heap} {a:Addr} {o:HO}
theorem bH.lt (x:bH P w H h a o):a < h.objs.size:=by
 cases o with
 | lst xs=>obtain⟨_,_,_,_,e⟩:=x;exact Po e
 | tup xs=>obtain⟨_,_,_,p⟩:=x;exact p.is.lt
 | dK cV=>obtain⟨_,_,_,_,o,_,_,e,_⟩:=x;exact Po e
 | dT cV=>obtain⟨_,_,_,_,o,_,_,e,_⟩:=x;exact Po e
 | set S n=>obtain⟨o,_,_,_,e,_⟩:=x;exact Po e
 | ins C dx fs=>obtain⟨_,_,_,e,_⟩:=x;exact Po e
 | own y=>obtain⟨_,e⟩:=x;exact Po e
 | xd fs=>obtain⟨_,⟨_,_,_,e,_⟩,_⟩:=x;exact Po e
 | Lb lo hi=>obtain⟨_,_,_,e⟩:=x;exact Po e
 | sF ob u=>obtain⟨e,_⟩:=x;exact Po e
 | yW ps=>exact Po (show h.get? a=some _ from x)
 | met f y=>exact Po (show h.get? a=some _ from x)
 | ext φ=>obtain⟨_,⟨_,e⟩,_⟩:=x;exact Po e
theorem Paired.GF {α β:Type} {F G:α->β->Prop}:∀{l₁:List α} {l₂:List β},Paired F l₁ l₂->(∀a b,F a b->G a b)->Paired G l₁ l₂
 | _,_,.nil,_=> .nil
 | _,_,.cons r t,f=> .cons (f _ _ r) (Paired.GF t f)
theorem bH.rh (x:bH P w H h a o) (k:∀b u,(b=a\/H b=some (.own a))->h.get? b=some u->h'.get? b=some u)
  (ho:∀b,H b=some (.own a)->H' b=some (.own a)) (ht:∀b xs,H b=some (.tup xs)->H' b=some (.tup xs)):bH P w H' h' a o:=by
 induction o with
 | lst xs=>obtain⟨z,its,n,r,e⟩:=x;exact⟨z,its,n,r,k _ _ (.inl rfl) e⟩
 | tup xs=>obtain⟨z,its,r,ob,e,c⟩:=x;exact⟨z,its,r,ob,k _ _ (.inl rfl) e,c⟩
 | dK cV=>obtain⟨z,y,vs,r,ob,es,ep,e,c⟩:=x;exact⟨z,y,vs,r,ob,es,ep,k _ _ (.inl rfl) e,c⟩
 | dT cV=>obtain⟨z,y,xs,r,ob,es,ep,e,c⟩:=x;exact⟨z,y,xs,Paired.GF r λp q z=>⟨z.1,ht _ _ z.2.1,z.2.2⟩,ob,es,ep,k _ _ (.inl rfl) e,c⟩
 | set S n=>obtain⟨ob,es,ep,t,e,c⟩:=x;exact⟨ob,es,ep,t,k _ _ (.inl rfl) e,c⟩
 | ins C dx fs=>obtain⟨d,z,ne,e,mA,⟨od,es,ep,e2,c⟩,r⟩:=x;exact⟨ho _ d,z,ne,k _ _ (.inl rfl) e,mA,⟨od,es,ep,k _ _ (.inr d) e2,c⟩,r⟩
 | own y=>obtain⟨ob,e⟩:=x;exact⟨ob,k _ _ (.inl rfl) e⟩
 | xd fs=>obtain⟨mA,⟨od,es,ep,e,c⟩,r⟩:=x;exact⟨mA,⟨od,es,ep,k _ _ (.inl rfl) e,c⟩,r⟩
 | Lb lo hi=>obtain⟨t,u,v,e⟩:=x;exact⟨t,u,v,k _ _ (.inl rfl) e⟩
 | sF ob u ih=>obtain⟨e,q⟩:=x;exact⟨k _ _ (.inl rfl) e,ih q⟩
 | yW ps=>have e:h.get? a=some {cls:= .none,data:= .fields ps}:=x;show h'.get? a=some {cls:= .none,data:= .fields ps};exact k a _ (.inl rfl) e
 | met f y=>have e:h.get? a=some (PySem.W.methodObj (.ref f) (.ref y)):=x;show h'.get? a=some (PySem.W.methodObj (.ref f) (.ref y));exact k a _ (.inl rfl) e
 | ext φ=>obtain⟨p,⟨o,e⟩,st⟩:=x;exact⟨st _ _ p λo q=>k _ _ (.inl rfl) q,⟨o,k _ _ (.inl rfl) e⟩,st⟩
theorem eX.lt (x:eX P w H h) (e:H a=some o):a < h.objs.size:=(x a o e).lt
theorem eX.fresh (x:eX P w H h) (e:h.objs.size<=a):H a=none:=by
 cases q:H a with
 | none=>rfl
 | some u=>exact absurd (PC (x.lt q) e) (Nat.lt_irrefl _)
theorem eX.kept (x:eX P w H h) (k:∀b u,h.get? b=some u->h'.get? b=some u):eX P w H h':=λa o e=>
 (x a o e).rh (λb u _ q=>k b u q) (λ_ q=>q) λ_ _ q=>q
theorem eX.laid (x:eX P w H h) (k:∀b u,h.get? b=some u->h'.get? b=some u) (hp:h.objs.size<=a) (new:bH P w (upd H a o) h' a o):eX P w (upd H a o) h':=λb u e=>by
 have hn:=x.fresh hp;by_cases hb:b=a
 ·subst hb;rw[aP] at e;cases e;exact new
 ·rw[aI hb] at e;exact(x b u e).rh (λc v _ q=>k c v q) (λc q=>by rw[aI (bc q hn)];exact q) λc xs q=>by rw[aI (bc q hn)];exact q
end
noncomputable def Rd (H:Hp) (a:Addr) (u:HO):Prop:=H a=some u\/∃o,H a=some (.sF o u)
theorem Rd.ok {P:Program} {w:World} {H:Hp} {h:Heap} {a:Addr} {u:HO} (r:Rd H a u) (x:eX P w H h):bH P w H h a u:=by
 rcases r with r | ⟨o,r⟩
 ·exact x a u r
 ·obtain⟨_,q⟩:=x a _ r;exact q
noncomputable def Ip:Option HO->Prop
 | some (.lst _)=>True
 | some (.dK _)=>True
 | some (.dT _)=>True
 | some (.set _ _)=>True
 | some (.ins _ _ _)=>True
 | some (.ext _)=>True
 | _=>False
section
variable {P:Program} {w:World} {H:Hp} {h h':Heap} {x e:Addr} {o':HO}
theorem eX.write (ok:eX P w H h) (mu:Ip (H x)) (he:e=x\/H e=some (.own x)) (k:∀b u,b≠e->h.get? b=some u->h'.get? b=some u) (EN:∃u,h'.get? e=some u)
  (new:bH P w (upd H x o') h' x o'):eX P w (upd H x o') h':=λb u q=>by
 have GQ:∀c y,H c=some (.own y)->c≠x:=λc y r z=>by subst z;rw[r] at mu;exact mu
 have KQ:∀c xs,H c=some (.tup xs)->c≠x:=λc xs r z=>by subst z;rw[r] at mu;exact mu
 by_cases hb:b=x
 ·subst hb;rw[aP] at q;cases q;exact new
 ·rw[aI hb] at q;by_cases hbe:b=e
  ·have q':H b=some (.own x):=by
    rcases he with z | z
    ·exact absurd (hbe.trans z) hb
    ·rw[hbe];exact z
   rw[q] at q';cases q';obtain⟨v,hv⟩:=EN;exact⟨v,by rw[hbe];exact hv⟩
  ·refine(ok b u q).rh (λc v hc r=>k c v ?_ r) (λc r=>by rw[aI (GQ c b r)];exact r) λc xs r=>by rw[aI (KQ c xs r)];exact r
   rcases hc with rfl | hc
   ·exact hbe
   ·rintro rfl;rcases he with z | z
    ·exact GQ c b hc z
    ·rw[hc] at z;cases z;exact hb rfl
end
structure Un (fs ex:List Addr) (H H':Hp) (h h':Heap):Prop where
 keep:∀b o,h.get? b=some o->H b=none->b∉fs->b∉ex->h'.get? b=some o
 slot:∀b o,h.get? b=some o->H b=none->b∈fs->b∉ex->∃sl,h'.get? b=some {o with slots:=sl}
 free:∀b o,h.get? b=some o->H b=none->b∉ex->H' b=none
 there:∀b o,h.get? b=some o->b∉ex->∃o',h'.get? b=some o'
 tups:∀b xs,H b=some (.tup xs)->H' b=some (.tup xs)
 frzs:∀b o u,H b=some (.sF o u)->H' b=some (.sF o u)
 tbls:∀b ps,H b=some (.yW ps)->∃more,H' b=some (.yW (ps++more))
section
variable {fs JS ex OJ:List Addr} {H H1 H2:Hp} {h h1 h2 h':Heap} {a x e:Addr} {o:HO}
theorem Un.any (u:Un fs ex H H1 h h1) {b:Addr} {ob:Obj} (q:h.get? b=some ob) (n:H b=none) (hx:b∉ex):∃sl,h1.get? b=some {ob with slots:=sl}:=by
 by_cases hb:b∈fs
 ·exact u.slot b ob q n hb hx
 ·exact⟨ob.slots,u.keep b ob q n hb hx⟩
theorem Un.trans (a:Un fs ex H H1 h h1) (b:Un fs ex H1 H2 h1 h2):Un fs ex H H2 h h2 where
 keep:=λc ob q n hc hx=>b.keep c ob (a.keep c ob q n hc hx) (a.free c ob q n hx) hc hx
 slot:=λc ob q n hc hx=>by obtain⟨sl,e1⟩:=a.slot c ob q n hc hx;obtain⟨Ln,e2⟩:=b.slot c _ e1 (a.free c ob q n hx) hc hx;exact⟨Ln,e2⟩
 free:=λc ob q n hx=>by obtain⟨o',e1⟩:=a.there c ob q hx;exact b.free c o' e1 (a.free c ob q n hx) hx
 there:=λc ob q hx=>by obtain⟨o',e1⟩:=a.there c ob q hx;exact b.there c o' e1 hx
 tups:=λc xs q=>b.tups c xs (a.tups c xs q)
 frzs:=λc ob xs q=>b.frzs c ob xs (a.frzs c ob xs q)
 tbls:=λc ps q=>by obtain⟨m1,e1⟩:=a.tbls c ps q;obtain⟨m2,e2⟩:=b.tbls c _ e1;exact⟨m1++m2,by rw[e2,Array.append_assoc]⟩
theorem Un.kept (k:∀b u,h.get? b=some u->h'.get? b=some u):Un fs ex H H h h':=
 ⟨λb ob q _ _ _=>k b ob q,λb ob q _ _ _=>⟨ob.slots,k b ob q⟩,λ_ _ _ n _=>n,λb ob q _=>⟨ob,k b ob q⟩,λ_ _ q=>q,λ_ _ _ q=>q,λ_ ps q=>⟨#[],by rw[q];simp⟩⟩
theorem Un.refl:Un fs ex H H h h:=Un.kept λ_ _ q=>q
theorem Un.laid (k:∀b u,h.get? b=some u->h'.get? b=some u) (hp:h.objs.size<=a) (hn:H a=none):Un fs ex H (upd H a o) h h' where
 keep:=λb u q _ _ _=>k b u q
 slot:=λb u q _ _ _=>⟨u.slots,k b u q⟩
 free:=λb u q n _=>by rw[aI (PQ (PC (Po q) hp))];exact n
 there:=λb u q _=>⟨u,k b u q⟩
 tups:=λb xs q=>by rw[aI (bc q hn)];exact q
 frzs:=λb u xs q=>by rw[aI (bc q hn)];exact q
 tbls:=λb ps q=>⟨#[],by rw[aI (bc q hn),q];simp⟩
theorem Un.write (mu:Ip (H x)) (he:e=x\/H e=some (.own x)) (k:∀b u,b≠e->h.get? b=some u->h'.get? b=some u) (EN:∃u,h'.get? e=some u):Un fs ex H (upd H x o) h h':=by
 have hx:∀b,H b=none->b≠x:=λb n z=>by subst z;rw[n] at mu;exact mu
 have hb:∀b,H b=none->b≠e:=λb n z=>by
  subst z;rcases he with r | r
  ·exact hx b n r
  ·rw[n] at r;cases r
 have hm:∀b u,H b=some u->¬Ip (some u)->b≠x:=λb u q nm z=>by subst z;rw[q] at mu;exact nm mu
 refine⟨λb u q n _ _=>k b u (hb b n) q,λb u q n _ _=>⟨u.slots,k b u (hb b n) q⟩,λb u q n _=>by rw[aI (hx b n)];exact n,λb u q _=>?_,
  λb xs q=>by rw[aI (hm b _ q λz=>z)];exact q,λb u xs q=>by rw[aI (hm b _ q λz=>z)];exact q,λb ps q=>⟨#[],by rw[aI (hm b _ q λz=>z),q];simp⟩⟩
 by_cases hbe:b=e
 ·subst hbe;exact EN
 ·exact⟨u,k b u hbe q⟩
end
noncomputable def Jf (h:Heap) (H:Hp):List Addr:=(List.range h.objs.size).filter λa=>(H a).isSome
noncomputable def nv (h:Heap) (H:Hp):Heap:=PySem.W.hideAll h (Jf h H)
theorem uG (h:Heap) (H:Hp):(nv h H).objs.size=h.objs.size:=PySem.W.hideAll_size _ _
theorem wO {h:Heap} {H:Hp} {b:Addr} {o:Obj} (e:h.get? b=some o) (n:H b=none):(nv h H).get? b=some o:=
 PySem.W.hideAll_get _ e λhm=>by have q:(H b).isSome=true:=(List.mem_filter.mp hm).2;rw[n] at q;simp at q
theorem Ai {h:Heap} {H:Hp} {b:Addr} {o:Obj} (e:(nv h H).get? b=some o):h.get? b=some o/\H b=none:=by
 have e':h.get? b=some o:=PySem.W.of_hideAll (Jf h H) e;refine⟨e',?_⟩;cases q:H b with
 | none=>rfl
 | some x=>have hm:b∈Jf h H:=List.mem_filter.mpr ⟨Qd.mpr (Po e'),by simp[q]⟩;have z:(nv h H).get? b=none:=PySem.W.hideAll_none (Jf h H) hm;rw[z] at e;cases e
noncomputable def zd (g h:Heap) (L:Addr):List (Addr×Obj):=(List.range h.objs.size).filterMap λa=>if a=L\/(g.get? a).isSome=true then none else(h.get? a).map λo=>(a,o)
noncomputable def rest (g h:Heap) (L d:Addr):List (Addr×Obj):=(zd g h L).filter λp=>decide (p.1≠d)
end L2
namespace L2
open PySem PySem.Spec PyProof.Rows
structure Mod (K:PySem.W.Frag) (mg:Str->Option Value) (base:Heap):Prop where
 KH:K.In base
 glob:base.Ns mainGlobals mg
 blt:∃mb,base.Ns builtinsNs mb/\∀x:Str,x≠"__name__"->mb x=bootBuiltins x
 nolimit:base.NoLimit
structure Cx where
 prog:Program
 w:World
 K:PySem.W.Frag
 mg:Str->Option Value
 base:Heap
 A:Around
 N:List Str
 s₀:Shared
 H₀:Hp
 env:Env
 outer:List Env
 stack:List Env
 ex:List Addr
 fn:Str->Bool
 calm:Bool
 pn:List (Addr×Obj)
 xe:Value->Shared->Prop
noncomputable def jB (l:List Env):List Addr:=l.filterMap (·.frame)
noncomputable abbrev Cx.fs (X:Cx):List Addr:=jB X.outer
noncomputable def E9 (sc:Scope) (x:Str):Prop:=sc.names.lookup x=some .local\/sc.names.lookup x=some .cell\/sc.names.lookup x=some .free
noncomputable def Loc (sc:Scope) (x:Str):Prop:=sc.names.lookup x=some .local\/sc.names.lookup x=some .cell
noncomputable def Look (env:Env) (h:Heap) (m:Str->Option Value) (x:Str) (u:Value):Prop:=
 (env.kindOf x=some .local/\m x=some u)\/((env.kindOf x=some .cell\/env.kindOf x=some .free)/\∃c,env.cells.lookup x=some c/\h.IsCell c (some u))
structure Cx.Ok (X:Cx):Prop where
 mod:Mod X.K X.mg X.base
 kind:X.env.scope.kind= .function
 glob:X.env.globals=mainGlobals
 blt:X.env.builtins=builtinsNs
 above:X.s₀.heap.objs.size<=X.env.locals
 inj:∀x y c,X.env.cells.lookup x=some c->X.env.cells.lookup y=some c->x=y
 has:∀x,(X.env.kindOf x=some .cell\/X.env.kindOf x=some .free)->∃c,X.env.cells.lookup x=some c
 Cg:∀x c,X.fn x=true->X.env.cells.lookup x=some c->X.s₀.heap.objs.size<=c
 hd:X.calm=true->X.A.handled=none
 frames:X.A.frames=some X.stack
 Jc:X.stack=X.outer\/(X.stack=X.env::X.outer/\X.env.frame=some X.env.locals)
 FF:∀b∈X.ex,b≠X.env.locals/\∀x c,X.env.cells.lookup x=some c->c≠b
 bs:∀b o,X.base.get? b=some o->X.s₀.heap.get? b=some o/\X.H₀ b=none
 Bd:X.base.objs.size<=X.s₀.heap.objs.size
 qV:∀b o,X.base.get? b=some o->b∉X.ex
 uy:∀b∈X.ex,b∉X.fs
 km:X.s₀.heap.FunFrames X.base X.outer
 EI:∀b∈X.fs,X.H₀ b=none
structure Inv (X:Cx) (pins:List (Addr×Obj)) (σ:List (Option V)) (H:Hp) (s:Shared):Prop where
 ok:X.Ok
 os:s.os=X.s₀.os
 bare:AllBare s.gens
 base:Un X.fs X.ex X.H₀ H X.s₀.heap s.heap
 loc:∃m,s.heap.Ns X.env.locals m/\∀(i:Nat) (x:Str) (v:V),X.N[i]?=some x->σ[i]?=some (some v)->E9 X.env.scope x->∃u,RelV v u/\Look X.env s.heap m x u
 cell:∀x c,X.env.cells.lookup x=some c->∃v,s.heap.IsCell c v
 free:H X.env.locals=none
 et:∀x c,X.env.cells.lookup x=some c->H c=none
 pin:∀p∈X.pn++pins,s.heap.get? p.1=some p.2/\H p.1=none/\p.1≠X.env.locals/\p.1∉X.fs/\∀v,p.2.data≠ .cell v
 hok:eX X.prog X.w H s.heap
 len:σ.length=X.N.length
section
variable {X:Cx} {pins:List (Addr×Obj)} {σ:List (Option V)} {H H':Hp} {s:Shared} {h':Heap}
theorem Cx.Ok.KO (ok:X.Ok) {b:Addr} {o:Obj} (e:X.base.get? b=some o):b∉X.fs:=λhb=>by have:=(ok.km.mem hb).1;rw[e] at this;cases this
theorem Inv.bs (I:Inv X pins σ H s):∀b o,X.base.get? b=some o->s.heap.get? b=some o/\H b=none:=λb o e=>
 ⟨I.base.keep b o (I.ok.bs b o e).1 (I.ok.bs b o e).2 (I.ok.KO e) (I.ok.qV b o e),I.base.free b o (I.ok.bs b o e).1 (I.ok.bs b o e).2 (I.ok.qV b o e)⟩
theorem Inv.bk (I:Inv X pins σ H s):∀b o,X.base.get? b=some o->s.heap.get? b=some o:=λb o e=>(I.bs b o e).1
theorem Inv.mod (I:Inv X pins σ H s):Mod X.K X.mg X.base:=I.ok.mod
theorem Inv.pe (I:Inv X pins σ H s):X.K.In s.heap:=I.ok.mod.KH.keeps I.bk
theorem Inv.fr (I:Inv X pins σ H s):∃m,Fr X.base X.env.locals s.heap m:=
 let ⟨m,hn,_⟩:=I.loc
 ⟨m,hn,I.bk,Pp I.ok.Bd I.ok.above⟩
theorem Inv.lt (I:Inv X pins σ H s):X.env.locals < s.heap.objs.size:=let ⟨_,hn,_⟩:=I.loc;hn.lt
theorem Inv.sz (I:Inv X pins σ H s):X.s₀.heap.objs.size<=s.heap.objs.size:=Pp I.ok.above (Nat.le_of_lt I.lt)
theorem Inv.KP (I:Inv X pins σ H s) {a:Addr} (h:s.heap.objs.size<=a):a∉X.fs:=λhb=>by obtain⟨_,o,ho,_⟩:=I.ok.km.mem hb;exact absurd (PC (Po ho) (Pp I.sz h)) (Nat.lt_irrefl _)
theorem Inv.Ck (I:Inv X pins σ H s):∀x c,X.env.cells.lookup x=some c->c≠X.env.locals:=λx c e z=>by obtain⟨v,o,ho,hd⟩:=I.cell x c e;obtain⟨m,⟨o',es,ep,CG,qf,_⟩,_⟩:=I.loc;rw[z,CG] at ho;cases ho;rw[qf] at hd;cases hd
theorem Inv.km (I:Inv X pins σ H s):s.heap.FunFrames X.base X.outer:=by
 have all:∀(l:List Env),(∀b∈jB l,b∈X.fs)->X.s₀.heap.FunFrames X.base l->s.heap.FunFrames X.base l:=by
  intro l
  induction l with
  | nil=>intro _ _;trivial
  | cons env r ih=>
   intro hs hl;obtain⟨hk,⟨L,o,hf,hn,ho,hd⟩,hr⟩:=hl;have hL:L∈X.fs:=hs L (by unfold jB;rw[List.filterMap_cons,hf];exact Pk);obtain⟨sl,e⟩:=I.base.slot L o ho (I.ok.EI L hL) hL λz=>I.ok.uy L z hL
   exact⟨hk,⟨L,_,hf,hn,e,hd⟩,ih (λb hb=>hs b (by unfold jB;rw[List.filterMap_cons,hf];exact Ph _ hb)) hr⟩
 exact all X.outer (λ_ hb=>hb) I.ok.km
theorem Inv.stack (I:Inv X pins σ H s):s.heap.FunFrames X.base X.stack:=by
 rcases I.ok.Jc with e | ⟨e,hf⟩
 ·rw[e];exact I.km
 ·rw[e];obtain⟨m,hn,_⟩:=I.loc;refine .cons (by rw[I.ok.kind];decide) hf hn ?_ I.km;exact Heap.get?_none_of_le (Pp I.ok.Bd I.ok.above)
theorem Inv.nV (I:Inv X pins σ H s):∀b∈jB X.stack,b∈X.env.locals::X.fs:=λb hb=>by
 rcases I.ok.Jc with e | ⟨e,hf⟩
 ·rw[e] at hb;exact Ph _ hb
 ·rw[e] at hb;unfold jB at hb;rw[List.filterMap_cons,hf] at hb;exact hb
theorem Inv.tS (I:Inv X pins σ H s):∀b∈jB X.stack,H b=none:=λb hb=>by
 rcases Pq.mp (I.nV b hb) with e | hb
 ·rw[e];exact I.free
 ·obtain⟨_,o,ho,_⟩:=I.ok.km.mem hb;exact I.base.free b o ho (I.ok.EI b hb) λz=>I.ok.uy b z hb
theorem Inv.step {g':Array GenState} {t':Nat} {d':Drawn} {ch:List Addr} (I:Inv X pins σ H s)
  (yN:∀b∈ch,(b∈X.ex\/X.s₀.heap.objs.size<=b)/\b≠X.env.locals/\(∀x c,X.env.cells.lookup x=some c->c≠b)/\∀p∈X.pn++pins,p.1≠b)
  (keep:∀b o,b≠X.env.locals->b∉X.fs->b∉ch->s.heap.get? b=some o->H b=none->h'.get? b=some o)
  (slot:∀b o,b≠X.env.locals->b∈X.fs->b∉ch->s.heap.get? b=some o->H b=none->∃sl,h'.get? b=some {o with slots:=sl}) (free:∀b o,b∉ch->s.heap.get? b=some o->H b=none->H' b=none)
  (there:∀b o,b∉ch->s.heap.get? b=some o->∃o',h'.get? b=some o')
  (tups:∀b xs,H b=some (.tup xs)->H' b=some (.tup xs)) (frzs:∀b o u,H b=some (.sF o u)->H' b=some (.sF o u)) (tbls:∀b ps,H b=some (.yW ps)->∃more,H' b=some (.yW (ps++more)))
  (ns:∀m,s.heap.Ns X.env.locals m->h'.Ns X.env.locals m) (hok:eX X.prog X.w H' h') (hg:AllBare g'):
  Inv X pins σ H' {s with heap:=h',gens:=g',drawn:=d',toks:=t'}:=by
 have Mv:∀b o,X.s₀.heap.get? b=some o->b≠X.env.locals:=λb o e=>PQ (PC (Po e) I.ok.above)
 have IW:∀b o,X.s₀.heap.get? b=some o->b∉X.ex->b∉ch:=λb o e hx hb=>by
  rcases (yN b hb).1 with z | z
  ·exact hx z
  ·exact absurd (PC (Po e) z) (Nat.lt_irrefl _)
 have cellK:∀x c,X.env.cells.lookup x=some c->∀v,s.heap.IsCell c v->h'.IsCell c v:=λx c e v ⟨o,ho,hd⟩=>by
  have GI:c∉ch:=λz=>(yN c z).2.2.1 x c e rfl
  by_cases hc:c∈X.fs
  ·obtain⟨sl,q⟩:=slot c o (I.Ck x c e) hc GI ho (I.et x c e);exact⟨_,q,hd⟩
  ·exact⟨o,keep c o (I.Ck x c e) hc GI ho (I.et x c e),hd⟩
 refine⟨I.ok,I.os,hg,⟨λb o e n hb hx=>?_,λb o e n hb hx=>?_,λb o e n hx=>?_,λb o e hx=>?_,λb xs e=>tups b xs (I.base.tups b xs e),λb o xs e=>frzs b o xs (I.base.frzs b o xs e),λb ps e=>?_⟩,?_,λx c e=>?_,?_,λx c e=>?_,λp hp=>?_,hok,I.len⟩
 ·exact keep b o (Mv b o e) hb (IW b o e hx) (I.base.keep b o e n hb hx) (I.base.free b o e n hx)
 ·obtain⟨sl,e1⟩:=I.base.slot b o e n hb hx;obtain⟨Ln,e2⟩:=slot b _ (Mv b o e) hb (IW b o e hx) e1 (I.base.free b o e n hx);exact⟨Ln,e2⟩
 ·obtain⟨o',e1⟩:=I.base.there b o e hx;exact free b o' (IW b o e hx) e1 (I.base.free b o e n hx)
 ·obtain⟨o',e1⟩:=I.base.there b o e hx;exact there b o' (IW b o e hx) e1
 ·obtain⟨m1,e1⟩:=I.base.tbls b ps e;obtain⟨m2,e2⟩:=tbls b _ e1;exact⟨m1++m2,by rw[e2,Array.append_assoc]⟩
 ·obtain⟨m,hn,hl⟩:=I.loc;refine⟨m,ns m hn,λi x v e1 e2 e3=>?_⟩;obtain⟨u,r,l⟩:=hl i x v e1 e2 e3;refine⟨u,r,?_⟩;rcases l with l | ⟨k,c,e,z⟩
  ·exact .inl l
  ·exact .inr ⟨k,c,e,cellK x c e _ z⟩
 ·obtain⟨v,z⟩:=I.cell x c e;exact⟨v,cellK x c e v z⟩
 ·obtain⟨m,⟨o,_,_,ho,_⟩,_⟩:=I.loc;exact free _ o (λz=>(yN _ z).2.1 rfl) ho I.free
 ·obtain⟨v,o,ho,hd⟩:=I.cell x c e;exact free c o (λz=>(yN c z).2.2.1 x c e rfl) ho (I.et x c e)
 ·obtain⟨e,n,ne,nf,d⟩:=I.pin p hp;have GI:p.1∉ch:=λz=>(yN p.1 z).2.2.2 p hp rfl
  exact⟨keep p.1 p.2 ne nf GI e n,free p.1 p.2 GI e n,ne,nf,d⟩
theorem Inv.un {t':Nat} (I:Inv X pins σ H s) (u:Un X.fs [] H H' s.heap h') (hok:eX X.prog X.w H' h'):Inv X pins σ H' {s with heap:=h',toks:=t'}:=by
 obtain⟨m,⟨o,es,ep,ho,r⟩,_⟩:=id I.loc;obtain⟨sl,hL⟩:=u.any ho I.free (by simp);exact I.step (g':=s.gens) (d':=s.drawn) (ch:=[]) (λ_ z=>nomatch z) (λb o _ hb _ e n=>u.keep b o e n hb (by simp)) (λb o _ hb _ e n=>u.slot b o e n hb (by simp)) (λb o _ e n=>u.free b o e n (by simp)) (λb o _ e=>u.there b o e (by simp)) u.tups u.frzs u.tbls (λm' hm=>by
  obtain⟨o',eY,JO,CG,r'⟩:=hm;rw[ho] at CG;cases CG;exact⟨_,eY,JO,hL,r'⟩) hok I.bare
theorem Inv.call {g':Array GenState} {t':Nat} {d':Drawn} {ch:List Addr} (I:Inv X pins σ H s) (u:Un (jB X.stack) ch H H' s.heap h') (hok:eX X.prog X.w H' h') (hg:AllBare g')
  (yN:∀b∈ch,(b∈X.ex\/X.s₀.heap.objs.size<=b)/\b≠X.env.locals/\(∀x c,X.env.cells.lookup x=some c->c≠b)/\∀p∈X.pn++pins,p.1≠b):
  Inv X pins σ H' {s with heap:=h',gens:=g',drawn:=d',toks:=t'}:=by
 obtain⟨m,⟨o,es,ep,ho,r⟩,_⟩:=id I.loc;obtain⟨sl,hL⟩:=u.any ho I.free λz=>(yN _ z).2.1 rfl
 exact I.step (ch:=ch) yN (λb o hL hb hc e n=>u.keep b o e n (λz=>(Pq.mp (I.nV b z)).elim hL hb) hc) (λb o _ _ hc e n=>u.any e n hc) (λb o hc e n=>u.free b o e n hc) (λb o hc e=>u.there b o e hc) u.tups u.frzs u.tbls (λm' hm=>by
  obtain⟨o',eY,JO,CG,r'⟩:=hm;rw[ho] at CG;cases CG;exact⟨_,eY,JO,hL,r'⟩) hok hg
theorem Inv.turned {t':Nat} {it:Addr} (I:Inv X pins σ H s) (k:∀b o,b≠it->s.heap.get? b=some o->h'.get? b=some o) (hn:H it=none) (hL:it≠X.env.locals)
  (h1:it∈X.ex\/X.s₀.heap.objs.size<=it) (h2:∀x c,X.env.cells.lookup x=some c->c≠it) (h3:∀p∈X.pn++pins,p.1≠it):Inv X pins σ H {s with heap:=h',toks:=t'}:=by
 have Mw:∀b u,H b=some u->b≠it:=λb u e z=>by rw[z,hn] at e;cases e
 refine I.step (g':=s.gens) (d':=s.drawn) (ch:=[it]) (λb hb=>?_) (λb o _ _ hc e _=>k b o (λz=>hc (by simp[z])) e) (λb o _ _ hc e _=>⟨o.slots,k b o (λz=>hc (by simp[z])) e⟩) (λ_ _ _ _ n=>n)
  (λb o hc e=>⟨o,k b o (λz=>hc (by simp[z])) e⟩) (λ_ _ e=>e) (λ_ _ _ e=>e) (λb ps e=>⟨#[],by rw[e];simp⟩) (λm hm=>?_) (λb u e=>?_) I.bare
 ·have e:b=it:=by simpa using hb
  subst e;exact⟨h1,hL,h2,h3⟩
 ·obtain⟨o,es,ep,ho,r⟩:=hm;exact⟨o,es,ep,k _ o (Ne.symm hL) ho,r⟩
 ·refine(I.hok b u e).rh (λc v hc q=>k c v ?_ q) (λ_ q=>q) λ_ _ q=>q
  rcases hc with z | z
  ·rw[z];exact Mw b u e
  ·exact Mw c _ z
theorem Inv.tok (I:Inv X pins σ H s) (t:Nat):Inv X pins σ H {s with toks:=t}:=I.un (h':=s.heap) (t':=t) Un.refl I.hok
theorem Inv.kept {t':Nat} (I:Inv X pins σ H s) (k:∀b u,s.heap.get? b=some u->h'.get? b=some u):Inv X pins σ H {s with heap:=h',toks:=t'}:=I.un (Un.kept k) (I.hok.kept k)
theorem Inv.laid {a:Addr} {o:HO} {t':Nat} (I:Inv X pins σ H s) (k:∀b u,s.heap.get? b=some u->h'.get? b=some u) (hp:s.heap.objs.size<=a) (new:bH X.prog X.w (upd H a o) h' a o):
  Inv X pins σ (upd H a o) {s with heap:=h',toks:=t'}:=I.un (Un.laid k hp (I.hok.fresh hp)) (I.hok.laid k hp new)
theorem Inv.write {x e:Addr} {o:HO} {t':Nat} (I:Inv X pins σ H s) (mu:Ip (H x)) (he:e=x\/H e=some (.own x)) (k:∀b u,b≠e->s.heap.get? b=some u->h'.get? b=some u) (EN:∃u,h'.get? e=some u)
  (new:bH X.prog X.w (upd H x o) h' x o):Inv X pins σ (upd H x o) {s with heap:=h',toks:=t'}:=I.un (Un.write mu he k EN) (I.hok.write mu he k EN new)
theorem Inv.weak {σ':List (Option V)} (I:Inv X pins σ H s) (hl:σ'.length=σ.length) (w:∀(i:Nat) v,σ'[i]?=some (some v)->σ[i]?=some (some v)):Inv X pins σ' H s:=
 ⟨I.ok,I.os,I.bare,I.base,let ⟨m,hn,CD⟩:=I.loc;⟨m,hn,λi x v e1 e2 e3=>CD i x v e1 (w i v e2) e3⟩,I.cell,I.free,I.et,I.pin,I.hok,hl.trans I.len⟩
theorem Inv.tw {By:List (Addr×Obj)} (I:Inv X pins σ H s) (h:∀p∈By,s.heap.get? p.1=some p.2/\H p.1=none/\p.1≠X.env.locals/\p.1∉X.fs/\∀v,p.2.data≠ .cell v):Inv X By σ H s:=
 ⟨I.ok,I.os,I.bare,I.base,I.loc,I.cell,I.free,I.et,λp hp=>(PD.mp hp).elim (λz=>I.pin p (List.mem_append_left _ z)) (h p),I.hok,I.len⟩
theorem iO {N:List Str} (hN:N.Nodup) {i j:Nat} {x:Str} (a:N[i]?=some x) (b:N[j]?=some x):i=j:=by obtain⟨h1,e1⟩:=Pg.mp a;obtain⟨h2,e2⟩:=Pg.mp b;exact(List.getElem_inj hN).mp (e1.trans e2.symm)
theorem mE {M:Model} {A:Around} {E:Value->Shared->Prop} {i:Nat} {x:Str} {v:V} {u:Value} {Q:Unit->Shared->Prop} (I:Inv X pins σ H s) (hN:X.N.Nodup) (hi:X.N[i]?=some x) (hx:Loc X.env.scope x) (r:RelV v u)
  (h:∀s',Inv X pins (σ.set i (some v)) H s'->(∃a,Heap.SameBut a s.heap s'.heap/\(a=X.env.locals\/X.env.cells.lookup x=some a))->Q () s') (hf:X.fn x=true\/X.env.scope.names.lookup x=some .local:=by first | exact .inl rfl | exact .inr rfl | assumption):wpAny M A (storeName X.env x u) Q E s:=by
 obtain⟨m,hn,hl⟩:=id I.loc;have Kd:(X.env.scope.kind== .class||(X.env.scope.kind== .module&&X.env.locals != X.env.globals))=false:=by rw[I.ok.kind];rfl
 have hiσ:i < σ.length:=by rw[I.len];exact(Pg.mp hi).1
 have Ck:=I.Ck;have tracked:∀{a:Addr} {h':Heap},(∃o,s.heap.get? a=some o/\H a=none)->Heap.SameBut a s.heap h'->eX X.prog X.w H h':=λ {a h'} ha hs b ob e=>by
  obtain⟨_,_,Bp⟩:=ha;refine(I.hok b ob e).rh (λc w' hc q=>(hs.2 c ?_).trans q) (λ_ q=>q) λ_ _ q=>q
  rintro rfl;rcases hc with rfl | hc
  ·rw[Bp] at e;cases e
  ·rw[Bp] at hc;cases hc
 rcases hx with hk | hk
 ·refine wpAny_storeName_local hk hn (λh' NZ hs=>?_) Kd;obtain⟨oL,_,_,IQ,_⟩:=id hn;refine h _ ⟨I.ok,I.os,I.bare,⟨λb o e n hb hx=>?_,λb o e n hb hx=>?_,I.base.free,λb o e hx=>?_,I.base.tups,I.base.frzs,I.base.tbls⟩,⟨_,NZ,λj y v' e1 e2 e3=>?_⟩,λy c e=>?_,I.free,I.et,λp hp=>?_,tracked ⟨oL,IQ,I.free⟩ hs,by simpa using I.len⟩ ⟨_,hs,.inl rfl⟩
  ·exact(hs.2 b (PQ (PC (Po e) I.ok.above))).trans (I.base.keep b o e n hb hx)
  ·obtain⟨sl,e1⟩:=I.base.slot b o e n hb hx;exact⟨sl,(hs.2 b (PQ (PC (Po e) I.ok.above))).trans e1⟩
  ·obtain⟨o',e1⟩:=I.base.there b o e hx;exact⟨o',(hs.2 b (PQ (PC (Po e) I.ok.above))).trans e1⟩
  ·by_cases hj:j=i
   ·subst hj;rw[hi] at e1;cases e1;rw[Qc hiσ] at e2;cases e2;exact⟨u,r,.inl ⟨hk,by simp⟩⟩
   ·rw[Pw (Ne.symm hj)] at e2;obtain⟨u',r',q⟩:=hl j y v' e1 e2 e3;refine⟨u',r',?_⟩;rcases q with ⟨k,e⟩ | ⟨k,c,e,z⟩
    ·refine .inl ⟨k,?_⟩;have:y≠x:=λe=>hj (iO hN e1 (e▸hi))
     simp[this,e]
    ·exact .inr ⟨k,c,e,z.sameBut hs (Ck y c e)⟩
  ·obtain⟨w',z⟩:=I.cell y c e;exact⟨w',z.sameBut hs (Ck y c e)⟩
  ·obtain⟨e,n,ne,nf,d⟩:=I.pin p hp;exact⟨(hs.2 p.1 ne).trans e,n,ne,nf,d⟩
 ·have wN:X.fn x=true:=by
   rcases hf with z | z
   ·exact z
   ·rw[z] at hk;cases hk
  obtain⟨c,hc⟩:=I.ok.has x (.inl hk);obtain⟨w',z⟩:=I.cell x c hc;refine wpAny_storeName_cell I.ok.kind hk hc z (λh' nq hs=>?_);obtain⟨oc,Mi,Km⟩:=id z;refine h {s with heap:=h'} ⟨I.ok,I.os,I.bare,⟨λb o e n hb hx=>?_,λb o e n hb hx=>?_,I.base.free,λb o e hx=>?_,I.base.tups,I.base.frzs,I.base.tbls⟩,⟨m,hn.sameBut hs (Ne.symm (Ck x c hc)),λj y v' e1 e2 e3=>?_⟩,λy c' e=>?_,I.free,I.et,λp hp=>?_,tracked ⟨oc,Mi,I.et x c hc⟩ hs,by simpa using I.len⟩ ⟨c,hs,.inr hc⟩
  ·exact(hs.2 b (PQ (PC (Po e) (I.ok.Cg x c wN hc)))).trans (I.base.keep b o e n hb hx)
  ·obtain⟨sl,e1⟩:=I.base.slot b o e n hb hx;exact⟨sl,(hs.2 b (PQ (PC (Po e) (I.ok.Cg x c wN hc)))).trans e1⟩
  ·obtain⟨o',e1⟩:=I.base.there b o e hx;exact⟨o',(hs.2 b (PQ (PC (Po e) (I.ok.Cg x c wN hc)))).trans e1⟩
  ·by_cases hj:j=i
   ·subst hj;rw[hi] at e1;cases e1;rw[Qc hiσ] at e2;cases e2;exact⟨u,r,.inr ⟨.inl hk,c,hc,nq⟩⟩
   ·rw[Pw (Ne.symm hj)] at e2;obtain⟨u',r',q⟩:=hl j y v' e1 e2 e3;refine⟨u',r',?_⟩;rcases q with q | ⟨k,c',e,z'⟩
    ·exact .inl q
    ·refine .inr ⟨k,c',e,z'.sameBut hs ?_⟩;rintro rfl;exact hj (iO hN e1 (I.ok.inj _ _ _ e hc▸hi))
  ·by_cases hcc:c'=c
   ·subst hcc;exact⟨_,nq⟩
   ·obtain⟨w2,z2⟩:=I.cell y c' e;exact⟨w2,z2.sameBut hs hcc⟩
  ·obtain⟨e,n,ne,nf,d⟩:=I.pin p hp;refine⟨(hs.2 p.1 ?_).trans e,n,ne,nf,d⟩;intro q;rw[q,Mi] at e;have q':oc=p.2:=Option.some.inj e;exact d w' (by rw[<-q'];exact Km)
theorem pY {M:Model} {A:Around} {E:Value->Shared->Prop} {i:Nat} {x:Str} {v:V} {u:Value} {Q:Unit->Shared->Prop} (I:Inv X pins σ H s) (hN:X.N.Nodup) (hi:X.N[i]?=some x) (hx:Loc X.env.scope x) (r:RelV v u)
  (h:∀s',Inv X pins (σ.set i (some v)) H s'->Q () s') (hf:X.fn x=true\/X.env.scope.names.lookup x=some .local:=by first | exact .inl rfl | exact .inr rfl | assumption):wpAny M A (storeName X.env x u) Q E s:=
 mE I hN hi hx r (λs' I' _=>h s' I') hf
theorem Inv.Fs {s':Shared} {ch:List Addr} (I:Inv X pins σ H s) (ho:s'.os=s.os) (u:Un (jB X.stack) ch H H' s.heap s'.heap) (hok:eX X.prog X.w H' s'.heap) (hg:AllBare s'.gens)
  (yN:∀b∈ch,(b∈X.ex\/X.s₀.heap.objs.size<=b)/\b≠X.env.locals/\(∀x c,X.env.cells.lookup x=some c->c≠b)/\∀p∈X.pn++pins,p.1≠b):Inv X pins σ H' s':=by
 obtain⟨h',g',d',t',o'⟩:=s';have e:o'=s.os:=ho;subst e;exact I.call (g':=g') (t':=t') (d':=d') u hok hg yN
end
noncomputable abbrev XK:=Value->Option Addr->Hp->Prop
noncomputable abbrev St:=List (Option V)
noncomputable abbrev VK:=V->Hp->Prop
noncomputable abbrev TE:=St->Hp->VK->Prop
noncomputable abbrev TT:=St->Hp->(Bool->Hp->Prop)->Prop
noncomputable abbrev TA:=St->Hp->(List V->Hp->Prop)->Prop
structure Ends where
 nx:St->Hp->Prop
 rt:VK
 bk:St->Hp->Prop:=λ_ _=>False
 ct:St->Hp->Prop:=λ_ _=>False
noncomputable abbrev TS:=Ends->St->Hp->Prop
inductive EP (X:Cx) (pins:List (Addr×Obj)) (σ:St) (Q:VK) (u:Value) (s':Shared):Prop
 | mk (v:V) (H':Hp) (i:Inv X pins σ H' s') (r:RelV v u) (q:Q v H'):EP X pins σ Q u s'
inductive TP (X:Cx) (pins:List (Addr×Obj)) (σ:St) (Q:Bool->Hp->Prop) (b:Bool) (s':Shared):Prop
 | mk (H':Hp) (i:Inv X pins σ H' s') (q:Q b H'):TP X pins σ Q b s'
inductive AP (X:Cx) (pins:List (Addr×Obj)) (σ:St) (Q:List V->Hp->Prop) (us:List Value) (s':Shared):Prop
 | mk (vs:List V) (H':Hp) (i:Inv X pins σ H' s') (r:au vs us) (q:Q vs H'):AP X pins σ Q us s'
noncomputable def SP (X:Cx) (pins:List (Addr×Obj)) (D:Ends) (f:Flow) (s':Shared):Prop:=
 match f with
 | .next=>∃σ' H',Inv X pins σ' H' s'/\D.nx σ' H'
 | .brk=>∃σ' H',Inv X pins σ' H' s'/\D.bk σ' H'
 | .cont=>∃σ' H',Inv X pins σ' H' s'/\D.ct σ' H'
 | .ret u=>∃v σ' H',Inv X pins σ' H' s'/\RelV v u/\D.rt v H'
noncomputable def PE (X:Cx) (e:Expr) (t:TE):Prop:=
 ∀(pins:List (Addr×Obj)) (s:Shared) (σ:St) (H:Hp) (Q:VK),Inv X pins σ H s->t σ H Q->wpAny (model X.prog X.w) X.A (eval e X.env) (EP X pins σ Q) X.xe s
noncomputable def PT (X:Cx) (e:Expr) (t:TT):Prop:=
 ∀(pins:List (Addr×Obj)) (s:Shared) (σ:St) (H:Hp) (Q:Bool->Hp->Prop),Inv X pins σ H s->t σ H Q->wpAny (model X.prog X.w) X.A (isTrue e X.env (eval e X.env)) (TP X pins σ Q) X.xe s
noncomputable def PW (X:Cx) (e:Expr) (t:TT):Prop:=
 ∀(whole:Sem Value) (pins:List (Addr×Obj)) (s:Shared) (σ:St) (H:Hp) (Q:Bool->Hp->Prop),Inv X pins σ H s->t σ H Q->wpAny (model X.prog X.w) X.A (isTrue e X.env whole) (TP X pins σ Q) X.xe s
theorem PW.pt {X:Cx} {e:Expr} {t:TT} (h:PW X e t):PT X e t:=h _
noncomputable def PA (X:Cx) (es:List Expr) (t:TA):Prop:=
 ∀(pos:Pos) (pins:List (Addr×Obj)) (s:Shared) (σ:St) (H:Hp) (Q:List V->Hp->Prop),Inv X pins σ H s->t σ H Q->wpAny (model X.prog X.w) X.A (spliced (backTo pos (starEach es X.env))) (AP X pins σ Q) X.xe s
noncomputable def PS (X:Cx) (st:Stmt) (t:TS):Prop:=
 ∀(pins:List (Addr×Obj)) (s:Shared) (σ:St) (H:Hp) (D:Ends),Inv X pins σ H s->t D σ H->wpAny (model X.prog X.w) X.A (exec st X.env) (SP X pins D) X.xe s
noncomputable def t9 (X:Cx) (st:List Stmt) (t:TS):Prop:=
 ∀(pins:List (Addr×Obj)) (s:Shared) (σ:St) (H:Hp) (D:Ends),Inv X pins σ H s->t D σ H->wpAny (model X.prog X.w) X.A (execs st X.env) (SP X pins D) X.xe s
theorem bV {α:Type} {t:Sem α} {Q Q':α->Shared->Prop} {M:Model} {A:Around} {E:Value->Shared->Prop} {s:Shared} (h:wpAny M A t Q E s) (hQ:∀a s,Q a s->Q' a s):wpAny M A t Q' E s:=wpAny_mono h hQ λ_ _ x=>x
end L2
namespace L2
open PySem PySem.Spec PyProof.Rows
section
variable {X:Cx}
theorem bin {a b:Expr} {ta tb:TE} (ha:PE X a ta) (hb:PE X b tb) {pins:List (Addr×Obj)} {s:Shared} {σ:St} {H:Hp} {R:V->V->Hp->Prop} (I:Inv X pins σ H s) (h:ta σ H λx H1=>tb σ H1 λy H2=>R x y H2)
  {α:Type} {Q:α->Shared->Prop} {f:Value->Value->Sem α}
  (hf:∀v u s2 x y H2,Inv X pins σ H2 s2->RelV x v->RelV y u->R x y H2->wpAny (model X.prog X.w) X.A (f v u) Q X.xe s2):
  wpAny (model X.prog X.w) X.A (eval a X.env) (λv s₁=>wpAny (model X.prog X.w) X.A (eval b X.env) (λu s₂=>wpAny (model X.prog X.w) X.A (f v u) Q X.xe s₂) X.xe s₁) X.xe s:=by
 refine bV (ha pins s σ H _ I h) λv s1 ⟨x,H1,I1,r1,q1⟩=>?_
 refine bV (hb pins s1 σ H1 _ I1 q1) λu s2 ⟨y,H2,I2,r2,q2⟩=>?_
 exact hf v u s2 x y H2 I2 r1 r2 q2
noncomputable def n8 (i:Nat):TE:=λσ H Q=>∃v,σ[i]?=some (some v)/\Q v H
noncomputable def tC (v:V):TE:=λ_ H Q=>Q v H
theorem xO {i:Nat} {x:Str} {pos:Pos} (hN:X.N[i]?=some x) (hv:E9 X.env.scope x) (hd:(x==("__debug__":Str))=false:=by decide) (yM:(x==("__classdict__":Str))=false:=by decide):PE X (.Name x pos) (n8 i):=by
 intro pins s σ H Q I h;obtain⟨v,e,h⟩:=h;obtain⟨m,hn,hl⟩:=I.loc;obtain⟨u,r,l⟩:=hl i x v hN e hv;have fin:EP X pins σ Q u s:=⟨v,H,I,r,h⟩;rcases l with ⟨hk,hm⟩ | ⟨hk,c,hc,Bn⟩
 ·exact wpAny_Name (wpAny_loadName_local I.ok.kind hk hn hm fin) hd
 ·rcases hk with hk | hk
  ·exact wpAny_Name (wpAny_loadName_cell I.ok.kind hk hc Bn fin) hd
  ·exact wpAny_Name (wpAny_loadName_free I.ok.kind hk hc Bn fin yM) hd
theorem DC {i j pos}:PE X (.Constant (.int i) j pos) (tC (.int i)):=λ_ _ _ H _ I h=>wpAny_Constant_int ⟨.int i,H,I.tok _,⟨_,rfl⟩,h⟩
theorem G2 {b j pos}:PE X (.Constant (.bool b) j pos) (tC (.bl b)):=λ_ _ _ H _ I h=>Constant_bool ⟨.bl b,H,I,rfl,h⟩
theorem DE {j pos}:PE X (.Constant .none j pos) (tC .aT):=λ_ _ _ H _ I h=>Constant_none ⟨.aT,H,I,rfl,h⟩
theorem DH {x j pos}:PE X (.Constant (.str x) j pos) (tC (.str x)):=λ_ _ _ H _ I h=>Calls.Constant_str ⟨.str x,H,I.tok _,⟨_,rfl⟩,h⟩
noncomputable def Gl (X:Cx) (x:Str):Prop:=X.env.kindOf x=some .globalImplicit
theorem sZ {E:Value->Shared->Prop} {pins:List (Addr×Obj)} {s:Shared} {σ:St} {H:Hp} {x:Str} {u:Value} {pos:Pos} {Q:Value->Shared->Prop} (I:Inv X pins σ H s) (hg:Gl X x) (hm:X.mg x=some u) (h:Q u s)
  (hd:(x==("__debug__":Str))=false:=by decide):wpAny (model X.prog X.w) X.A (eval (.Name x pos) X.env) Q E s:=
 Calls.Name_function_global I.ok.kind hg (Calls.loadGlobal_global (by rw[I.ok.glob];exact I.mod.glob.keeps I.bk) hm h) hd
theorem kA {E:Value->Shared->Prop} {pins:List (Addr×Obj)} {s:Shared} {σ:St} {H:Hp} {x:Str} {u:Value} {pos:Pos} {Q:Value->Shared->Prop} (I:Inv X pins σ H s) (hg:Gl X x) (hm:X.mg x=none) (hv:bootBuiltins x=some u) (h:Q u s)
  (hn:x≠"__name__":=by decide) (hd:(x==("__debug__":Str))=false:=by decide):wpAny (model X.prog X.w) X.A (eval (.Name x pos) X.env) Q E s:=by
 obtain⟨mb,h1,h2⟩:=I.mod.blt;exact Calls.Name_function_global I.ok.kind hg (Calls.loadGlobal_builtin (by rw[I.ok.glob];exact I.mod.glob.keeps I.bk) hm (by rw[I.ok.blt];exact h1.keeps I.bk) ((h2 x hn).trans hv) h) hd
theorem Av {x:Str} {v:V} {u:Value} {pos:Pos} (hg:Gl X x) (hm:X.mg x=some u) (r:RelV v u) (hd:(x==("__debug__":Str))=false:=by decide):PE X (.Name x pos) (tC v):=
 λ_ _ _ H _ I h=>sZ I hg hm ⟨v,H,I,r,h⟩ hd
theorem Ar {x:Str} {v:V} {u:Value} {pos:Pos} (hg:Gl X x) (hm:X.mg x=none) (hv:bootBuiltins x=some u) (r:RelV v u) (hn:x≠"__name__":=by decide) (hd:(x==("__debug__":Str))=false:=by decide):PE X (.Name x pos) (tC v):=
 λ_ _ _ H _ I h=>kA I hg hm hv ⟨v,H,I,r,h⟩ hn hd
variable {a b:Expr} {ta tb:TE} {pos:Pos}
noncomputable def tB (t:TE):TT:=λσ H Q=>t σ H λx H1=>∃c,x= .bl c/\Q c H1
variable {tA Jd:TT} {rest:List Expr}
noncomputable def Lu (t u:TT):TT:=λσ H Q=>t σ H λc H1=>if c=true then u σ H1 Q else Q false H1
noncomputable def Ov (t u:TT):TT:=λσ H Q=>t σ H λc H1=>if c=true then Q true H1 else u σ H1 Q
noncomputable def Lx (t:TT):TT:=λσ H Q=>t σ H λc H1=>Q (!c) H1
theorem AI (ha:PT X a tA):PW X (.BoolOp .And [a] pos) tA:=by
 intro wh pins s σ H Q I h;refine isTrue_and (bV (ha pins s σ H Q I h) λc s1 e=>?_);cases c with
 | true=>exact isTrue_and_nil e
 | false=>exact e
theorem DR (ha:PT X a tA):PW X (.BoolOp .Or [a] pos) tA:=by
 intro wh pins s σ H Q I h;refine isTrue_or (bV (ha pins s σ H Q I h) λc s1 e=>?_);cases c with
 | false=>exact isTrue_or_nil e
 | true=>exact e
theorem DQ (ha:PT X a tA) (hb:PW X (.BoolOp .And (b::rest) pos) Jd):PW X (.BoolOp .And (a::b::rest) pos) (Lu tA Jd):=by
 intro wh pins s σ H Q I h;refine isTrue_and (bV (ha pins s σ H _ I h) λc s1 ⟨H1,I1,q1⟩=>?_);cases c with
 | true=>exact hb wh pins s1 σ H1 Q I1 q1
 | false=>exact⟨H1,I1,q1⟩
theorem Hb (ha:PT X a tA) (hb:PW X (.BoolOp .Or (b::rest) pos) Jd):PW X (.BoolOp .Or (a::b::rest) pos) (Ov tA Jd):=by
 intro wh pins s σ H Q I h;refine isTrue_or (bV (ha pins s σ H _ I h) λc s1 ⟨H1,I1,q1⟩=>?_);cases c with
 | true=>exact⟨H1,I1,q1⟩
 | false=>exact hb wh pins s1 σ H1 Q I1 q1
theorem DP (ha:PT X a tA):PT X (.UnaryOp .Not a pos) (Lx tA):=by intro pins s σ H Q I h;exact isTrue_not (bV (ha pins s σ H (λc H1=>Q (!c) H1) I h) λ_ _ ⟨H1,i,q⟩=>⟨H1,i,q⟩)
noncomputable def HD (ta tb:TE):TE:=λσ H Q=>ta σ H λx H1=>∃c,x= .bl c/\if c=true then tb σ H1 Q else Q (.bl false) H1
noncomputable def Ly (ta tb:TE):TE:=λσ H Q=>ta σ H λx H1=>∃c,x= .bl c/\if c=true then Q (.bl true) H1 else tb σ H1 Q
noncomputable def HL (ta:TE):TE:=λσ H Q=>ta σ H λx H1=>∃c,x= .bl c/\Q (.bl (!c)) H1
theorem DG {op} {t:TE} (h:PE X a t):PE X (.BoolOp op [a] pos) t:=λpins s σ H Q I hw=>BoolOp_one (h pins s σ H Q I hw)
theorem DA (ha:PE X a ta) (hb:PE X (.BoolOp .And (b::rest) pos) tb):PE X (.BoolOp .And (a::b::rest) pos) (HD ta tb):=by
 intro pins s σ H Q I h;refine BoolOp_and (bV (ha pins s σ H _ I h) λv s1 ⟨x,H1,I1,r1,q1⟩=>?_);obtain⟨c,rfl,q1⟩:=q1;cases r1;refine wpAny_truthy_bool ?_;cases c with
 | true=>exact hb pins s1 σ H1 Q I1 q1
 | false=>exact⟨.bl false,H1,I1,rfl,q1⟩
theorem G6 (ha:PE X a ta) (hb:PE X (.BoolOp .Or (b::rest) pos) tb):PE X (.BoolOp .Or (a::b::rest) pos) (Ly ta tb):=by
 intro pins s σ H Q I h;refine BoolOp_or (bV (ha pins s σ H _ I h) λv s1 ⟨x,H1,I1,r1,q1⟩=>?_);obtain⟨c,rfl,q1⟩:=q1;cases r1;refine wpAny_truthy_bool ?_;cases c with
 | false=>exact hb pins s1 σ H1 Q I1 q1
 | true=>exact⟨.bl true,H1,I1,rfl,q1⟩
theorem DF (ha:PE X a ta):PE X (.UnaryOp .Not a pos) (HL ta):=by intro pins s σ H Q I h;refine UnaryOp_ (bV (ha pins s σ H _ I h) λv s1 ⟨x,H1,I1,r1,q1⟩=>?_);obtain⟨c,rfl,q1⟩:=q1;cases r1;exact not_of (wpAny_truthy_bool ⟨.bl (!c),H1,I1,rfl,q1⟩)
end
end L2
namespace L2
open PySem PySem.Spec PyProof.Rows
noncomputable def dB (K:PySem.W.Frag) (H:Hp) (a:Addr) (xs:List V):Prop:=
 Rd H a (.lst xs)\/
  ∃(o:Obj) (its:Array Value) (n:Nat),K.lookup a=some o/\o.cls= .type "list"/\o.dict=none/\o.data= .seq its n/\its.size<=sizeLine/\au xs its.toList
noncomputable def e9 (K:PySem.W.Frag) (H:Hp) (a:Addr) (xs:List V):Prop:=
 Rd H a (.tup xs)\/
  ∃(o:Obj) (its:Array Value) (n:Nat),K.lookup a=some o/\o.cls= .type "tuple"/\o.data= .seq its n/\its.size<=sizeLine/\au xs its.toList
noncomputable def Jx:Value->Option V
 | .none=>some .aT
 | .bool b=>some (.bl b)
 | .int i _=>some (.int i)
 | .str x _=>some (.str x)
 | .bytes b _=>some (.Cb b)
 | .float b _=>some (.yL b)
 | .ref a=>some (.ref a)
 | .type n=>some (.ty n)
 | _=>none
theorem RelV.abs {x:V} {u:Value} (r:RelV x u):Jx u=some x:=by
 cases x with
 | aT=>cases r;rfl
 | bl _=>cases r;rfl
 | int _=>obtain⟨t,rfl⟩:=r;rfl
 | str _=>obtain⟨t,rfl⟩:=r;rfl
 | Cb _=>obtain⟨t,rfl⟩:=r;rfl
 | yL _=>obtain⟨t,rfl⟩:=r;rfl
 | ref _=>cases r;rfl
 | ty _=>cases r;rfl
theorem RelV.inj {x y:V} {u:Value} (r:RelV x u) (q:RelV y u):x=y:=Option.some.inj (r.abs.symm.trans q.abs)
theorem au.inj:∀{xs ys:List V} {us:List Value},au xs us->au ys us->xs=ys
 | _,_,_,.nil,.nil=>rfl
 | _,_,_,.cons r t,.cons r' t'=>by rw[r.inj r',au.inj t t']
section
variable {X:Cx} {pins:List (Addr×Obj)} {σ:St} {H:Hp} {s:Shared} {a:Addr} {xs ys:List V}
theorem dB.of {K:PySem.W.Frag} (h:H a=some (.lst xs)):dB K H a xs:= .inl (.inl h)
theorem e9.of {K:PySem.W.Frag} (h:H a=some (.tup xs)):e9 K H a xs:= .inl (.inl h)
theorem Inv.list (I:Inv X pins σ H s) (h:dB X.K H a xs):∃its:List Value,au xs its/\PlainL s.heap a its.toArray/\xs.length<=sizeLine:=by
 rcases h with h | ⟨o,its,n,hk,hc,hd,hs,hz,r⟩
 ·obtain⟨z,its,n,r,e⟩:=h.ok I.hok;exact⟨its,r,⟨_,n,e,rfl,rfl,rfl⟩,z⟩
 ·refine⟨its.toList,r,⟨o,n,I.pe a o hk,hc,hd,by simpa using hs⟩,?_⟩;have e:=r.length;simp only[Pz] at e
  lia
theorem Inv.tuple (I:Inv X pins σ H s) (h:e9 X.K H a xs):∃its:List Value,au xs its/\IsTup s.heap a its.toArray/\xs.length<=sizeLine:=by
 rcases h with h | ⟨o,its,n,hk,hc,hs,hz,r⟩
 ·obtain⟨z,its,r,p⟩:=h.ok I.hok;exact⟨its,r,p.is,z⟩
 ·refine⟨its.toList,r,⟨o,I.pe a o hk,hc,n,by simpa using hs⟩,?_⟩;have e:=r.length;simp only[Pz] at e
  lia
theorem Inv.xo (I:Inv X pins σ H s) (h:dB X.K H a xs) (h':dB X.K H a ys):xs=ys:=by
 obtain⟨its,r,⟨o,n,e,_,_,d⟩,_⟩:=I.list h;obtain⟨its',r',⟨o',n',e',_,_,d'⟩,_⟩:=I.list h';rw[e] at e';cases e';rw[d] at d';injection d' with d1 _;have:its=its':=by simpa using congrArg Array.toList d1
 subst this;exact r.inj r'
theorem Inv.vc (I:Inv X pins σ H s) (h:e9 X.K H a xs) (h':e9 X.K H a ys):xs=ys:=by
 obtain⟨its,r,⟨o,e,_,n,d⟩,_⟩:=I.tuple h;obtain⟨its',r',⟨o',e',_,n',d'⟩,_⟩:=I.tuple h';rw[e] at e';cases e';rw[d] at d';injection d' with d1 _;have:its=its':=by simpa using congrArg Array.toList d1
 subst this;exact r.inj r'
end
noncomputable abbrev Cx.dQ (X:Cx) (E:Value->Shared->Prop):Cx:={X with xe:=E}
theorem Cx.Ok.dQ {X:Cx} (ok:X.Ok) (E:Value->Shared->Prop):(X.dQ E).Ok:=
 ⟨ok.mod,ok.kind,ok.glob,ok.blt,ok.above,ok.inj,ok.has,ok.Cg,ok.hd,ok.frames,ok.Jc,ok.FF,ok.bs,ok.Bd,ok.qV,ok.uy,ok.km,ok.EI⟩
theorem Cx.Ok.fZ {X:Cx} {E:Value->Shared->Prop} (ok:(X.dQ E).Ok):X.Ok:=
 ⟨ok.mod,ok.kind,ok.glob,ok.blt,ok.above,ok.inj,ok.has,ok.Cg,ok.hd,ok.frames,ok.Jc,ok.FF,ok.bs,ok.Bd,ok.qV,ok.uy,ok.km,ok.EI⟩
section
variable {X:Cx} {pins:List (Addr×Obj)} {σ:St} {H:Hp} {s:Shared} {E:Value->Shared->Prop}
theorem Inv.dQ (I:Inv X pins σ H s) (E:Value->Shared->Prop):Inv (X.dQ E) pins σ H s:=⟨I.ok.dQ E,I.os,I.bare,I.base,I.loc,I.cell,I.free,I.et,I.pin,I.hok,I.len⟩
theorem Inv.fZ (I:Inv (X.dQ E) pins σ H s):Inv X pins σ H s:=⟨I.ok.fZ,I.os,I.bare,I.base,I.loc,I.cell,I.free,I.et,I.pin,I.hok,I.len⟩
theorem SP.fZ {D:Ends} {f:Flow} {s':Shared} (h:SP (X.dQ E) pins D f s'):SP X pins D f s':=by
 cases f with
 | next=>obtain⟨σ',H',I,q⟩:=h;exact⟨σ',H',I.fZ,q⟩
 | brk=>obtain⟨σ',H',I,q⟩:=h;exact⟨σ',H',I.fZ,q⟩
 | cont=>obtain⟨σ',H',I,q⟩:=h;exact⟨σ',H',I.fZ,q⟩
 | ret u=>obtain⟨v,σ',H',I,r,q⟩:=h;exact⟨v,σ',H',I.fZ,r,q⟩
end
section
variable {X:Cx} {st:Stmt} {rest:List Stmt} {t u:TS} {e:Expr} {te:TE} {pos:Pos}
noncomputable def ym:TS:=λD σ H=>D.nx σ H
noncomputable def HQ (t u:TS):TS:=λD σ H=>t {D with nx:=u D} σ H
theorem AE:t9 X [] ym:=λ_ _ σ H _ I h=>wpAny_execs_nil ⟨σ,H,I,h⟩
theorem xU (h1:PS X st t) (h2:t9 X rest u):t9 X (st::rest) (HQ t u):=by
 intro pins s σ H D I h;refine wpAny_execs_cons (bV (h1 pins s σ H {D with nx:=u D} I h) λf s1 q=>?_);cases f with
 | next=>obtain⟨σ',H',I',q⟩:=q;exact h2 pins s1 σ' H' D I' q
 | ret v=>exact q
 | brk=>exact q
 | cont=>exact q
noncomputable def yl:TS:=λD σ H=>D.bk σ H
noncomputable def BH:TS:=λD σ H=>D.ct σ H
theorem AB:PS X (.Pass pos) ym:=λ_ _ σ H _ I h=>wpAny_Pass ⟨σ,H,I,h⟩
theorem xS:PS X (.Break pos) yl:=λ_ _ σ H _ I h=>wpAny_Break ⟨σ,H,I,h⟩
theorem pQ:PS X (.Continue pos) BH:=λ_ _ σ H _ I h=>wpAny_Continue ⟨σ,H,I,h⟩
theorem Inv.quiet {pins:List (Addr×Obj)} {σ:St} {H:Hp} {s:Shared} (I:Inv X pins σ H s):interactive X.env=false:=by simp[interactive,I.ok.kind]
noncomputable def tU (te:TE):TS:=λD σ H=>te σ H λ_ H1=>D.nx σ H1
theorem nN (he:PE X e te) (hs:swapsWith e none pos.line X.env=pure false:=by rfl):PS X (.Expr e pos) (tU te):=by intro pins s σ H D I h;exact wpAny_Expr_any (bV (he pins s σ H _ I h) λv s1 ⟨x,H1,I1,r1,q1⟩=>⟨σ,H1,I1,q1⟩) I.quiet hs
noncomputable def Eg (te:TE):TS:=λD σ H=>te σ H D.rt
theorem q9 (he:PE X e te):PS X (.Return (some e) pos) (Eg te):=by intro pins s σ H D I h;exact wpAny_Return_some (bV (he pins s σ H _ I h) λv s1 ⟨x,H1,I1,r1,q1⟩=>⟨x,σ,H1,I1,r1,q1⟩)
noncomputable def BJ:TS:=λD _ H=>D.rt .aT H
theorem AC:PS X (.Return none pos) BJ:=λ_ _ σ H _ I h=>wpAny_Return_none ⟨.aT,σ,H,I,rfl,h⟩
noncomputable def HJ (c:TT) (t u:TS):TS:=λD σ H=>c σ H λb H1=>if b=true then t D σ H1 else u D σ H1
theorem G9 {c:Expr} {a b:List Stmt} {tc:TT} (hc:PT X c tc) (ha:t9 X a t) (hb:t9 X b u):PS X (.If c a b pos) (HJ tc t u):=by
 intro pins s σ H D I h;refine wpAny_If (bV (hc pins s σ H _ I h) λd s1 ⟨H1,I1,q1⟩=>?_);cases d with
 | true=>exact ha pins s1 σ H1 D I1 q1
 | false=>exact hb pins s1 σ H1 D I1 q1
end
noncomputable abbrev TG:=V->St->Hp->(St->Hp->Prop)->Prop
noncomputable abbrev vz:=List V->St->Hp->(St->Hp->Prop)->Prop
noncomputable def PG (X:Cx) (target:Expr) (t:TG):Prop:=
 ∀(pins:List (Addr×Obj)) (s:Shared) (σ:St) (H:Hp) (v:V) (u:Value) (Q:St->Hp->Prop),Inv X pins σ H s->RelV v u->t v σ H Q->
  wpAny (model X.prog X.w) X.A (assign target X.env u) (λ_ s'=>∃σ' H',Inv X pins σ' H' s'/\Q σ' H') X.xe s
noncomputable def E5 (X:Cx) (ts:List Expr) (t:vz):Prop:=
 ∀(pins:List (Addr×Obj)) (s:Shared) (σ:St) (H:Hp) (vs:List V) (us:List Value) (Q:St->Hp->Prop),Inv X pins σ H s->au vs us->t vs σ H Q->
  wpAny (model X.prog X.w) X.A (assignInOrder ((assignEach ts X.env).map (·.2)) us) (λ_ s'=>∃σ' H',Inv X pins σ' H' s'/\Q σ' H') X.xe s
noncomputable abbrev BX:=V->V->V->Hp->(Hp->Prop)->Prop
noncomputable def E6 (X:Cx) (t:BX):Prop:=
 ∀(pins:List (Addr×Obj)) (s:Shared) (σ:St) (H:Hp) (o i v:V) (ov iv u:Value) (Q:Hp->Prop),Inv X pins σ H s->RelV o ov->RelV i iv->RelV v u->t o i v H Q->
  wpAny (model X.prog X.w) X.A (setItem ov iv u) (λ_ s'=>∃H',Inv X pins σ H' s'/\Q H') X.xe s
section
variable {X:Cx} {pos:Pos}
noncomputable def eD (i:Nat):TG:=λv σ H Q=>Q (σ.set i (some v)) H
theorem Aw {i:Nat} {x:Str} (hN:X.N.Nodup) (hi:X.N[i]?=some x) (hx:Loc X.env.scope x) (hf:X.fn x=true\/X.env.scope.names.lookup x=some .local:=by first | exact .inl rfl | exact .inr rfl | assumption):PG X (.Name x pos) (eD i):=by intro pins s σ H v u Q I r h;exact wpAny_assign_Name (pY I hN hi hx r (λs' I'=>⟨_,H,I',h⟩) hf)
noncomputable def Cw:vz:=λvs σ H Q=>vs=[]/\Q σ H
noncomputable def wx (t:TG) (u:vz):vz:=λvs σ H Q=>∃v r,vs=v::r/\t v σ H λσ' H'=>u r σ' H' Q
theorem Ax:E5 X [] Cw:=by intro pins s σ H vs us Q I r h;obtain⟨e,h⟩:=h;subst e;cases r;exact assignInOrder_nil ⟨σ,H,I,h⟩
theorem xP {e:Expr} {es:List Expr} {t:TG} {u:vz} (h1:PG X e t) (h2:E5 X es u)
  (hs:(assignEach (e::es) X.env).map (·.2)=assign e X.env::(assignEach es X.env).map (·.2):=by rfl):E5 X (e::es) (wx t u):=by
 intro pins s σ H vs us Q I r h;obtain⟨v,vr,e1,h⟩:=h;subst e1;cases r with
 | cons r rr=>rw[hs];refine assignInOrder_cons (bV (h1 pins s σ H _ _ _ I r h) λ_ s1 ⟨σ1,H1,I1,q1⟩=>?_);exact h2 pins s1 σ1 H1 _ _ Q I1 rr q1
noncomputable def Cy (K:PySem.W.Frag) (n:Nat) (t:vz):TG:=λv σ H Q=>∃a xs,v= .ref a/\e9 K H a xs/\xs.length=n/\t xs σ H Q
theorem DK {es:List Expr} {k:Nat} {t:vz} {n:Nat} (hc:X.calm=true) (h:E5 X es t)
  (hn:(assignEach es X.env).length=n:=by rfl) (o4:(assignEach es X.env).findIdx? (·.1)=none:=by rfl):PG X (.Tuple es k pos) (Cy X.K n t):=by
 intro pins s σ H v u Q I r hw;obtain⟨a,xs,e1,hq,hl,hw⟩:=hw;subst e1;cases r;obtain⟨its,rv,ht,hz⟩:=I.tuple hq;refine assign_Tuple_tuple (I.ok.hd hc) ht (by simp[hn,<-hl,rv.length]) o4 λh' hx=>?_
 have I1:Inv X pins σ H {s with heap:=h'}:=I.kept (t':=s.toks) λb o e=>hx b o (PQ (Po e)) e
 exact h pins _ σ H xs _ Q I1 (by simpa using rv) hw
noncomputable def FH (to ti:TE) (t:BX):TG:=λv σ H Q=>to σ H λo H1=>ti σ H1 λi H2=>t o i v H2 λH3=>Q σ H3
theorem DJ {o i:Expr} {to ti:TE} {t:BX} (ho:PE X o to) (hi:PE X i ti) (hs:E6 X t)
  (ha:∀v,assign (.Subscript o i pos) X.env v=(do
   let ov<-holding [v] (eval o X.env)
   let iv<-holding [v,ov] (eval i X.env)
   standAt pos
   holding [v,ov,iv] (setItem ov iv v)
   release [v,ov,iv] []):=by intro _;rfl):PG X (.Subscript o i pos) (FH to ti t):=by
 intro pins s σ H v u Q I r h;rw[ha];refine O9 (wpAny_holding (bV (ho pins s σ H _ I h) λov s1 ⟨x,H1,I1,r1,q1⟩=>?_));refine O9 (wpAny_holding (bV (hi pins s1 σ H1 _ I1 q1) λiv s2 ⟨y,H2,I2,r2,q2⟩=>?_));refine O9 (wpAny_standAt (O9 (wpAny_holding (bV (hs pins s2 σ H2 x y v ov iv u _ I2 r1 r2 r q2) λ_ s3 ⟨H3,I3,q3⟩=>?_))));exact wpAny_release ⟨σ,H3,I3,q3⟩
noncomputable def nY (te:TE) (g:TG):TS:=λD σ H=>te σ H λx H1=>g x σ H1 D.nx
theorem xR {tg e:Expr} {te:TE} {g:TG} (he:PE X e te) (hg:PG X tg g) (hs:swapsWithSole [tg] e pos.line X.env=pure false:=by rfl) (hw:swappedStores [tg] e X.env=pure none:=by rfl)
  (h1:(assignEach [tg] X.env).map (·.2)=[assign tg X.env]:=by rfl):PS X (.Assign [tg] e pos) (nY te g):=by
 intro pins s σ H D I h;refine wpAny_Assign_stores (bV (he pins s σ H _ I h) λv s1 ⟨x,H1,I1,r1,q1⟩=>?_) hs hw;rw[h1];exact bV (hg pins s1 σ H1 x v _ I1 r1 q1) λ_ s2 q=>q
theorem xT {i:Nat} {x:Str} {e:Expr} {te:TE} {pos':Pos} (hN:X.N.Nodup) (hi:X.N[i]?=some x) (hx:Loc X.env.scope x) (he:PE X e te) (hs:swapsWith e (some (.Name x pos')) pos.line X.env=pure false:=by rfl) (hf:X.fn x=true\/X.env.scope.names.lookup x=some .local:=by first | exact .inl rfl | exact .inr rfl | assumption):
  PS X (.Assign [.Name x pos'] e pos) (nY te (eD i)):=by
 intro pins s σ H D I h;refine wpAny_Assign_Name (bV (he pins s σ H _ I h) λv s1 ⟨y,H1,I1,r1,q1⟩=>?_) hs;exact pY I1 hN hi hx r1 (λs2 I2=>⟨_,H1,I2,q1⟩) hf
end
structure It where
 go:Nat->Hp->Prop
 yld:Nat->Hp->V->Hp->Prop
 stop:Nat->Hp->Prop
noncomputable def ib (X:Cx) (pins:List (Addr×Obj)) (H:Hp) (b:Addr):Prop:=
 H b=none/\b≠X.env.locals/\b∉X.fs/\(b∈X.ex\/X.s₀.heap.objs.size<=b)/\(∀x c,X.env.cells.lookup x=some c->c≠b)/\∀p∈X.pn++pins,p.1≠b
theorem Inv.wu {X:Cx} {pins:List (Addr×Obj)} {σ:St} {H H':Hp} {s:Shared} {b:Addr} (I:Inv X pins σ H s) (hb:s.heap.objs.size<=b) (hn:H' b=none):ib X pins H' b:=by
 refine⟨hn,Nat.ne_of_gt (PC I.lt hb),I.KP hb,.inr (Pp I.sz hb),λx c e z=>?_,λp hp z=>?_⟩
 ·obtain⟨v,q⟩:=I.cell x c e;exact absurd (PC q.lt (by rw[z];exact hb)) (Nat.lt_irrefl _)
 ·exact absurd (PC (Po (I.pin p hp).1) (by rw[z];exact hb)) (Nat.lt_irrefl _)
structure Turn (P:Program) (w:World) (K:PySem.W.Frag) (tg:Expr) (J:It) (fp:List Addr) (it:Addr) (tn:Nat->Heap->Prop):Prop where
 mem:it∈fp
 obj:∀i h,tn i h->∀b∈fp,∃o,h.get? b=some o/\∀v,o.data≠ .cell v
 keep:∀i h h',tn i h->(∀b∈fp,∀o,h.get? b=some o->h'.get? b=some o)->tn i h'
 item:∀(X:Cx),X.prog=P->X.w=w->X.K=K->X.calm=true->∀(i:Nat) (pins:List (Addr×Obj)) (s:Shared) (σ:St) (H:Hp) (E:Value->Shared->Prop),Inv X pins σ H s->(∀b∈fp,ib X pins H b)->tn i s.heap->J.go i H->
  wpAny (model P w) X.A (pyNext (.ref it)) (λr s1=>∃u,r=some u/\
   wpAny (model P w) X.A (letOwnedTupleGo tg (.ref it) u) (λ_ s2=>∃x H',Inv X pins σ H' s2/\RelV x u/\J.yld i H x H'/\tn (i + 1) s2.heap/\∀b∈fp,H' b=none) E s1) E s
 done:∀(X:Cx),X.prog=P->X.w=w->X.K=K->X.calm=true->∀(i:Nat) (pins:List (Addr×Obj)) (s:Shared) (σ:St) (H:Hp) (E:Value->Shared->Prop),Inv X pins σ H s->(∀b∈fp,ib X pins H b)->tn i s.heap->J.stop i H->
  wpAny (model P w) X.A (pyNext (.ref it)) (λr s1=>r=none/\Inv X pins σ H s1) E s
 self:∀(A:Around) (i:Nat) (s:Shared) (Q:Value->Shared->Prop) (E:Value->Shared->Prop),tn i s.heap->Q (.ref it) s->wpAny (model P w) A (pyIter (.ref it)) Q E s
noncomputable abbrev TI:=St->Hp->(It->Hp->Prop)->Prop
noncomputable def LI (X:Cx) (pins:List (Addr×Obj)) (σ:St) (tg:Expr) (R:It->Hp->Prop) (oq:Value) (s2:Shared):Prop:=
 ∃(it:Addr) (fp:List Addr) (tn:Nat->Heap->Prop) (J:It) (H':Hp),oq= .ref it/\Inv X pins σ H' s2/\Turn X.prog X.w X.K tg J fp it tn/\tn 0 s2.heap/\(∀b∈fp,ib X pins H' b)/\R J H'
noncomputable def PI (X:Cx) (tg iter:Expr) (wi:TI):Prop:=
 ∀(pins:List (Addr×Obj)) (s:Shared) (σ:St) (H:Hp) (R:It->Hp->Prop),Inv X pins σ H s->wi σ H R->
  wpAny (model X.prog X.w) X.A (eval iter X.env) (λv s1=>wpAny (model X.prog X.w) X.A (pyIter v) (LI X pins σ tg R) X.xe s1) X.xe s
theorem wG {M:Model} {A:Around} {E:Value->Shared->Prop} {s:Shared} {tg:Expr} {it:Addr} {u:Value} {o:Obj} {n:String} {vs:Array Value} {Q:Unit->Shared->Prop} (ho:s.heap.get? it=some o) (hc:o.cls= .type n) (hd:o.data= .fields vs)
  (hn:["enumerate","zip","dict_itemiterator","dict_reverseitemiterator","odict_iterator","itertools.zip_longest","itertools.pairwise"].contains n=false) (hQ:Q () s):wpAny M A (letOwnedTupleGo tg (.ref it) u) Q E s:=by
 unfold letOwnedTupleGo;cases tg <;> first
  | exact Pc hQ
  | (cases u <;> first
    | exact Pc hQ
    | (refine O9 (wpAny_load ho ?_);rw[hc,hd];show wpAny M A (if (["enumerate","zip","dict_itemiterator","dict_reverseitemiterator","odict_iterator","itertools.zip_longest","itertools.pairwise"].contains n&&vs[0]?==some (rawInt _))=true then _ else _) Q E s;rw[if_neg (by intro h;rw[hn,Bool.false_and] at h;cases h)];exact Pc hQ))
noncomputable def Ik (K:PySem.W.Frag) (a:Addr):It:=
 ⟨λi H=>∃xs x,dB K H a xs/\xs[i]?=some x,λi H x H'=>H'=H/\∀xs,dB K H a xs->xs[i]?=some x,λi H=>∃xs,dB K H a xs/\xs.length<=i⟩
noncomputable def Jp (K:PySem.W.Frag) (a:Addr):It:=
 ⟨λi H=>∃xs x,e9 K H a xs/\xs[i]?=some x,λi H x H'=>H'=H/\∀xs,e9 K H a xs->xs[i]?=some x,λi H=>∃xs,e9 K H a xs/\xs.length<=i⟩
noncomputable def Il (lo:Int) (n:Nat):It:=⟨λi _=>i < n,λi H x H'=>H'=H/\x= .int (lo + i),λi _=>n<=i⟩
theorem vd {P:Program} {w:World} {K:PySem.W.Frag} {tg:Expr} (a it:Addr):Turn P w K tg (Ik K a) [it] it (λi h=>h.IsListIter it a i) where
 mem:=by simp
 obj:=λi h st b hb=>by
  have e:b=it:=by simpa using hb
  subst e;obtain⟨o,e,c,d⟩:=st;exact⟨o,e,λv z=>by rw[d] at z;cases z⟩
 keep:=λi h h' st k=>st.at λo e=>k it (by simp) o e
 item:=by
  intro X hP hw hK hc i pins s σ H E I hf st hg;subst hP hw hK;obtain⟨xs,x,hq,hx⟩:=hg;obtain⟨its,rv,p,hz⟩:=I.list hq;obtain⟨u,hu,ru⟩:=rv.get hx;obtain⟨f0,f1,f2,f3,f4,f5⟩:=hf it (by simp);refine wpAny_pyNext_list_item st p.isList (x:=u) (by simpa using hu) λh' ak sb=>?_
  have I1:Inv X pins σ H {s with heap:=h'}:=I.turned (t':=s.toks) (λb o hb e=>(sb.2 b hb).trans e) f0 f1 f3 f4 f5;obtain⟨o,e,c,d⟩:=id ak;exact⟨u,rfl,wG (s:={s with heap:=h'}) e c d (by decide) ⟨x,H,I1,ru,⟨rfl,λys hy=>by rw[I.xo hy hq];exact hx⟩,ak,λb hb=>(hf b hb).1⟩⟩
 done:=by intro X hP hw hK hc i pins s σ H E I hf st hg;subst hP hw hK;obtain⟨xs,hq,hx⟩:=hg;obtain⟨its,rv,p,hz⟩:=I.list hq;obtain⟨f0,f1,f2,f3,f4,f5⟩:=hf it (by simp);have hl:=rv.length;exact wpAny_pyNext_list_end (I.ok.hd hc) st p.isList (by simp;lia) λh' eb=>⟨rfl,I.turned (t':=s.toks) (λb o hb e=>eb b o hb e) f0 f1 f3 f4 f5⟩
 self:=λ_ _ _ _ _ st h=>wpAny_pyIter_listiter st h
theorem rD {P:Program} {w:World} {K:PySem.W.Frag} {tg:Expr} (a it:Addr):Turn P w K tg (Jp K a) [it] it (λi h=>h.IsTupleIter it a i) where
 mem:=by simp
 obj:=λi h st b hb=>by
  have e:b=it:=by simpa using hb
  subst e;obtain⟨o,e,c,d⟩:=st;exact⟨o,e,λv z=>by rw[d] at z;cases z⟩
 keep:=λi h h' st k=>st.at λo e=>k it (by simp) o e
 item:=by
  intro X hP hw hK hc i pins s σ H E I hf st hg;subst hP hw hK;obtain⟨xs,x,hq,hx⟩:=hg;obtain⟨its,rv,p,hz⟩:=I.tuple hq;obtain⟨u,hu,ru⟩:=rv.get hx;obtain⟨f0,f1,f2,f3,f4,f5⟩:=hf it (by simp);refine wpAny_pyNext_tuple_item st (show s.heap.IsTuple a its.toArray from p) (x:=u) (by simpa using hu) λh' ak sb=>?_
  have I1:Inv X pins σ H {s with heap:=h'}:=I.turned (t':=s.toks) (λb o hb e=>(sb.2 b hb).trans e) f0 f1 f3 f4 f5;obtain⟨o,e,c,d⟩:=id ak;exact⟨u,rfl,wG (s:={s with heap:=h'}) e c d (by decide) ⟨x,H,I1,ru,⟨rfl,λys hy=>by rw[I.vc hy hq];exact hx⟩,ak,λb hb=>(hf b hb).1⟩⟩
 done:=by intro X hP hw hK hc i pins s σ H E I hf st hg;subst hP hw hK;obtain⟨xs,hq,hx⟩:=hg;obtain⟨its,rv,p,hz⟩:=I.tuple hq;obtain⟨f0,f1,f2,f3,f4,f5⟩:=hf it (by simp);have hl:=rv.length;exact wpAny_pyNext_tuple_end (I.ok.hd hc) st (show s.heap.IsTuple a its.toArray from p) (by simp;lia) λh' eb=>⟨rfl,I.turned (t':=s.toks) (λb o hb e=>eb b o hb e) f0 f1 f3 f4 f5⟩
 self:=λ_ _ _ _ _ st h=>wpAny_pyIter_tupleiter st h
theorem rB {P:Program} {w:World} {K:PySem.W.Frag} {tg:Expr} (it:Addr) (lo:Int) (n:Nat):Turn P w K tg (Il lo n) [it] it (λi h=>IsRangeIter h it (lo + (i:Nat) * 1) ((n:Int) - (i:Nat)) 1) where
 mem:=by simp
 obj:=λi h st b hb=>by
  have e:b=it:=by simpa using hb
  subst e;exact⟨_,st,λv z=>by
   have z':Data.fields _=Data.cell v:=z;cases z'⟩
 keep:=λi h h' st k=>k it (by simp) _ st
 item:=by
  intro X hP hw hK hc i pins s σ H E I hf st hg;subst hP hw hK;obtain⟨f0,f1,f2,f3,f4,f5⟩:=hf it (by simp);have W:=Walks.range (prog:=X.prog) (w:=X.w) (I.ok.hd hc) it lo 1 n;refine W.item i s _ _ hg st λv h' tk hv ak kk=>?_
  obtain⟨t,rfl⟩:=hv;have I1:Inv X pins σ H {s with heap:=h',toks:=tk}:=I.turned (λb o hb e=>kk b o (by simpa using hb) e) f0 f1 f3 f4 f5;refine⟨_,rfl,wG (s:={s with heap:=h',toks:=tk}) (n:="range_iterator") ak rfl rfl (by decide) ⟨.int (lo + i),H,I1,⟨t,?_⟩,⟨rfl,rfl⟩,ak,λb hb=>(hf b hb).1⟩⟩;rw[Int.mul_one]
 done:=by intro X hP hw hK hc i pins s σ H E I hf st hg;subst hP hw hK;obtain⟨f0,f1,f2,f3,f4,f5⟩:=hf it (by simp);exact wpAny_pyNext_range_end (I.ok.hd hc) st (by have:n<=i:=hg;lia) λh' eb=>⟨rfl,I.turned (t':=s.toks) (λb o hb e=>eb b o hb e) f0 f1 f3 f4 f5⟩
 self:=λ_ _ _ _ _ st h=>wpAny_pyIter_rangeiter st h
end L2
namespace L2
open PySem PySem.Spec PyProof.Rows
section
variable {X:Cx} {tg:Expr}
theorem xY {pins:List (Addr×Obj)} {σ:St} {H:Hp} {s:Shared} {R:It->Hp->Prop} {E:Value->Shared->Prop} {lo hi:Int} {t u v:Tok} {tk:Nat} (I:Inv X pins σ H s) (h1: -(2 ^ 62)<=lo) (h2:lo < 2 ^ 62) (h3: -(2 ^ 62)<=hi) (h4:hi < 2 ^ 62)
  (q:R (Il lo (hi - lo).toNat) H):wpAny (model X.prog X.w) X.A (pyIter (.ref s.heap.objs.size)) (LI X pins σ tg R) E {s with heap:=s.heap.push {cls:= .type "range",data:= .fields #[.int lo t,.int hi u,.int 1 v]},toks:=tk}:=by
 refine wpAny_pyIter_range (IsRange.new ..) (small_one h1 h2 h3 h4) ?_;have I1:Inv X pins σ H {s with heap:=s.heap.push {cls:= .type "range",data:= .fields #[.int lo t,.int hi u,.int 1 v]},toks:=tk}:=I.kept λb o e=>Pb _ e
 refine⟨(s.heap.push {cls:= .type "range",data:= .fields #[.int lo t,.int hi u,.int 1 v]}).objs.size,[(s.heap.push {cls:= .type "range",data:= .fields #[.int lo t,.int hi u,.int 1 v]}).objs.size],_,_,H,rfl,
  I1.kept (t':=tk) λb o e=>Pb _ e,rB _ lo (hi - lo).toNat,?_,λb hb=>?_,q⟩
 ·have e1:lo + ((0:Nat):Int) * 1=lo:=by simp
  have e2:(((hi - lo).toNat:Nat):Int) - ((0:Nat):Int)=Builtin.Range.rangeSize lo hi 1:=by rw[rangeSize_one];split <;> lia
  show IsRangeIter _ _ (lo + ((0:Nat):Int) * 1) ((((hi - lo).toNat:Nat):Int) - ((0:Nat):Int)) 1;rw[e1,e2];exact Pl _ rfl
 ·have e:b=(s.heap.push {cls:= .type "range",data:= .fields #[.int lo t,.int hi u,.int 1 v]}).objs.size:=by simpa using hb
  subst e;exact I1.wu (Pj _) (I1.hok.fresh (Pj _))
noncomputable def Gn (ta:TA):TI:=λσ H R=>ta σ H λvs H1=>∃j:Int,vs=[.int j]/\ -(2 ^ 62)<=j/\j < 2 ^ 62/\R (Il 0 j.toNat) H1
theorem uX {a:Expr} {ta:TA} {p pos:Pos} (hg:Gl X "range") (hm:X.mg "range"=none) (ha:PA X [a] ta) (hs:starEach [a] X.env=[(false,eval a X.env)]:=by rfl):PI X tg (.Call (.Name "range" p) [a] [] pos) (Gn ta):=by
 intro pins s σ H R I h;refine Call_ (kA I hg hm boot_range (PyProof.Rows.callWith_type1 (bV (ha pos pins s σ H _ I h) λus s1 ⟨vs,H1,I1,r1,q1⟩=>?_) hs rfl));obtain⟨j,e,q1,q2,q⟩:=q1;subst e;cases r1 with
 | cons r rr=>cases rr;obtain⟨t,rfl⟩:=r;exact call_range_1 (xY I1 (by lia) (by lia) q1 q2 (by simpa using q))
noncomputable def HG (wi:TI) (g:TG) (tb:TS):TS:=λD σ H=>wi σ H λJ H1=>∃W:Nat->Nat->St->Hp->Prop,(∃m,W 0 m σ H1)/\∀i m σ H,W i m σ H->
 (J.stop i H/\D.nx σ H)\/(J.go i H/\∃N:St->Hp->Prop,(∀σ' H',N σ' H'->∃m',m' < m/\W (i + 1) m' σ' H')/\∀x H',J.yld i H x H'->g x σ H' λσ2 H2=>tb {D with nx:=N,ct:=N,bk:=D.nx} σ2 H2)
noncomputable def kM (fp:List Addr) (h:Heap):List (Addr×Obj):=fp.filterMap λb=>(h.get? b).map λo=>(b,o)
theorem fh {fp:List Addr} {h:Heap} {b:Addr} {o:Obj} (hb:b∈fp) (e:h.get? b=some o):(b,o)∈kM fp h:=List.mem_filterMap.mpr ⟨b,hb,by rw[e];rfl⟩
theorem uU {fp:List Addr} {h:Heap} {p:Addr×Obj} (hp:p∈kM fp h):p.1∈fp/\h.get? p.1=some p.2:=by
 obtain⟨b,hb,e⟩:=List.mem_filterMap.mp hp;cases q:h.get? b with
 | none=>rw[q] at e;cases e
 | some o=>rw[q] at e;have e':(b,o)=p:=Option.some.inj e;subst e';exact⟨hb,q⟩
theorem Inv.pinned {pins:List (Addr×Obj)} {σ:St} {H:Hp} {s:Shared} {fp:List Addr} (I:Inv X pins σ H s) (hf:∀b∈fp,ib X pins H b) (ho:∀b∈fp,∃o,s.heap.get? b=some o/\∀v,o.data≠ .cell v):Inv X (pins++kM fp s.heap) σ H s:=
 I.tw λp hp=>(PD.mp hp).elim (λz=>I.pin p (PU _ z)) λz=>by obtain⟨hb,e⟩:=uU z;obtain⟨f0,f1,f2,_⟩:=hf p.1 hb;obtain⟨o,e',d⟩:=ho p.1 hb;rw[e] at e';cases e';exact⟨e,f0,f1,f2,d⟩
theorem Inv.iY {pins pl:List (Addr×Obj)} {σ:St} {H:Hp} {s:Shared} (I:Inv X (pins++pl) σ H s):Inv X pins σ H s:=I.tw λp hp=>I.pin p (PU _ (List.mem_append_left _ hp))
theorem DO {iter:Expr} {body:List Stmt} {wi:TI} {g:TG} {tb:TS} {pos:Pos} (hp:PassesOwn (model X.prog X.w) X.A X.env X.xe) (hc:X.calm=true) (hi:PI X tg iter wi) (hg:PG X tg g) (hb:t9 X body tb)
  (hs:∀x,foldedSetIterable iter X.env x=pure x:=by intro _;rfl):PS X (.For tg iter body [] pos) (HG wi g tb):=by
 intro pins s σ H D I h;refine wpAny_For (bV (hi pins s σ H _ I h) λv s1 h1=>bV h1 λoq s2 h2=>?_) hs;obtain⟨it,fp,tn,J,H2,e,I2,T,dM,f2,W,⟨m0,w0⟩,turn⟩:=h2;subst e;have nU:∀{H':Hp},(∀b∈fp,H' b=none)->∀b∈fp,ib X pins H' b:=λhn b hb=>⟨hn b hb,(f2 b hb).2⟩
 refine codeAny_forLoop_any (λn s'=>∃i σ' H',Inv X pins σ' H' s'/\tn i s'.heap/\(∀b∈fp,H' b=none)/\W i n σ' H') ?_ m0 ⟨0,σ,H2,I2,dM,λb hb=>(f2 b hb).1,w0⟩;rintro n s3 ⟨i,σ3,H3,I3,EX,LX,w3⟩;rcases turn i n σ3 H3 w3 with ⟨stop,qn⟩ | ⟨go,N,hN,step⟩
 ·refine wpAny_passesOwn hp (bV (T.done X rfl rfl rfl hc i pins s3 σ3 H3 X.xe I3 (nU LX) EX stop) λr s4 ⟨hr,I4⟩=>?_);subst hr;exact wpAny_execs_nil ⟨σ3,H3,I4,qn⟩
 ·refine wpAny_passesOwn hp (bV (T.item X rfl rfl rfl hc i pins s3 σ3 H3 X.xe I3 (nU LX) EX go) λr s4 ⟨u,hr,h4⟩=>?_);subst hr;refine wpAny_passesOwn hp (bV h4 λ_ s5 ⟨x,H5,I5,r5,y5,Lr,JR⟩=>?_);have MW:=I5.pinned (nU JR) (T.obj _ _ Lr);refine wpAny_passesOwn hp (bV (hg _ s5 σ3 H5 x u _ MW r5 (step x H5 y5)) λ_ s6 ⟨σ6,H6,I6,q6⟩=>?_);refine wpAny_passesOwn hp (bV (hb _ s6 σ6 H6 _ I6 q6) λf s7 q7=>?_);have again:∀{σ7:St} {H7:Hp},Inv X (pins++kM fp s5.heap) σ7 H7 s7->N σ7 H7->∃m,m < n/\∃i σ' H',Inv X pins σ' H' s7/\tn i s7.heap/\(∀b∈fp,H' b=none)/\W i m σ' H':=λ {σ7 H7} I7 n7=>by obtain⟨m',hm,w7⟩:=hN σ7 H7 n7;refine⟨m',hm,i + 1,σ7,H7,I7.iY,T.keep _ _ _ Lr λb hb o e=>(I7.pin (b,o) (PU _ (PU _ (fh hb e)))).1,λb hb=>?_,w7⟩;obtain⟨o,e,d⟩:=T.obj _ _ Lr b hb;exact(I7.pin (b,o) (PU _ (PU _ (fh hb e)))).2.1
  cases f with
  | next=>obtain⟨σ7,H7,I7,n7⟩:=q7;exact again I7 n7
  | cont=>obtain⟨σ7,H7,I7,n7⟩:=q7;exact again I7 n7
  | brk=>obtain⟨σ7,H7,I7,q7⟩:=q7;exact⟨σ7,H7,I7.iY,q7⟩
  | ret v=>obtain⟨x7,σ7,H7,I7,r7,q7⟩:=q7;exact⟨x7,σ7,H7,I7.iY,r7,q7⟩
end
end L2
namespace L2
open PySem PySem.Spec PyProof.Rows
noncomputable abbrev R2:=V->V->Hp->VK->Prop
noncomputable def j3 (X:Cx) (f:Value->Value->Sem Value) (r:R2):Prop:=
 ∀(pins:List (Addr×Obj)) (s:Shared) (σ:St) (H:Hp) (x y:V) (v u:Value) (Q:VK),Inv X pins σ H s->RelV x v->RelV y u->r x y H Q->
  wpAny (model X.prog X.w) X.A (f v u) (EP X pins σ Q) X.xe s
noncomputable def Jv (X:Cx) (f:Value->Sem Value) (r:V->Hp->VK->Prop):Prop:=
 ∀(pins:List (Addr×Obj)) (s:Shared) (σ:St) (H:Hp) (x:V) (v:Value) (Q:VK),Inv X pins σ H s->RelV x v->r x H Q->
  wpAny (model X.prog X.w) X.A (f v) (EP X pins σ Q) X.xe s
noncomputable def cX (X:Cx) (f:Value) (r:List V->Hp->VK->Prop):Prop:=
 ∀(pins:List (Addr×Obj)) (s:Shared) (σ:St) (H:Hp) (xs:List V) (us:List Value) (Q:VK),Inv X pins σ H s->au xs us->r xs H Q->
  wpAny (model X.prog X.w) X.A (call f us) (EP X pins σ Q) X.xe s
noncomputable def Ju (X:Cx) (r:V->Hp->(Bool->Hp->Prop)->Prop):Prop:=
 ∀(pins:List (Addr×Obj)) (s:Shared) (σ:St) (H:Hp) (x:V) (v:Value) (Q:Bool->Hp->Prop),Inv X pins σ H s->RelV x v->r x H Q->
  wpAny (model X.prog X.w) X.A (truthy v) (TP X pins σ Q) X.xe s
noncomputable def Je (r:R2) (ta tb:TE):TE:=λσ H Q=>ta σ H λx H1=>tb σ H1 λy H2=>r x y H2 Q
noncomputable def Oy (r:V->Hp->VK->Prop) (ta:TE):TE:=λσ H Q=>ta σ H λx H1=>r x H1 Q
noncomputable def rI (C:Int->Int->Prop) (g:Int->Int->V):R2:=λx y H Q=>∃i j,x= .int i/\y= .int j/\C i j/\Q (g i j) H
noncomputable def BB (g:Int->Int->V):R2:=λx y H Q=>∃i j,x= .int i/\y= .int j/\Q (g i j) H
noncomputable def rU (g:Int->V):V->Hp->VK->Prop:=λx H Q=>∃i,x= .int i/\Q (g i) H
section
variable {X:Cx} {a b c:Expr} {ta tb tc:TE} {pos:Pos}
theorem B8 (ha:PE X a ta) (hb:PE X b tb) {pins:List (Addr×Obj)} {s:Shared} {σ:St} {H:Hp} {R:V->V->Hp->Prop} (I:Inv X pins σ H s)
  (h:ta σ H λx H1=>tb σ H1 λy H2=>R x y H2) {Q:Value->Shared->Prop} {f:Value->Value->Sem Value}
  (hf:∀v u s2 x y H2,Inv X pins σ H2 s2->RelV x v->RelV y u->R x y H2->wpAny (model X.prog X.w) X.A (f v u) Q X.xe s2):
  wpAny (model X.prog X.w) X.A (eval a X.env) (λv s₁=>wpAny (model X.prog X.w) X.A (eval b X.env) (λu s₂=>wpAny (model X.prog X.w) X.A (f v u) Q X.xe s₂) X.xe s₁) X.xe s:=by
 refine bV (ha pins s σ H _ I h) λv s1 ⟨x,H1,I1,r1,q1⟩=>?_
 refine bV (hb pins s1 σ H1 _ I1 q1) λu s2 ⟨y,H2,I2,r2,q2⟩=>?_
 exact hf v u s2 x y H2 I2 r1 r2 q2
theorem G5 {op:Operator} {r:R2} (ho:j3 X (binaryOp op) r) (ha:PE X a ta) (hb:PE X b tb):PE X (.BinOp a op b pos) (Je r ta tb):=by intro pins s σ H Q I h;exact wpAny_BinOp (B8 ha hb I h λv u s2 x y H2 I2 rx ry q=>ho pins s2 σ H2 x y v u Q I2 rx ry q)
theorem G7 {op:UnaryOp} {r:V->Hp->VK->Prop} (ho:Jv X (unaryOp op) r) (ha:PE X a ta):PE X (.UnaryOp op a pos) (Oy r ta):=by intro pins s σ H Q I h;exact UnaryOp_ (bV (ha pins s σ H _ I h) λv s1 ⟨x,H1,I1,r1,q1⟩=>ho pins s1 σ H1 x v Q I1 r1 q1)
theorem IZ {f:Value->Value->Sem Value} {C:Int->Int->Prop} {g:Int->Int->Int}
  (rule:∀(i j:Int) (t u:Tok) (s:Shared) (Q:Value->Shared->Prop) (E:Value->Shared->Prop),C i j->Q (.int (g i j) s.toks) {s with toks:=s.toks + 1}->wpAny (model X.prog X.w) X.A (f (.int i t) (.int j u)) Q E s):
  j3 X f (rI C λi j=> .int (g i j)):=by
 intro pins s σ H x y v u Q I rx ry h;obtain⟨i,j,rfl,rfl,hc,q⟩:=h;obtain⟨t,rfl⟩:=rx;obtain⟨t',rfl⟩:=ry;exact rule i j t t' s _ _ hc ⟨.int (g i j),H,I.tok _,⟨_,rfl⟩,q⟩
theorem GU {f:Value->Value->Sem Value} {g:Int->Int->Int}
  (rule:∀(i j:Int) (t u:Tok) (s:Shared) (Q:Value->Shared->Prop) (E:Value->Shared->Prop),Q (.int (g i j) s.toks) {s with toks:=s.toks + 1}->wpAny (model X.prog X.w) X.A (f (.int i t) (.int j u)) Q E s):
  j3 X f (BB λi j=> .int (g i j)):=by
 intro pins s σ H x y v u Q I rx ry h;obtain⟨i,j,rfl,rfl,q⟩:=h;obtain⟨t,rfl⟩:=rx;obtain⟨t',rfl⟩:=ry;exact rule i j t t' s _ _ ⟨.int (g i j),H,I.tok _,⟨_,rfl⟩,q⟩
theorem Aj {f:Value->Value->Sem Value} {g:Int->Int->Bool}
  (rule:∀(i j:Int) (t u:Tok) (s:Shared) (Q:Value->Shared->Prop) (E:Value->Shared->Prop),Q (.bool (g i j)) s->wpAny (model X.prog X.w) X.A (f (.int i t) (.int j u)) Q E s):
  j3 X f (BB λi j=> .bl (g i j)):=by
 intro pins s σ H x y v u Q I rx ry h;obtain⟨i,j,rfl,rfl,q⟩:=h;obtain⟨t,rfl⟩:=rx;obtain⟨t',rfl⟩:=ry;exact rule i j t t' s _ _ ⟨.bl (g i j),H,I,rfl,q⟩
noncomputable def Jk (i j:Int):Prop:=0 < j/\j < 1073741824
noncomputable def BO (i j:Int):Prop:=(-(2 ^ 64) < i/\i < 2 ^ 64)\/(-(2 ^ 64) < j/\j < 2 ^ 64)
theorem BO.ok {i j:Int} (h:BO i j):IntMulOk i j:=by
 rcases h with ⟨h1,h2⟩ | ⟨h1,h2⟩
 ·exact .of_left (intBits_le_64 h1 h2)
 ·exact .of_right (intBits_le_64 h1 h2)
theorem Dm:j3 X (binaryOp .Add) (BB λi j=> .int (i + j)):=GU λ_ _ _ _ _ _ _ q=>add_int q
theorem Dw:j3 X (binaryOp .Sub) (BB λi j=> .int (i - j)):=GU λ_ _ _ _ _ _ _ q=>sub_int q
theorem Dv:j3 X (binaryOp .Mult) (rI BO λi j=> .int (i * j)):=IZ λ_ _ _ _ _ _ _ hc q=>mul_int q hc.ok
theorem Ja:j3 X (binaryOp .FloorDiv) (rI Jk λi j=> .int (i / j)):=IZ λi j _ _ _ _ _ hc q=>by have h1:(0:Int) < j:=hc.1;have h2:j < 1073741824:=hc.2;exact floordiv_int (by lia) (by rw[Int.fdiv_eq_ediv_of_nonneg i (by lia)];exact q) (.inl (PyProof.noPylong_small (by lia)))
theorem Du:j3 X (binaryOp .Mod) (rI (λ_ j=>0 < j) λi j=> .int (i % j)):=IZ λi j _ _ _ _ _ hc q=>by have h1:(0:Int) < j:=hc;exact mod_int' (by lia) (by rw[Int.fmod_eq_emod_of_nonneg i (by lia)];exact q)
theorem HS {f:Value->Sem Value} {g:Int->Int}
  (rule:∀(i:Int) (t:Tok) (s:Shared) (Q:Value->Shared->Prop) (E:Value->Shared->Prop),Q (.int (g i) s.toks) {s with toks:=s.toks + 1}->wpAny (model X.prog X.w) X.A (f (.int i t)) Q E s):
  Jv X f (rU λi=> .int (g i)):=by
 intro pins s σ H x v Q I rx h;obtain⟨i,rfl,q⟩:=h;obtain⟨t,rfl⟩:=rx;exact rule i t s _ _ ⟨.int (g i),H,I.tok _,⟨_,rfl⟩,q⟩
theorem Em:Jv X (unaryOp .USub) (rU λi=> .int (-i)):=HS λ_ _ _ _ _ q=>neg_int q
end
section
variable {X:Cx} {a b c:Expr} {ta tb tc:TE} {pos:Pos}
theorem wo {pins:List (Addr×Obj)} {σ:St} {H:Hp} {s:Shared} {Q:VK} {k k':Bool} (I:Inv X pins σ H s) (q:Q (.bl k) H) (e:k=k'):EP X pins σ Q (.bool k') s:=by subst e;exact⟨.bl k,H,I,rfl,q⟩
theorem GZ:j3 X (compareOp .Lt) (BB λi j=> .bl (decide (i < j))):=Aj λ_ _ _ _ _ _ _ q=>lt_int q
theorem GY:j3 X (compareOp .LtE) (BB λi j=> .bl (decide (i<=j))):=Aj λ_ _ _ _ _ _ _ q=>le_int q
theorem GW:j3 X (compareOp .Gt) (BB λi j=> .bl (decide (j < i))):=Aj λ_ _ _ _ _ _ _ q=>gt_int q
theorem GV:j3 X (compareOp .GtE) (BB λi j=> .bl (decide (j<=i))):=Aj λ_ _ _ _ _ _ _ q=>ge_int q
theorem Ds:j3 X (compareOp .Is) (λx y H Q=>y= .aT/\Q (.bl (decide (x= .aT))) H):=by
 intro pins s σ H x y v u Q I rx ry h;obtain⟨rfl,q⟩:=h;cases ry;refine is_none_gen (wo I q ?_);cases x <;> first
  | (cases rx;rfl)
  | (obtain⟨t,rfl⟩:=rx;rfl)
theorem Am:j3 X (compareOp .IsNot) (λx y H Q=>y= .aT/\Q (.bl (!decide (x= .aT))) H):=by
 intro pins s σ H x y v u Q I rx ry h;obtain⟨rfl,q⟩:=h;cases ry;refine isnot_none_gen (wo I q ?_);cases x <;> first
  | (cases rx;rfl)
  | (obtain⟨t,rfl⟩:=rx;rfl)
theorem Au {op:CmpOp} {r:R2} (ho:j3 X (compareOp op) r) (ha:PE X a ta) (hb:PE X b tb) (hm:behindInMarks op b=false):PE X (.Compare a [op] [b] pos) (Je r ta tb):=by intro pins s σ H Q I h;exact wpAny_Compare1 (B8 ha hb I h λv u s2 x y H2 I2 rx ry q=>ho pins s2 σ H2 x y v u Q I2 rx ry q) hm
noncomputable def HR (t:TE):TT:=λσ H Q=>t σ H λx H'=>∃k,x= .bl k/\Q k H'
theorem AF {op:CmpOp} {r:R2} (ho:j3 X (compareOp op) r) (ha:PE X a ta) (hb:PE X b tb) (hm:behindInMarks op b=false):PT X (.Compare a [op] [b] pos) (HR (Je r ta tb)):=by
 intro pins s σ H Q I h;refine wpAny_isTrue_Compare1 (bV (ha pins s σ H _ I h) λv s1 ⟨x,H1,I1,r1,q1⟩=>bV (hb pins s1 σ H1 _ I1 q1) λu s2 ⟨y,H2,I2,r2,q2⟩=>
  bV (ho pins s2 σ H2 x y v u _ I2 r1 r2 q2) λc s3 ⟨z,H3,I3,r3,k,e,q3⟩=>?_) hm
 subst e;cases r3;exact wpAny_truthy_bool ⟨H3,I3,q3⟩
noncomputable def E8 (K:PySem.W.Frag) (x:V) (H:Hp) (k:Bool):Prop:=
 match x with
 | .aT=>k=false
 | .bl b=>k=b
 | .int i=>k=(i != 0)
 | .str y=>y.length<=sizeLine/\k=((y.length:Int) != 0)
 | .Cb y=>y.size<=sizeLine/\k=((y.size:Int) != 0)
 | .ref p=>(∃xs,dB K H p xs/\k= !xs.isEmpty)\/(∃xs,e9 K H p xs/\k= !xs.isEmpty)\/∃cV,H p=some (.dK cV)/\k= !cV.isEmpty
 | _=>False
theorem qH {κ:Type} {cV:List (κ×V)} {vs:List (κ×Value)} (r:KV cV vs):(!vs.isEmpty)= !cV.isEmpty:=by cases r <;> rfl
theorem kv {xs:List V} {its:List Value} (r:au xs its):(!its.toArray.isEmpty)= !xs.isEmpty:=by cases r <;> simp
theorem kC:(sizeLine:Nat) < 2 ^ 63:=by rw[sizeLine_eq];decide
theorem Ej:Ju X (λx H Q=>∃k,E8 X.K x H k/\Q k H):=by
 intro pins s σ H x v Q I rx h;obtain⟨k,e,q⟩:=h;have hl:=kC;have hs:sizeLine=16777216:=sizeLine_eq;cases x with
 | aT=>cases rx;have e':k=false:=e;subst e';exact truthy_none ⟨H,I,q⟩
 | bl b=>cases rx;have e':k=b:=e;subst e';exact wpAny_truthy_bool ⟨H,I,q⟩
 | int i=>obtain⟨t,rfl⟩:=rx;have e':k=(i != 0):=e;subst e';exact PySem.P.truthy_int ⟨H,I,q⟩
 | str y=>obtain⟨t,rfl⟩:=rx;obtain⟨hy,e'⟩:y.length<=sizeLine/\k=((y.length:Int) != 0):=e;subst e';exact PySem.P.truthy_str (by lia) ⟨H,I.tok _,q⟩
 | Cb y=>obtain⟨t,rfl⟩:=rx;obtain⟨hy,e'⟩:y.size<=sizeLine/\k=((y.size:Int) != 0):=e;subst e';exact PySem.W.truthy_bytes (by lia) ⟨H,I.tok _,q⟩
 | ref p=>
  cases rx;have e':(∃xs,dB X.K H p xs/\k= !xs.isEmpty)\/(∃xs,e9 X.K H p xs/\k= !xs.isEmpty)\/∃cV,H p=some (.dK cV)/\k= !cV.isEmpty:=e;rcases e' with ⟨xs,hx,e'⟩ | ⟨xs,hx,e'⟩ | ⟨cV,hx,e'⟩
  ·subst e';obtain⟨its,r,pl,hz⟩:=I.list hx;have hlen:=r.length;exact wpAny_truthy_list pl.isList (by simp only[Pe];lia) ⟨H,I.tok _,by rw[kv r];exact q⟩
  ·subst e';obtain⟨its,r,pl,hz⟩:=I.tuple hx;have hlen:=r.length;exact truthy_tuple pl (by simp only[Pe];lia) ⟨H,I.tok _,by rw[kv r];exact q⟩
  ·subst e';obtain⟨hz,hS,vs,r,m⟩:cV.length<=sizeLine/\(p==sysModules)=false/\∃vs,KV cV vs/\s.heap.DictOf (nJ X.prog X.w) p vs:=I.hok p _ hx;have hlen:cV.length=vs.length:=Paired.length r;exact wpAny_truthy_dict hS m (by lia) ⟨H,I.tok _,by rw[qH r];exact q⟩
 | _=>exact(show False from e).elim
theorem xV (ha:PE X a ta) (he:∀whole,isTrue a X.env whole=(do let v<-whole;standAt a.pos;holding [v] (truthy v))):
  PT X a (λσ H Q=>ta σ H λx H'=>∃k,E8 X.K x H' k/\Q k H'):=by
 intro pins s σ H Q I h;exact isTrue_plain (bV (ha pins s σ H _ I h) λv s1 ⟨x,H1,I1,r1,q1⟩=>Ej pins s1 σ H1 x v Q I1 r1 q1) (he _)
theorem vals1 {x:V} {us:List Value} (r:au [x] us):∃u,us=[u]/\RelV x u:=by
 cases r with
 | cons r1 r2=>cases r2;exact⟨_,rfl,r1⟩
theorem vals2 {x y:V} {us:List Value} (r:au [x,y] us):∃u w',us=[u,w']/\RelV x u/\RelV y w':=by
 cases r with
 | cons r1 r2=>
  cases r2 with
  | cons r3 r4=>cases r4;exact⟨_,_,rfl,r1,r3⟩
theorem vR:cX X (.builtin "abs") (λxs H Q=>∃i,xs=[.int i]/\Q (.int (if i < 0 then -i else i)) H):=by intro pins s σ H xs us Q I r h;obtain⟨i,rfl,q⟩:=h;obtain⟨u,rfl,t,rfl⟩:=vals1 r;exact call_abs_int λu tk=>⟨.int (if i < 0 then -i else i),H,I.tok _,⟨_,rfl⟩,q⟩
theorem uh (hc:X.calm=true):cX X (.builtin "max") (λxs H Q=>∃i j,xs=[.int i,.int j]/\Q (.int (if j > i then j else i)) H):=by
 intro pins s σ H xs us Q I r h;obtain⟨i,j,rfl,q⟩:=h;obtain⟨u,w',rfl,⟨t,rfl⟩,⟨t',rfl⟩⟩:=vals2 r;refine max_two_ints (I.ok.hd hc) λh' tk k=>⟨_,H,I.kept k,?_,q⟩
 by_cases hj:j > i
 ·rw[if_pos hj,if_pos hj];exact⟨_,rfl⟩
 ·rw[if_neg hj,if_neg hj];exact⟨_,rfl⟩
theorem um (hc:X.calm=true):cX X (.builtin "min") (λxs H Q=>∃i j,xs=[.int i,.int j]/\Q (.int (if j < i then j else i)) H):=by
 intro pins s σ H xs us Q I r h;obtain⟨i,j,rfl,q⟩:=h;obtain⟨u,w',rfl,⟨t,rfl⟩,⟨t',rfl⟩⟩:=vals2 r;refine min_two_ints (I.ok.hd hc) λh' tk k=>⟨_,H,I.kept k,?_,q⟩
 by_cases hj:j < i
 ·rw[if_pos hj,if_pos hj];exact⟨_,rfl⟩
 ·rw[if_neg hj,if_neg hj];exact⟨_,rfl⟩
noncomputable def Jq (K:PySem.W.Frag) (x:V) (H:Hp) (n:Nat):Prop:=
 match x with
 | .str y=>y.length<=sizeLine/\n=y.length
 | .Cb y=>y.size<=sizeLine/\n=y.size
 | .ref p=>(∃xs,dB K H p xs/\n=xs.length)\/∃xs,e9 K H p xs/\n=xs.length
 | _=>False
theorem j7:cX X (.builtin "len") (λxs H Q=>∃x n,xs=[x]/\Jq X.K x H n/\Q (.int n) H):=by
 intro pins s σ H xs us Q I r h;obtain⟨x,n,rfl,e,q⟩:=h;obtain⟨u,rfl,rx⟩:=vals1 r;have hl:=kC;have hs:sizeLine=16777216:=sizeLine_eq;cases x with
 | str y=>obtain⟨t,rfl⟩:=rx;obtain⟨hy,e'⟩:y.length<=sizeLine/\n=y.length:=e;subst e';exact len_str (by lia) ⟨.int _,H,I.tok _,⟨_,rfl⟩,q⟩
 | Cb y=>obtain⟨t,rfl⟩:=rx;obtain⟨hy,e'⟩:y.size<=sizeLine/\n=y.size:=e;subst e';exact PySem.W.len_bytes (by lia) ⟨.int _,H,I.tok _,⟨_,rfl⟩,q⟩
 | ref p=>
  cases rx;have e':(∃xs,dB X.K H p xs/\n=xs.length)\/∃xs,e9 X.K H p xs/\n=xs.length:=e;rcases e' with ⟨xs,hx,e'⟩ | ⟨xs,hx,e'⟩
  ·subst e';obtain⟨its,r',pl,hz⟩:=I.list hx;have hlen:=r'.length;exact Calls.call_len_list pl.isList (by simp only[Pe];lia) ⟨.int xs.length,H,I.tok _,⟨_,by simp only[Pe];rw[hlen]⟩,q⟩
  ·subst e';obtain⟨its,r',pl,hz⟩:=I.tuple hx;have hlen:=r'.length;exact len_tuple pl (by simp only[Pe];lia) ⟨.int xs.length,H,I.tok _,⟨_,by simp only[Pe];rw[hlen]⟩,q⟩
 | _=>exact(show False from e).elim
end
end L2
namespace L2
open PySem PySem.Spec PyProof.Rows
structure BU (h:Heap) (x dx C:Addr) (mA:Str->Option Value):Prop where
 obj:h.get? x=some (PySem.W.instObj C dx)
 ns:h.Ns1 dx mA
 ne:dx≠x
theorem uP {h:Heap} {dx:Addr} {mA:Str->Option Value} (n:h.Ns1 dx mA):∃od,h.get? dx=some od/\∀name,PySem.W.lookIn name od=some (mA name):=by
 obtain⟨o,es,ep,ho,hd,hk,_,hm⟩:=n;refine⟨o,ho,λname=>?_⟩;have e:=hm name;unfold nsFind findBy at e;rw[<-Array.find?_toList] at e;unfold PySem.W.lookIn;rw[hd];dsimp only;split
 ·rename_i y q;rw[q] at e;exact congrArg some e
 ·rename_i q;rw[q] at e;have a:es.toList.any (·.refKey)=false:=by rw[List.any_eq_false];intro y hy;obtain⟨z,t,Kh⟩:=hk y (Array.mem_toList_iff.mp hy);simp[DictEntry.refKey,Kh]
  have a':¬es.toList.any (·.refKey)=true:=by rw[a];exact Bool.false_ne_true
  rw[if_neg a'];exact congrArg some e
theorem BU.look {h:Heap} {x dx C:Addr} {mA:Str->Option Value} (I:BU h x dx C mA):∃od,PySem.W.InstAt h x (PySem.W.instObj C dx) C (some od)/\∀name,PySem.W.lookIn name od=some (mA name):=
 let ⟨od,ho,hl⟩:=uP I.ns
 ⟨od,⟨I.obj,rfl,rfl,ho⟩,hl⟩
section
variable {P:Program} {w:World} {H H':Hp} {h h':Heap} {a C dx:Addr} {fs JS:List (Str×V)}
theorem zS (hok:eX P w H h) (e:H a=some (.ins C dx fs)):∃mA,BU h a dx C mA/\(∀f,BW (fs.lookup f) (mA f))/\PySem.Within mA (fs.map (·.1))/\fs.length<=1000/\H dx=some (.own a):=by obtain⟨d,z,ne,ob,mA,n,r,q⟩:=(show bH P w H h a (.ins C dx fs) from hok a _ e);exact⟨mA,⟨ob,n,ne⟩,r,q,z,d⟩
end
structure Jl (K:PySem.W.Frag) (C:Addr):Prop where
 pg:PySem.W.plainGet K C Str.empty=true
 hd:PySem.W.hasDictIn K C=true
 po:PySem.W.plainOver K C=true
 sa:PySem.W.findIn K (.ref C) "__setattr__"=some (some (.builtin "object.__setattr__"))
theorem Jl.get {K:PySem.W.Frag} {C:Addr} (c:Jl K C) (f:Str):PySem.W.plainGet K C f=true:=c.pg
section
variable {X:Cx} {pins:List (Addr×Obj)} {σ:St} {H:Hp} {s:Shared} {A:Around} {E:Value->Shared->Prop} {Q:Value->Shared->Prop} {c:Value} {b:Bool}
inductive iy (K:PySem.W.Frag) (H:Hp):V->Value->Prop where
 | aT:iy K H .aT (.type "NoneType")
 | bl (x:Bool):iy K H (.bl x) (.type "bool")
 | int (i:Int):iy K H (.int i) (.type "int")
 | str (x:Str):iy K H (.str x) (.type "str")
 | yL (x:UInt64):iy K H (.yL x) (.type "float")
 | lst {a:Addr} {xs:List V} (e:H a=some (.lst xs)):iy K H (.ref a) (.type "list")
 | sF {a:Addr} {o:Obj} {xs:List V} (e:H a=some (.sF o (.lst xs))):iy K H (.ref a) (.type "list")
 | tup {a:Addr} {xs:List V} (e:H a=some (.tup xs)):iy K H (.ref a) (.type "tuple")
 | dK {a:Addr} {cV:List (Key×V)} (e:H a=some (.dK cV)):iy K H (.ref a) (.type "dict")
 | dT {a:Addr} {cV:List (List Key×V)} (e:H a=some (.dT cV)):iy K H (.ref a) (.type "dict")
 | ins {a C dx:Addr} {fs:List (Str×V)} (e:H a=some (.ins C dx fs)) (cl:Jl K C) (ha:PySem.W.findIn K (.ref C) "__class__"=some (some (.builtin "object.__class__")))
   (hn:PySem.W.specialIn K (.builtin "object.__class__") "__get__"=some (some (.builtin "getset_descriptor.__get__"))) (Mn:PySem.W.takesIn K (.builtin "object.__class__")=some true)
   (hm:PySem.W.mroIn K C (.type "object")=some true):iy K H (.ref a) (.ref C)
theorem uK {x:V} {u t:Value} (I:Inv X pins σ H s) (rx:RelV x u) (ty:iy X.K H x t) (e:PySem.W.kitOne X.K t c=some b) (h:∀tk,Q (.bool b) {s with toks:=tk}):
  wpAny (model X.prog X.w) A (call (.builtin "isinstance") [u,c]) Q E s:=by
 cases ty with
 | aT=>cases (show u=Value.none from rx);exact PySem.W.kia_one PySem.W.kitx_none I.pe True.intro e (λz=>nomatch z) h
 | bl y=>cases (show u=Value.bool y from rx);exact PySem.W.kia_one PySem.W.kitx_bool I.pe True.intro e (λz=>nomatch z) h
 | int i=>obtain⟨t,q⟩:=(show∃t,u=Value.int i t from rx);cases q;exact PySem.W.kia_one PySem.W.kitx_int I.pe True.intro e (λz=>nomatch z) h
 | str y=>obtain⟨t,q⟩:=(show∃t,u=Value.str y t from rx);cases q;exact PySem.W.kia_one PySem.W.kitx_str I.pe True.intro e (λz=>nomatch z) h
 | yL y=>obtain⟨t,q⟩:=(show∃t,u=Value.float y t from rx);cases q;exact PySem.W.kia_one PySem.W.kitx_float I.pe True.intro e (λz=>nomatch z) h
 | @lst a xs ea=>cases (show u=Value.ref a from rx);obtain⟨_,_,n,_,h1⟩:=(show bH X.prog X.w H s.heap a (.lst xs) from I.hok a _ ea);exact PySem.W.kia_one PySem.W.kitx_list I.pe ⟨_,h1,rfl⟩ e (λz=>nomatch z) h
 | @sF a ob xs ea=>cases (show u=Value.ref a from rx);obtain⟨_,_,_,n,_,h1⟩:=(show bH X.prog X.w H s.heap a (.sF ob (.lst xs)) from I.hok a _ ea);exact PySem.W.kia_one PySem.W.kitx_list I.pe ⟨_,h1,rfl⟩ e (λz=>nomatch z) h
 | @tup a xs ea=>cases (show u=Value.ref a from rx);obtain⟨_,_,_,p⟩:=(show bH X.prog X.w H s.heap a (.tup xs) from I.hok a _ ea);obtain⟨o,h1,h2,_⟩:=p;exact PySem.W.kia_one PySem.W.kitx_tuple I.pe ⟨o,h1,h2⟩ e (λz=>nomatch z) h
 | @dK a cV ea=>cases (show u=Value.ref a from rx);obtain⟨_,_,vs,_,p⟩:=(show bH X.prog X.w H s.heap a (.dK cV) from I.hok a _ ea);obtain⟨o,es,ep,h1,h2,_⟩:=p;exact PySem.W.kia_one PySem.W.kitx_dict I.pe ⟨o,h1,h2.1⟩ e (λz=>nomatch z) h
 | @dT a cV ea=>cases (show u=Value.ref a from rx);obtain⟨_,_,xs,_,o,es,ep,h1,h2,_⟩:=(show bH X.prog X.w H s.heap a (.dT cV) from I.hok a _ ea);exact PySem.W.kia_one PySem.W.kitx_dict I.pe ⟨o,h1,h2.1⟩ e (λz=>nomatch z) h
 | @ins a C dx fs ea cl ha hn Mn hm=>cases (show u=Value.ref a from rx);obtain⟨mA,O,_⟩:=zS I.hok ea;obtain⟨od,J,_⟩:=O.look;exact PySem.W.kia_one (PySem.W.kitx_own (cl.get _) cl.hd ha hn Mn hm) I.pe J e (λz=>nomatch z) h
end
end L2
namespace L2
open PySem PySem.Spec PyProof.Rows
structure ij (k:Nat) (A:Around):Prop where
 hd:A.handled=none
 dp:A.depth + 3 * k + 5 < recursionLimit
 un:A.units + 16 * k + 200 < cLine
theorem ij.deeper {k:Nat} {A:Around} (r:ij (k + 1) A) (env:Env):ij k (A.deeper env):=
 ⟨r.hd,by have:=r.dp;show A.depth + 1 + 3 * k + 5 < _;lia,by have:=r.un;show A.units + 3 + 16 * k + 200 < _;lia⟩
theorem ij.depth {k:Nat} {A:Around} (r:ij k A):A.depth < recursionLimit:=by have:=r.dp;lia
noncomputable def HK:TA:=λ_ H Q=>Q [] H
noncomputable def BG (ta:TE) (tr:TA):TA:=λσ H Q=>ta σ H λx H1=>tr σ H1 λxs H2=>Q (x::xs) H2
section
variable {X:Cx} {e:Expr} {es:List Expr} {te:TE} {t:TA} {pos:Pos}
theorem kL:PA X [] HK:=λ_ _ _ _ H Q I h=>Calls.spliced_nil ⟨[],H,I,.nil,h⟩
theorem fm (ha:PE X e te) (hr:PA X es t) (hs:starEach (e::es) X.env=(false,eval e X.env)::starEach es X.env:=by rfl):PA X (e::es) (BG te t):=by intro pos pins s σ H Q I h;rw[hs];show wpAny _ _ (spliced ((false,eval e X.env)::backTo pos (starEach es X.env))) _ _ s;refine Calls.spliced_cons (bV (ha pins s σ H _ I h) λu s1 ⟨x,H1,I1,r1,q1⟩=>?_);exact bV (hr pos pins s1 σ H1 _ I1 q1) λus s2 ⟨xs,H2,I2,r2,q2⟩=>⟨x::xs,H2,I2,.cons r1 r2,q2⟩
noncomputable def Lz (t:TA):TE:=λσ H Q=>t σ H λxs H1=>xs.length<=sizeLine/\∀p,H1 p=none->Q (.ref p) (upd H1 p (.tup xs))
noncomputable def Lw (t:TA):TE:=λσ H Q=>t σ H λxs H1=>xs.length<=sizeLine/\∀p,H1 p=none->Q (.ref p) (upd H1 p (.lst xs))
theorem DI {x1} (h:PA X es t):PE X (.Tuple es x1 pos) (Lz t):=by intro pins s σ H Q I hq;refine wpAny_Tuple_spliced (bV (h pos pins s σ H _ I hq) λus s1 ⟨xs,H1,I1,r,z,q⟩=>⟨by rw[<-r.length];exact z,?_⟩);have hf:H1 s1.heap.objs.size=none:=I1.hok.fresh (Pj _);refine⟨.ref s1.heap.objs.size,upd H1 s1.heap.objs.size (.tup xs),I1.laid (t':=s1.toks) (λb u e=>Pb _ e) (Pj _) ?_,rfl,q _ hf⟩;exact⟨z,us,r,⟨_,Pl _ rfl,rfl,_,rfl,rfl,rfl⟩⟩
theorem DD (h:PA X es t):PE X (.List es pos) (Lw t):=by intro pins s σ H Q I hq;refine wpAny_List_spliced (bV (h pos pins s σ H _ I hq) λus s1 ⟨xs,H1,I1,r,z,q⟩=>⟨by rw[<-r.length];exact z,?_⟩);have hf:H1 s1.heap.objs.size=none:=I1.hok.fresh (Pj _);refine⟨.ref s1.heap.objs.size,upd H1 s1.heap.objs.size (.lst xs),I1.laid (t':=s1.toks) (λb u e=>Pb _ e) (Pj _) ?_,rfl,q _ hf⟩;exact⟨z,us,0,r,Pl _ rfl⟩
end
noncomputable abbrev Sp:=List V->Hp->VK->XK->Prop
noncomputable abbrev jY:=List Env->Hp->Shared->XK->Value->Shared->Prop
structure yZ (P:Program) (w:World) (K:PySem.W.Frag) (mg:Str->Option Value) (base:Heap) (A:Around) (outer:List Env) (s:Shared) (H:Hp):Prop where
 frames:A.frames=some outer
 mod:Mod K mg base
 bs:∀b o,base.get? b=some o->s.heap.get? b=some o/\H b=none
 Bd:base.objs.size<=s.heap.objs.size
 km:s.heap.FunFrames base outer
 EI:∀b∈jB outer,H b=none
 hok:eX P w H s.heap
 bare:AllBare s.gens
noncomputable def CE (outer:List Env) (P:Program) (w:World) (H:Hp) (s:Shared) (Q:VK) (u:Value) (s':Shared):Prop:=
 ∃v H',s'.os=s.os/\AllBare s'.gens/\Un (jB outer) [] H H' s.heap s'.heap/\eX P w H' s'.heap/\RelV v u/\Q v H'
noncomputable def CR (CX:jY) (outer:List Env) (P:Program) (w:World) (H:Hp) (s:Shared) (Q:VK) (E:XK) (r:Result) (s':Shared):Prop:=
 match r with
 | .ok (.ret u)=>CE outer P w H s Q u s'
 | .ok _=>False
 | .error e=>CX outer H s E e s'
structure iZ (P:Program) (w:World) (K:PySem.W.Frag) (mg:Str->Option Value) (base:Heap) (CX:jY) (k:Nat) (f:Addr) (fd:FuncData) (ps:List Str) (sp:Sp):Prop where
 len:∀vs H Q E,sp vs H Q E->vs.length=ps.length
 run:∀(A:Around) (outer:List Env) (s:Shared) (H:Hp) (args:Args) (us:List Value) (vs:List V) (Q:VK) (E:XK),ij k A->yZ P w K mg base A outer s H->BindsTo s fd args (ps.zip us)->au vs us->sp vs H Q E->
  codeAny (model P w) A (.call (.ref f) args) (CR CX outer P w H s Q E) s
theorem iZ.imp {P:Program} {w:World} {K:PySem.W.Frag} {mg:Str->Option Value} {base:Heap} {CX:jY} {k:Nat} {f:Addr} {fd:FuncData} {ps:List Str} {sp MB:Sp} (F:iZ P w K mg base CX k f fd ps sp)
  (h:∀vs H Q E,MB vs H Q E->sp vs H Q E):iZ P w K mg base CX k f fd ps MB:=
 ⟨λvs H Q E q=>F.len vs H Q E (h _ _ _ _ q),λA outer s H args us vs Q E hr he hb hv hs=>F.run A outer s H args us vs Q E hr he hb hv (h _ _ _ _ hs)⟩
section
variable {X:Cx} {pins:List (Addr×Obj)} {σ:St} {H:Hp} {s s':Shared}
theorem Inv.JN (I:Inv X pins σ H s):yZ X.prog X.w X.K X.mg X.base X.A X.stack s H:=
 ⟨I.ok.frames,I.ok.mod,I.bs,Pp I.ok.Bd I.sz,I.stack,I.tS,I.hok,I.bare⟩
theorem Inv.after {Q:VK} {u:Value} (I:Inv X pins σ H s) (h:CE X.stack X.prog X.w H s Q u s'):EP X pins σ Q u s':=by obtain⟨v,H',os,bare,un,hok,r,q⟩:=h;obtain⟨hh,g,d,t,Oo⟩:=s';obtain rfl:Oo=s.os:=os;exact⟨v,H',I.call (h':=hh) (g':=g) (d':=d) (t':=t) (ch:=[]) un hok bare (λb z=>absurd z (by simp)),r,q⟩
end
noncomputable def HF (sp:Sp) (ux:List V) (E:XK) (t:TA):TE:=λσ H Q=>t σ H λvs H1=>sp (vs++ux) H1 Q E
noncomputable def Binds (K:PySem.W.Frag) (fd:FuncData) (ps:List Str) (ds:List Value):Prop:=
 ∀(s:Shared) (us:List Value),K.In s.heap->(us++ds).length=ps.length->BindsTo s fd ⟨us,[]⟩ (ps.zip (us++ds))
theorem Binds.all {K:PySem.W.Frag} {fd:FuncData} {ps:List Str} (h:∀us:List Value,us.length=ps.length->bindArgs fd ⟨us,[]⟩=pure (ps.zip us)):Binds K fd ps []:=λs us _ hl=>by rw[P6] at hl ⊢;exact .of_eq (h us hl)
noncomputable def ql (CX:jY) (X:Cx) (E:XK):Prop:=∀(pins:List (Addr×Obj)) (σ:St) (H:Hp) (s:Shared) (e:Value) (s':Shared),Inv X pins σ H s->CX X.stack H s E e s'->X.xe e s'
section
variable {X:Cx} {CX:jY} {k:Nat} {f C:Addr} {fd:FuncData} {ps:List Str} {sp:Sp} {ux:List V} {ds:List Value} {E:XK} {x m:Str} {p pos apos:Pos} {e o:Expr} {es:List Expr} {ta:TE} {t:TA}
theorem DY {pins:List (Addr×Obj)} {σ:St} {H:Hp} {s:Shared} {Q:VK} {us:List Value} {vs:List V} (F:iZ X.prog X.w X.K X.mg X.base CX k f fd ps sp) (hr:ij k X.A) (hb:Binds X.K fd ps ds) (hd:au ux ds) (hx:ql CX X E)
  (I:Inv X pins σ H s) (r:au vs us) (h:sp (vs++ux) H Q E):wpAny (model X.prog X.w) X.A (call (.ref f) us) (EP X pins σ Q) X.xe s:=by
 have r2:au (vs++ux) (us++ds):=r.append hd;have hl:(us++ds).length=ps.length:=by rw[<-r2.length];exact F.len _ _ _ _ h
 refine wpAny_call (codeAny_mono (F.run X.A X.stack s H ⟨us,[]⟩ (us++ds) (vs++ux) Q E hr I.JN (hb s us I.pe hl) r2 h) λr s' hq=>?_);cases r with
 | error e=>exact hx pins σ H s e s' I hq
 | ok fl=>
  cases fl with
  | ret u=>exact I.after hq
  | next=>exact False.elim hq
  | brk=>exact False.elim hq
  | cont=>exact False.elim hq
theorem As (F:iZ X.prog X.w X.K X.mg X.base CX k f fd ps sp) (hr:ij k X.A) (hg:Gl X x) (hm:X.mg x=some (.ref f)) (hk:PySem.W.keepIn X.K (.ref f)=true) (hb:Binds X.K fd ps ds) (hd:au ux ds) (hx:ql CX X E)
  (ha:PA X (e::es) t) (zH:(x==("__debug__":Str))=false:=by decide) (he:starEach (e::es) X.env=(false,eval e X.env)::starEach es X.env:=by rfl) (qh:(backTo pos (starEach es X.env)).any (·.1)=false:=by rfl):
  PE X (.Call (.Name x p) (e::es) [] pos) (HF sp ux E t):=by
 intro pins s σ H Q I h;refine wpAny_Call_Name_kw (sZ I hg hm ?_ zH);refine PySem.W.callWith_K (h₀:=X.base) I.ok.mod.KH hk (bV (ha pos pins s σ H _ I h) λus s1 ⟨vs,H1,I1,r,q⟩=>⟨I1.pe,?_⟩) he qh;exact DY F hr hb hd hx I1 r q
end
structure eZ (N P:List Str) (sc:Scope):Prop where
 kind:sc.kind= .function
 co:sc.isCoroutine=false
 gen:sc.isGenerator=false
 nd:N.Nodup
 pre:N.take P.length=P
 par:∀x∈P,sc.names.lookup x=some .local\/sc.names.lookup x=some .cell
 Dh:∀y∈sc.names,y.2≠ .free
theorem lV {kindOf:Str->Option NameKind} {x:Str}:∀{binds:List (Str×Value)} {m:Str->Option Value},(∀v,(x,v)∉binds)->bindL kindOf binds m x=m x
 | [],_,_=>rfl
 | (n,v)::r,m,h=>by
  unfold bindL;rw[lV λw hw=>h w (Ph _ hw)];split
  ·have:x≠n:=by rintro rfl;exact h v Pk
   simp[this]
  ·rfl
theorem lT {kindOf:Str->Option NameKind} {x:Str}:∀{binds:List (Str×Value)} {m:Str->Option Value},(∀v,(x,v)∉binds)->bindC kindOf binds m x=m x
 | [],_,_=>rfl
 | (n,v)::r,m,h=>by
  unfold bindC;rw[lT λw hw=>h w (Ph _ hw)];split
  ·rfl
  ·have:x≠n:=by rintro rfl;exact h v Pk
   simp[this]
theorem lU {kindOf:Str->Option NameKind} {x:Str} {v:Value}:∀{P:List Str} {vs:List Value} {i:Nat} {m:Str->Option Value},P.Nodup->P[i]?=some x->vs[i]?=some v->kindOf x=some .local->
  bindL kindOf (P.zip vs) m x=some v
 | [],_,_,_,_,h,_,_=>by simp at h
 | _::_,[],_,_,_,_,h,_=>by simp at h
 | p::P,w::vs,0,m,nd,h1,h2,hk=>by simp at h1 h2;subst h1;subst h2;show bindL kindOf ((p,w)::P.zip vs) m p=_;unfold bindL;rw[lV λv hv=>(List.nodup_cons.mp nd).1 (List.of_mem_zip hv).1,if_pos hk];simp
 | p::P,w::vs,i + 1,m,nd,h1,h2,hk=>by show bindL kindOf ((p,w)::P.zip vs) m x=_;unfold bindL;exact lU (i:=i) (List.nodup_cons.mp nd).2 (by simpa using h1) (by simpa using h2) hk
theorem lS {kindOf:Str->Option NameKind} {x:Str} {v:Value}:∀{P:List Str} {vs:List Value} {i:Nat} {m:Str->Option Value},P.Nodup->P[i]?=some x->vs[i]?=some v->kindOf x≠some .local->
  bindC kindOf (P.zip vs) m x=some v
 | [],_,_,_,_,h,_,_=>by simp at h
 | _::_,[],_,_,_,_,h,_=>by simp at h
 | p::P,w::vs,0,m,nd,h1,h2,hk=>by simp at h1 h2;subst h1;subst h2;show bindC kindOf ((p,w)::P.zip vs) m p=_;unfold bindC;rw[lT λv hv=>(List.nodup_cons.mp nd).1 (List.of_mem_zip hv).1,if_neg hk];simp
 | p::P,w::vs,i + 1,m,nd,h1,h2,hk=>by show bindC kindOf ((p,w)::P.zip vs) m x=_;unfold bindC;exact lS (i:=i) (List.nodup_cons.mp nd).2 (by simpa using h1) (by simpa using h2) hk
noncomputable def start (N:List Str) (vs:List V):St:=vs.map some++List.replicate (N.length - vs.length) none
noncomputable def oJ (CX:jY) (P:Program) (w:World) (K:PySem.W.Frag) (mg:Str->Option Value) (base:Heap) (N:List Str) (qual:Str) (scope:Scope) (f:Addr) (cd:Value) (A:Around) (outer:List Env) (s:Shared) (H:Hp) (E:XK):Cx where
 prog:=P
 w:=w
 K:=K
 mg:=mg
 base:=base
 A:=A.deeper (envOfC qual scope s.heap.objs.size f cd)
 N:=N
 s₀:=s
 H₀:=H
 env:=envOfC qual scope s.heap.objs.size f cd
 outer:=outer
 stack:=envOfC qual scope s.heap.objs.size f cd::outer
 ex:=[]
 calm:=true
 fn:=λ_=>true
 pn:=[]
 xe:=λe s'=>wpAny (model P w) (A.deeper (envOfC qual scope s.heap.objs.size f cd)) (leaving (envOfC qual scope s.heap.objs.size f cd) e) (λ_ s''=>CX outer H s E e s'') (λe' s''=>CX outer H s E e' s'') s'
theorem oG {sc:Scope} {n:Nat} {x:Str} (h:sc.names.lookup x=some .cell):∃c,(cellsFrom n sc.names []).lookup x=some c:=by have q:=PySem.W.cellsFrom_some sc.names n [] (.inl h);exact Option.isSome_iff_exists.mp q
theorem uI {CX:jY} {P:Program} {w:World} {K:PySem.W.Frag} {mg:Str->Option Value} {base:Heap} {N ps:List Str} {qual:Str} {scope:Scope} {f:Addr} {cd:Value} {A:Around} {outer:List Env} {s s1:Shared} {H:Hp} {E:XK} {us:List Value} {vs:List V}
  (S:eZ N ps scope) (hd:A.handled=none) (e0:yZ P w K mg base A outer s H) (hl:vs.length=ps.length) (r:au vs us)
  (x:InCallC s s.heap.objs.size (bindL (envOfC qual scope s.heap.objs.size f cd).kindOf (ps.zip us) λ_=>none) (cellsFrom (s.heap.objs.size + 1) scope.names []) (bindC (envOfC qual scope s.heap.objs.size f cd).kindOf (ps.zip us) λ_=>none) s1):
  Inv (oJ CX P w K mg base N qual scope f cd A outer s H E) [] (start N vs) H s1:=by
 have qh:ps.length<=N.length:=by have:=congrArg List.length S.pre;rw[List.length_take] at this;lia
 obtain⟨h1,tk,rfl,hk⟩:=x.done;have GO:∀b:Addr,b∉(oJ CX P w K mg base N qual scope f cd A outer s H E).ex:=λb z=>absurd (show b∈([]:List Addr) from z) (by simp)
 refine⟨⟨e0.mod,S.kind,rfl,rfl,Pj _,λy z c h1 h2=>?_,λy hy=>?_,λy c _ h=>?_,λ_=>hd,Around.frames_deeper e0.frames,.inr ⟨rfl,rfl⟩,λb z=>absurd z (GO b),e0.bs,e0.Bd,λb _ _=>GO b,λb z=>absurd z (GO b),e0.km,e0.EI⟩,
  rfl,e0.bare,Un.kept hk,⟨_,x.toInCall.ns,λi y v h1 h2 h3=>?_⟩,λy c h=>⟨_,x.cell y c h⟩,e0.hok.fresh (Pj _),λy c h=>?_,λp hp=>absurd (show p∈([]:List (Addr×Obj)) from hp) (by simp),e0.hok.kept hk,?_⟩
 ·exact name_of_addr x.apart (PySem.mem_of_lookup h1) (PySem.mem_of_lookup h2)
 ·have hy:scope.names.lookup y=some .cell\/scope.names.lookup y=some .free:=hy;rcases hy with hy | hy
  ·exact oG hy
  ·exact absurd rfl (S.Dh _ (PySem.mem_of_lookup hy))
 ·exact Nat.le_of_lt (x.above y c (PySem.mem_of_lookup h))
 ·have hi:i < vs.length:=by
   unfold start at h2;by_cases hi:i < vs.length
   ·exact hi
   ·rw[P9 (by simpa using hi)] at h2;rw[List.getElem?_replicate] at h2;split at h2 <;> cases h2
  have ha:vs[i]?=some v:=by
   unfold start at h2;rw[P8 (by simpa using hi),Py] at h2;cases e:vs[i]? with
   | none=>rw[e] at h2;cases h2
   | some a=>rw[e] at h2;cases h2;rfl
  obtain⟨u,hu,rv⟩:=r.get ha;have hp:ps[i]?=some y:=by rw[<-S.pre,List.getElem?_take_of_lt (by lia)];exact h1
  have Mu:ps.Nodup:=by rw[<-S.pre];exact S.nd.sublist (List.take_sublist _ _)
  refine⟨u,rv,?_⟩;rcases S.par y (List.mem_of_getElem? hp) with k | k
  ·exact .inl ⟨k,lU Mu hp hu k⟩
  ·obtain⟨c,e⟩:=oG (n:=s.heap.objs.size + 1) k;refine .inr ⟨.inl k,c,e,?_⟩;have q:=x.cell y c e;rw[lS Mu hp hu (by show scope.names.lookup y≠_;rw[k];decide)] at q;exact q
 ·exact e0.hok.fresh (Nat.le_of_lt (x.above y c (PySem.mem_of_lookup h)))
 ·unfold start;show _=N.length;rw[Pv,Pn,List.length_replicate]
  lia
end L2
namespace L2
open PySem PySem.Spec PyProof.Rows
section
variable {X:Cx} {x:Str} {p pos:Pos} {e:Expr} {es:List Expr} {t:TA} {id T:String} {r:List V->Hp->VK->Prop}
noncomputable def Lv (r:List V->Hp->VK->Prop) (t:TA):TE:=λσ H Q=>t σ H λvs H1=>r vs H1 Q
theorem pH (hc:cX X (.builtin id) r) (hg:Gl X x) (hm:X.mg x=none) (hv:bootBuiltins x=some (.builtin id)) (ha:PA X (e::es) t) (hn:x≠"__name__":=by decide) (zH:(x==("__debug__":Str))=false:=by decide)
  (he:starEach (e::es) X.env=(false,eval e X.env)::starEach es X.env:=by rfl) (qh:(backTo pos (starEach es X.env)).any (·.1)=false:=by rfl):PE X (.Call (.Name x p) (e::es) [] pos) (Lv r t):=by
 intro pins s σ H Q I h;refine wpAny_Call_Name_kw (kA I hg hm hv ?_ hn zH);exact PyProof.Rows.callWith_builtin1 (bV (ha pos pins s σ H _ I h) λus s1 ⟨vs,H1,I1,r1,q1⟩=>hc pins s1 σ H1 vs us Q I1 r1 q1) he qh
theorem uW (hc:cX X (.type T) r) (hg:Gl X x) (hm:X.mg x=none) (hv:bootBuiltins x=some (.type T)) (ha:PA X (e::es) t) (hn:x≠"__name__":=by decide) (zH:(x==("__debug__":Str))=false:=by decide)
  (he:starEach (e::es) X.env=(false,eval e X.env)::starEach es X.env:=by rfl) (qh:(backTo pos (starEach es X.env)).any (·.1)=false:=by rfl):PE X (.Call (.Name x p) (e::es) [] pos) (Lv r t):=by
 intro pins s σ H Q I h;refine wpAny_Call_Name_kw (kA I hg hm hv ?_ hn zH);exact PyProof.Rows.callWith_type1 (bV (ha pos pins s σ H _ I h) λus s1 ⟨vs,H1,I1,r1,q1⟩=>hc pins s1 σ H1 vs us Q I1 r1 q1) he qh
end
end L2
namespace HT
open PySem PyProof.Rows
section
variable {prog:Program} {w:World} {A:Around} {E:Value->Shared->Prop} {s:Shared}
theorem zx {t b:Addr} {vs ws:List Value} {Q:Value->Shared->Prop} (ht:IsTup s.heap t vs.toArray) (hb:IsTup s.heap b ws.toArray) (hv:vs≠[])
  (h1:ws=[]->Q (.ref t) s) (h2:ws≠[]->Q (.ref s.heap.objs.size) {s with heap:=s.heap.push {cls:= .type "tuple",data:= .seq (vs++ws).toArray}})
  (l9:vs.length + ws.length<=sizeLine):wpAny (model prog w) A (binaryOp .Add (.ref t) (.ref b)) Q E s:=by
 obtain⟨⟨cls,dd,data,sl⟩,ho,hc,n,hd⟩:=id ht;obtain⟨⟨Cj,sj,data2,tO⟩,oY,qe,n2,hd2⟩:=id hb;simp only at hc hd qe hd2;subst hc hd qe hd2;have e:vs.toArray++ws.toArray=(vs++ws).toArray:=by simp
 by_cases hw:ws=[]
 ·exact concat_meets ⟨_,ho,rfl⟩ ⟨_,oY,rfl⟩ noFill_tuple_add seq_tuple_add PySem.F.slot_tuple_add PySem.F.entry_tuple_add (PySem.F.args_tuple_add_2 _ _)
   (tuple_addW1 t b vs.toArray ws.toArray n n2 dd sj sl tO (by simpa using hv) (by simp[hw])) ⟨ho,oY,h1 hw⟩
 ·refine concat_meets ⟨_,ho,rfl⟩ ⟨_,oY,rfl⟩ noFill_tuple_add seq_tuple_add PySem.F.slot_tuple_add PySem.F.entry_tuple_add (PySem.F.args_tuple_add_2 _ _)
   (tuple_addW2 t b vs.toArray ws.toArray n n2 dd sj sl tO (by simpa using hv) (by simpa using hw) (by rw[Pe,Pe];exact l9)) ⟨ho,oY,?_⟩
  rw[e];exact h2 hw
noncomputable def bR (n d:Nat):Option Int->Nat
 | none=>d
 | some v=>if v < 0 then(v + (n:Int)).toNat else min v.toNat n
theorem kR (n d:Nat):bR n d none=d:=rfl
theorem tM (n d k:Nat):bR n d (some (k:Int))=min k n:=by show (if (k:Int) < 0 then((k:Int) + (n:Int)).toNat else min (k:Int).toNat n)=min k n;rw[if_neg (by lia),Int.toNat_natCast]
theorem DZ (n d:Nat) (hd:d<=n) (o:Option Int):bR n d o<=n:=by
 cases o with
 | none=>exact hd
 | some v=>
  show (if v < 0 then(v + (n:Int)).toNat else min v.toNat n)<=n;by_cases hv:v < 0
  ·rw[if_pos hv];lia
  ·rw[if_neg hv];exact Nat.min_le_right _ _
theorem r8 (v:Int) (n d:Nat):(if v < 0 then max (v + (n:Int)) 0 else min v (n:Int))=((bR n d (some v):Nat):Int):=by
 show (if v < 0 then max (v + (n:Int)) 0 else min v (n:Int))=(((if v < 0 then(v + (n:Int)).toNat else min v.toNat n):Nat):Int);by_cases hv:v < 0
 ·simp only[if_pos hv];lia
 ·simp only[if_neg hv];lia
theorem qm (lo hi:Option Int) (n:Nat):Builtin.Slice.sliceAdjust lo hi 1 (n:Int)=(((bR n 0 lo:Nat):Int),((bR n n hi:Nat):Int)):=by
 have h1:¬((1:Int) < 0):=by lia
 unfold Builtin.Slice.sliceAdjust;simp only[h1,if_false];refine Prod.ext ?_ ?_
 ·cases lo with
  | none=>rfl
  | some v=>exact r8 v n 0
 ·cases hi with
  | none=>rfl
  | some v=>exact r8 v n n
theorem qZ (i j:Nat):Builtin.Slice.slicePlaces (i:Int) (j:Int) 1=j - i:=by
 unfold Builtin.Slice.slicePlaces;have h1:(1:Int) > 0:=by lia
 simp only[h1,if_true,Int.ediv_one];split <;> lia
theorem kT {v:Value} {o:Option Int} {Q:Option Int->Shared->Prop} (p:IsPart v o) (h:Q o s):wpAny (model prog w) A (Builtin.Slice.slicePartIndex v) Q E s:=by
 cases p with
 | none=>exact slicePart_none h
 | int i t=>exact slicePart_int h
theorem eR {sl:Addr} {vl vu:Value} {lo hi:Option Int} {n:Nat} {Q:Int×Int×Nat->Shared->Prop} (hs:s.heap.IsSliceOf sl vl vu .none) (pl:IsPart vl lo) (pu:IsPart vu hi)
  (h:Q (((bR n 0 lo:Nat):Int),1,bR n n hi - bR n 0 lo) s):wpAny (model prog w) A (Builtin.Slice.sliceApplied (.ref sl) (pure (n:Int))) Q E s:=by
 obtain⟨os,CJ,zF,F5⟩:=id hs;unfold Builtin.Slice.sliceApplied Builtin.Slice.sliceFields;refine O9 (O9 (wpAny_field CJ F5 (x:=vl) rfl (O9 (wpAny_field CJ F5 (x:=vu) rfl (O9 (wpAny_field CJ F5 (x:= .none) rfl (Pc ?_)))))));refine O9 (slicePart_none ?_);show wpAny _ _ (if ((1:Int)==0)=true then _ else _) _ _ s;rw[if_neg (by decide)];refine O9 (kT pl (O9 (kT pu (O9 (Pc ?_)))));show wpAny _ _ (match Builtin.Slice.sliceAdjust lo hi 1 (n:Int) with | (lo,hi)=>pure (lo,(1:Int),Builtin.Slice.slicePlaces lo hi 1)) _ _ s;rw[qm lo hi n];show wpAny _ _ (pure (((bR n 0 lo:Nat):Int),(1:Int),Builtin.Slice.slicePlaces ((bR n 0 lo:Nat):Int) ((bR n n hi:Nat):Int) 1)) _ _ s;rw[qZ];exact Pc h
theorem xQ (xs:Array Value) (i k:Nat):((List.range k).filterMap λ(m:Nat)=>xs[((i:Int) + (m:Int) * 1).toNat]?).toArray=((xs.toList.drop i).take k).toArray:=by
 have e:(λ(m:Nat)=>xs[((i:Int) + (m:Int) * 1).toNat]?)=λm=>xs[i + m]?:=by
  funext m;have:((i:Int) + (m:Int) * 1).toNat=i + m:=by lia
  rw[this]
 rw[e];have:=pick_run xs i k;rw[List.filterMap_map] at this;have e2:((λx=>xs[x]?) ∘ λx=>i + x)=λm=>xs[i + m]?:=rfl
 rw[e2] at this;rw[this]
theorem iC {t sl:Addr} {items:Array Value} {vl vu:Value} {lo hi:Option Int} {Q:Value->Shared->Prop} (ht:IsTup s.heap t items) (hs:s.heap.IsSliceOf sl vl vu .none) (pl:IsPart vl lo) (pu:IsPart vu hi)
  (hw:¬(bR items.size 0 lo=0/\bR items.size items.size hi=items.size))
  (h:Q (.ref s.heap.objs.size) {s with heap:=s.heap.push {cls:= .type "tuple",data:= .seq ((items.toList.drop (bR items.size 0 lo)).take (bR items.size items.size hi - bR items.size 0 lo)).toArray}})
  (l9:items.size<=sizeLine):wpAny (model prog w) A (getItem (.ref t) (.ref sl)) Q E s:=by
 have sM:sizeOk (.seq ((items.toList.drop (bR items.size 0 lo)).take (bR items.size items.size hi - bR items.size 0 lo)).toArray):=by
  show ((items.toList.drop (bR items.size 0 lo)).take (bR items.size items.size hi - bR items.size 0 lo)).toArray.size<=sizeLine;rw[Pe,List.length_take,List.length_drop,Pz]
  lia
 have hj:bR items.size items.size hi<=items.size:=DZ _ _ (Pj _) hi;obtain⟨os,CJ,zF,F5⟩:=id hs;have Kb:s.TypeIs (.ref sl) "slice":=⟨os,CJ,zF⟩;unfold getItem
 try with_reducible refine wpAny_holding ?_
 first | refine O9 (Pc ?_) | skip
 refine O9 (wpAny_sequenceKey ht.typeIs (by decide) ?_);refine O9 (wpAny_callSpecial?_slot (name:=Str.ofString "__getitem__") ht.typeIs PyProof.Rows.slot_tuple_getitem
  (wpAny_call_entry PyProof.Rows.slot_tuple_getitem ht.typeIs entry_tuple_getitem ?_ (args_tuple_getitem _ _)))
 show wpAny _ _ (Builtin.Tuple.tupleItemsOf (.ref t) >>=_) _ _ s;refine O9 (tupleItemsOf_ ht ?_);refine O9 (wpAny_typeOf Kb ?_);rw[if_pos (by decide)];refine O9 (eR hs pl pu ?_);have N2:¬((((bR items.size 0 lo:Nat):Int)==0&&(1:Int)==1&&(bR items.size items.size hi - bR items.size 0 lo)==items.size)=true):=by intro q;rw[Pd,Pd] at q;have q1:((bR items.size 0 lo:Nat):Int)=0:=PF q.1.1;have q2:bR items.size items.size hi - bR items.size 0 lo=items.size:=PF q.2;exact hw ⟨by lia,by lia⟩
 show wpAny _ _ (if (((bR items.size 0 lo:Nat):Int)==0&&(1:Int)==1&&(bR items.size items.size hi - bR items.size 0 lo)==items.size)=true then _ else _) _ _ s;rw[if_neg N2,xQ]
 first
  | exact O9 (m:=Builtin.Tuple.tupleExact _) (wpAny_newObj_type (Pc ⟨_,rfl,Pc h⟩) sM)
  | exact O9 (m:=Builtin.Tuple.tupleExact _) (wpAny_newObj_type (O9 (Pc (Pc ⟨_,rfl,Pc h⟩))) sM)
  | exact O9 (O9 (m:=Builtin.Tuple.tupleExact _) (wpAny_newObj_type (Pc (Pc ⟨_,rfl,Pc h⟩)) sM))
  | exact O9 (O9 (m:=Builtin.Tuple.tupleExact _) (wpAny_newObj_type (Pc ⟨_,rfl,Pc h⟩) sM))
end
end HT
namespace L2
open PySem PySem.Spec PyProof.Rows
noncomputable abbrev TO:=St->Hp->(Option Int->Hp->Prop)->Prop
noncomputable def PO (X:Cx) (e:Option Expr) (t:TO):Prop:=
 ∀(pins:List (Addr×Obj)) (s:Shared) (σ:St) (H:Hp) (Q:Option Int->Hp->Prop),Inv X pins σ H s->t σ H Q->
  wpAny (model X.prog X.w) X.A (evalPart e X.env) (λu s'=>∃o H',Inv X pins σ H' s'/\IsPart u o/\Q o H') X.xe s
noncomputable def AU:TO:=λ_ H Q=>Q none H
noncomputable def HN (t:TE):TO:=λσ H Q=>t σ H λx H1=>∃i,x= .int i/\Q (some i) H1
theorem intsAre_of {ns:List Int}:∀{us:List Value},au (ns.map V.int) us->IntsAre us ns:=by
 induction ns with
 | nil=>intro us r;rw[List.map_nil] at r;cases r;exact .nil
 | cons n ns ih=>
  intro us r;rw[Qa] at r;cases r with
  | cons r1 r2=>obtain⟨t,e⟩:=r1;subst e;exact .cons n t (ih r2)
section
variable {X:Cx} {e:Expr} {te:TE} {lo hi:Option Expr} {tl th:TO} {pos p2:Pos}
theorem tx:PO X none AU:=by intro pins s σ H Q I h;rw[evalPart_none];exact Pc ⟨none,H,I,.none,h⟩
theorem tD (h:PE X e te):PO X (some e) (HN te):=by
 intro pins s σ H Q I hw;rw[evalPart_some];refine bV (h pins s σ H _ I hw) λu s1 ⟨x,H1,I1,r1,q1⟩=>?_
 obtain⟨i,rfl,q⟩:=q1;obtain⟨t,rfl⟩:=r1;exact⟨some i,H1,I1,.int i t,q⟩
noncomputable def E7 (X:Cx) (r:V->Option Int->Option Int->Hp->VK->Prop):Prop:=
 ∀(pins:List (Addr×Obj)) (s:Shared) (σ:St) (H:Hp) (x:V) (v vl vu:Value) (lo hi:Option Int) (sl:Addr) (Q:VK),Inv X pins σ H s->RelV x v->s.heap.IsSliceOf sl vl vu .none->IsPart vl lo->IsPart vu hi->r x lo hi H Q->
  ∃T id,typeLookup (.type T) "__getitem__"=pure (some (.builtin id))/\s.TypeIs v T/\wpAny (model X.prog X.w) X.A (getItem v (.ref sl)) (EP X pins σ Q) X.xe s
noncomputable def Ox (r:V->Option Int->Option Int->Hp->VK->Prop) (te:TE) (tl th:TO):TE:=λσ H Q=>te σ H λx H1=>tl σ H1 λl H2=>th σ H2 λu H3=>r x l u H3 Q
theorem pJ {r:V->Option Int->Option Int->Hp->VK->Prop} (hr:E7 X r) (he:PE X e te) (hl:PO X lo tl) (hu:PO X hi th):PE X (.Subscript e (.Slice lo hi none p2) pos) (Ox r te tl th):=by
 intro pins s σ H Q I h;refine Subscript_ (bV (he pins s σ H _ I h) λv s1 ⟨x,H1,I1,r1,q1⟩=>?_);refine wpAny_Slice (bV (hl pins s1 σ H1 _ I1 q1) λvl s2 ⟨l,H2,I2,pl,q2⟩=>bV (hu pins s2 σ H2 _ I2 q2) λvu s3 ⟨u,H3,I3,pu,q3⟩=>?_);rw[evalPart_none];refine Pc ?_;have I4:Inv X pins σ H3 {s3 with heap:=s3.heap.push {cls:= .type "slice",data:= .fields #[vl,vu,.none]}}:=I3.kept (t':=s3.toks) λb ob q=>Pb _ q
 obtain⟨T,id,hT,ht,hg⟩:=hr pins {s3 with heap:=s3.heap.push {cls:= .type "slice",data:= .fields #[vl,vu,.none]}} σ H3 x v vl vu l u s3.heap.objs.size Q I4 r1 (Heap.IsSliceOf.new ..) pl pu q3;show wpAny (model X.prog X.w) X.A (subscriptTail e (.Slice lo hi none p2) v (.ref s3.heap.objs.size)) (EP X pins σ Q) X.xe {s3 with heap:=s3.heap.push {cls:= .type "slice",data:= .fields #[vl,vu,.none]}};exact tail_any (ops:=[.ref s3.heap.objs.size,v]) ht hT hg (by with_unfolding_all rfl)
noncomputable def lA (xs:List V) (lo hi:Option Int):List V:=(xs.drop (HT.bR xs.length 0 lo)).take (HT.bR xs.length xs.length hi - HT.bR xs.length 0 lo)
theorem jl (xs:List V) (lo hi:Option Int):(lA xs lo hi).length<=xs.length:=by
 unfold lA;rw[List.length_take,List.length_drop]
 lia
noncomputable def K9 (K:PySem.W.Frag):V->Option Int->Option Int->Hp->VK->Prop:=λx lo hi H Q=>∃a xs,x= .ref a/\e9 K H a xs/\
 ¬(HT.bR xs.length 0 lo=0/\HT.bR xs.length xs.length hi=xs.length)/\∀p,H p=none->Q (.ref p) (upd H p (.tup (lA xs lo hi)))
theorem D8:E7 X (K9 X.K):=by
 intro pins s σ H x v vl vu lo hi sl Q I rx hs pl pu h;obtain⟨a,xs,rfl,hx,hw,q⟩:=h;cases rx;obtain⟨its,r,ht,hz⟩:=I.tuple hx;have hlen:its.toArray.size=xs.length:=by rw[Pe];exact r.length.symm
 refine⟨"tuple",_,PyProof.Rows.slot_tuple_getitem.lookup,ht.typeIs,?_⟩;refine HT.iC ht hs pl pu (by rw[hlen];exact hw) ?_ (by rw[hlen];exact hz);rw[hlen];refine⟨.ref s.heap.objs.size,_,I.laid (t':=s.toks) (o:= .tup (lA xs lo hi)) (λb ob q=>Pb _ q) (Pj _) ?_,rfl,q _ (I.hok.fresh (Pj _))⟩;exact⟨Pp (jl xs lo hi) hz,_,(r.drop (HT.bR xs.length 0 lo)).take (HT.bR xs.length xs.length hi - HT.bR xs.length 0 lo),lu.new _ _⟩
noncomputable def Hc (K:PySem.W.Frag):R2:=λx y H Q=>∃a b xs ys,x= .ref a/\y= .ref b/\e9 K H a xs/\e9 K H b ys/\xs≠[]/\xs.length + ys.length<=sizeLine/\
 (ys=[]->Q (.ref a) H)/\(ys≠[]->∀p,H p=none->Q (.ref p) (upd H p (.tup (xs++ys))))
theorem au.nK {xs:List V} {us:List Value} (r:au xs us):us=[]↔xs=[]:=by
 cases r with
 | nil=>simp
 | cons _ _=>simp
theorem Al:j3 X (binaryOp .Add) (Hc X.K):=by intro pins s σ H x y v u Q I rx ry h;obtain⟨a,b,xs,ys,rfl,rfl,ha,hb,hx,hz,q1,q2⟩:=h;cases rx;cases ry;obtain⟨its,r1,p1,_⟩:=I.tuple ha;obtain⟨aJ,r2,p2,_⟩:=I.tuple hb;refine HT.zx p1 p2 (λz=>hx (r1.nK.mp z)) (λz=>⟨.ref a,H,I,rfl,q1 (r2.nK.mp z)⟩) (λz=>?_) (by rw[<-r1.length,<-r2.length];exact hz);refine⟨.ref s.heap.objs.size,_,I.laid (t':=s.toks) (o:= .tup (xs++ys)) (λb ob q=>Pb _ q) (Pj _) ?_,rfl,q2 (λw=>z (r2.nK.mpr w)) _ (I.hok.fresh (Pj _))⟩;exact⟨by rw[Pv];exact hz,_,r1.append r2,lu.new _ _⟩
end
end L2
namespace L2
open PySem PySem.Spec PyProof.Rows
noncomputable def ot (n:Nat) (i:Int):Option Nat:=if 0<=i then(if i < n then some i.toNat else none) else if -(n:Int)<=i then some (i + n).toNat else none
noncomputable def lQ {α:Type} (xs:List α) (i:Int):Option α:=(ot xs.length i).bind λj=>xs[j]?
theorem sT {n:Nat} {i:Int} {j:Nat} (h:ot n i=some j):seqIndex? i n=some j/\j < n/\ -(n:Int)<=i/\i < n:=by
 unfold ot at h;by_cases h0:0<=i
 ·rw[if_pos h0] at h;by_cases h1:i < n
  ·rw[if_pos h1] at h;have e:i.toNat=j:=Option.some.inj h;exact⟨by rw[seqIndex_of h0 h1,e],by lia,by lia,h1⟩
  ·rw[if_neg h1] at h;cases h
 ·rw[if_neg h0] at h;by_cases h1: -(n:Int)<=i
  ·rw[if_pos h1] at h;have e:(i + n).toNat=j:=Option.some.inj h;exact⟨by rw[seqIndex_neg (by lia) h1,e],by lia,h1,by lia⟩
  ·rw[if_neg h1] at h;cases h
theorem rL {α:Type} {xs:List α} {i:Int} {v:α} (h:lQ xs i=some v):∃j,seqIndex? i xs.length=some j/\xs[j]?=some v/\j < xs.length/\ -(xs.length:Int)<=i/\i < xs.length:=by
 unfold lQ at h;cases e:ot xs.length i with
 | none=>rw[e] at h;cases h
 | some j=>rw[e] at h;obtain⟨h1,h2,h3,h4⟩:=sT e;exact⟨j,h1,h,h2,h3,h4⟩
theorem jF {α:Type} {xs:List α} {j:Nat} {v:α} (h:xs[j]?=some v):lQ xs (j:Int)=some v:=by
 have hj:j < xs.length:=(Pg.mp h).1;have e:ot xs.length (j:Int)=some j:=by unfold ot;rw[if_pos (by lia),if_pos (by lia)];simp
 unfold lQ;rw[e];exact h
theorem oB {α:Type} (xs:List α) (v:α):lQ (xs++[v]) (-1)=some v:=by
 have hl:(xs++[v]).length=xs.length + 1:=by simp
 have e:ot (xs++[v]).length (-1)=some xs.length:=by
  unfold ot;rw[hl,if_neg (by decide),if_pos (by lia)];congr 1
  lia
 unfold lQ;rw[e];show (xs++[v])[xs.length]?=some v;simp
noncomputable def mL (b:Expr):Prop:=∀o i,subscripted b false o i=operate [o,i] (getItem o i)
noncomputable def Im (X:Cx) (r:R2):Prop:=
 ∀(value slice:Expr) (pins:List (Addr×Obj)) (s:Shared) (σ:St) (H:Hp) (x y:V) (v u:Value) (Q:VK),Inv X pins σ H s->RelV x v->RelV y u->r x y H Q->
  subscripted slice false v u=operate [v,u] (getItem v u)->wpAny (model X.prog X.w) X.A (subscriptTail value slice v u) (EP X pins σ Q) X.xe s
noncomputable def LH (X:Cx) (id:String) (r:V->List V->Hp->VK->Prop):Prop:=
 ∀(pins:List (Addr×Obj)) (s:Shared) (σ:St) (H:Hp) (x:V) (xs:List V) (v:Value) (us:List Value) (Q:VK),Inv X pins σ H s->RelV x v->au xs us->r x xs H Q->
  wpAny (model X.prog X.w) X.A (call (.builtin id) (v::us)) (EP X pins σ Q) X.xe s
section
variable {X:Cx} {a b:Expr} {ta tb:TE} {pos:Pos}
theorem G4 {r:R2} (hr:Im X r) (ha:PE X a ta) (hb:PE X b tb) (hs:mL b):PE X (.Subscript a b pos) (Je r ta tb):=by intro pins s σ H Q I h;exact Subscript_ (B8 ha hb I h λv u s2 x y H2 I2 rx ry q=>hr a b pins s2 σ H2 x y v u Q I2 rx ry q (hs _ _))
noncomputable def K3 (K:PySem.W.Frag):R2:=λx y H Q=>∃p xs i v,x= .ref p/\y= .int i/\dB K H p xs/\lQ xs i=some v/\Q v H
noncomputable def K4 (K:PySem.W.Frag):R2:=λx y H Q=>∃p xs i v,x= .ref p/\y= .int i/\e9 K H p xs/\lQ xs i=some v/\Q v H
theorem sV:Im X (K3 X.K):=by
 intro value slice pins s σ H x y v u Q I rx ry h hs;obtain⟨p,xs,i,z,rfl,rfl,hq,he,q⟩:=h;cases rx;obtain⟨t,rfl⟩:=ry;obtain⟨its,r,pl,hz⟩:=I.list hq;obtain⟨j,h1,h2,h3,h4,h5⟩:=rL he;obtain⟨w,ew,Lf⟩:=r.get h2;have hl:=r.length;have hn:=kC;have fin:EP X pins σ Q w s:=⟨z,H,I,Lf,q⟩;by_cases h0:0<=i
 ·have hj:i.toNat=j:=by rw[seqIndex_of h0 h5] at h1;exact Option.some.inj h1
  exact item_listR pl.isList h0 (by lia) (by rw[hj];simpa using ew) fin hs
 ·have hj:(i + (its.toArray.size:Int)).toNat=j:=by rw[seqIndex_neg (by lia) h4] at h1;rw[Pe,<-hl];exact Option.some.inj h1
  exact subscriptTail_builtinR (x:=w) pl.isList.typeIs slot_list_getitem.lookup
   (wpAny_getItem_list_neg (Q:=λr s'=>r=w/\EP X pins σ Q r s') pl.isList (by lia) (by rw[Pe] <;> lia) (by lia) (by rw[hj];simpa using ew) ⟨rfl,fin⟩) hs
theorem CV:Im X (K4 X.K):=by
 intro value slice pins s σ H x y v u Q I rx ry h hs;obtain⟨p,xs,i,z,rfl,rfl,hq,he,q⟩:=h;cases rx;obtain⟨t,rfl⟩:=ry;obtain⟨its,r,pl,hz⟩:=I.tuple hq;obtain⟨j,h1,h2,h3,h4,h5⟩:=rL he;obtain⟨w,ew,Lf⟩:=r.get h2;have hl:=r.length;have hn:=kC;have fin:EP X pins σ Q w s:=⟨z,H,I,Lf,q⟩;exact subscriptTail_builtinR (x:=w) pl.typeIs slot_tuple_getitem.lookup
  (getItem_tuple (j:=j) (Q:=λr s'=>r=w/\EP X pins σ Q r s') pl (by lia) (by lia) (by rw[Pe,<-hl];exact h1) (by simpa using ew) ⟨rfl,fin⟩) hs
theorem qP (its:List Value) (n j:Nat) (u:Value):Obj.mapSeq (·.setIfInBounds j u) {cls:= .type "list",data:= .seq its.toArray n}={cls:= .type "list",data:= .seq (its.set j u).toArray n}:=by simp[Obj.mapSeq]
theorem Inv.lst {pins:List (Addr×Obj)} {σ:St} {H:Hp} {s:Shared} {p:Addr} {xs:List V} (I:Inv X pins σ H s) (h:H p=some (.lst xs)):
  ∃(its:List Value) (n:Nat),au xs its/\s.heap.get? p=some {cls:= .type "list",data:= .seq its.toArray n}/\xs.length<=sizeLine:=by
 obtain⟨z,its,n,r,e⟩:=I.hok p _ h;exact⟨its,n,r,e,z⟩
theorem Inv.C4 {pins:List (Addr×Obj)} {σ:St} {H:Hp} {s:Shared} {p:Addr} {xs ys:List V} {its its':List Value} {n n':Nat} {f:Obj->Obj} (I:Inv X pins σ H s) (h:H p=some (.lst xs))
  (ho:s.heap.get? p=some {cls:= .type "list",data:= .seq its.toArray n}) (hf:f {cls:= .type "list",data:= .seq its.toArray n}={cls:= .type "list",data:= .seq its'.toArray n'}) (r:au ys its') (hz:ys.length<=sizeLine) (t:Nat):
  Inv X pins σ (upd H p (.lst ys)) {s with heap:=s.heap.update p f,toks:=t}:=by
 have e:(s.heap.update p f).get? p=some {cls:= .type "list",data:= .seq its'.toArray n'}:=by rw[Heap.get?_update_self f ho (by rw[hf] <;> rfl),hf]
 refine I.write (x:=p) (e:=p) (by rw[h];trivial) (.inl rfl) (λb u hb q=>(PM _ _ (Ne.symm hb)).trans q) ⟨_,e⟩ ?_;exact⟨hz,its',n',r,e⟩
noncomputable def BC:V->V->V->Hp->(Hp->Prop)->Prop:=λo i v H Q=>∃p xs k j,o= .ref p/\i= .int k/\H p=some (.lst xs)/\ot xs.length k=some j/\Q (upd H p (.lst (xs.set j v)))
theorem set_list:E6 X BC:=by
 intro pins s σ H o i v ov iv u Q I ro ri rv h;obtain⟨p,xs,k,j,rfl,rfl,hp,hj,q⟩:=h;cases ro;obtain⟨t,rfl⟩:=ri;obtain⟨its,n,r,ho,hz⟩:=I.lst hp;obtain⟨h1,h2,h3,h4⟩:=sT hj;have hl:=r.length;have hn:=kC;have I':Inv X pins σ (upd H p (.lst (xs.set j v))) {s with heap:=s.heap.update p (Obj.mapSeq (·.setIfInBounds j u))}:=
  I.C4 hp ho (qP its n j u) (r.set rv j) (by rw[List.length_set];exact hz) s.toks
 by_cases h0:0<=k
 ·have hk:k.toNat=j:=by rw[seqIndex_of h0 h4] at h1;exact Option.some.inj h1
  exact PySem.W.ki_setAt ho h0 (by lia) (by rw[Pe,<-hl];exact h4) (by rw[hk];exact⟨_,I',q⟩)
 ·have hk:(k + (its.toArray.size:Int)).toNat=j:=by rw[seqIndex_neg (by lia) h3] at h1;rw[Pe,<-hl];exact Option.some.inj h1
  exact PySem.W.ki_setBack ho (by lia) (by rw[Pe,<-hl];exact h3) (by lia) (by rw[hk];exact⟨_,I',q⟩)
theorem nQ (lo hi:Option Int) (n:Nat):(sliceBounds lo hi none n).1=((HT.bR n 0 lo:Nat):Int)/\(sliceBounds lo hi none n).2.1=((HT.bR n n hi:Nat):Int)/\(sliceBounds lo hi none n).2.2=1:=by
 refine⟨?_,?_,rfl⟩
 ·cases lo with
  | none=>simp[sliceBounds,HT.bR]
  | some i=>
   simp only[sliceBounds,HT.bR,Option.getD_none,show (1:Int) > 0 by decide,if_true];by_cases h:i < 0
   ·simp only[h,if_true] <;> lia
   ·simp only[h,if_false] <;> lia
 ·cases hi with
  | none=>simp[sliceBounds,HT.bR]
  | some i=>
   simp only[sliceBounds,HT.bR,Option.getD_none,show (1:Int) > 0 by decide,if_true];by_cases h:i < 0
   ·simp only[h,if_true] <;> lia
   ·simp only[h,if_false] <;> lia
theorem lK (its:List Value) (lo hi:Option Int):slicePick its.toArray lo hi none=((its.drop (HT.bR its.length 0 lo)).take (HT.bR its.length its.length hi - HT.bR its.length 0 lo)).toArray:=by obtain⟨h1,h2,h3⟩:=nQ lo hi its.toArray.size;unfold slicePick;rw[h1,h2,h3];simp only[sliceRange_one,pick_run,Pe] <;> rfl
noncomputable def K8 (K:PySem.W.Frag):V->Option Int->Option Int->Hp->VK->Prop:=λx lo hi H Q=>∃a xs,x= .ref a/\dB K H a xs/\∀p,H p=none->Q (.ref p) (upd H p (.lst (lA xs lo hi)))
theorem tP:E7 X (K8 X.K):=by intro pins s σ H x v vl vu lo hi sl Q I rx hs pl pu h;obtain⟨a,xs,rfl,hx,q⟩:=h;cases rx;obtain⟨its,r,ht,hz⟩:=I.list hx;have hlen:=r.length;refine⟨"list",_,slot_list_getitem.lookup,ht.isList.typeIs,?_⟩;refine wpAny_getItem_list_slice ht.isList hs pl pu .none (by simp) ?_ (by rw[Pe] <;> lia);rw[lK,<-hlen];refine⟨.ref s.heap.objs.size,_,I.laid (t':=s.toks) (o:= .lst (lA xs lo hi)) (λb ob q=>Pb _ q) (Pj _) ?_,rfl,q _ (I.hok.fresh (Pj _))⟩;exact⟨Pp (jl xs lo hi) hz,_,0,(r.drop (HT.bR xs.length 0 lo)).take (HT.bR xs.length xs.length hi - HT.bR xs.length 0 lo),Pl _ rfl⟩
theorem ff:cX X (.type "list") (λxs H Q=>∃p ys,xs=[.ref p]/\(dB X.K H p ys\/e9 X.K H p ys)/\∀l,H l=none->Q (.ref l) (upd H l (.lst ys))):=by
 intro pins s σ H xs us Q I r h;obtain⟨p,ys,rfl,hq,q⟩:=h;obtain⟨u,rfl,rx⟩:=vals1 r;cases rx;have fin:∀(its:List Value),au ys its->ys.length<=sizeLine->∀(h':Heap) (c':Nat),(∀b o',s.heap.get? b=some o'->h'.get? b=some o')->
   h'.get? s.heap.objs.size=some {cls:= .type "list",dict:=none,data:= .seq its.toArray c',slots:=#[]}->EP X pins σ Q (.ref s.heap.objs.size) {s with heap:=h'}:=λits r' hz h' c' kp e=>
  ⟨.ref s.heap.objs.size,_,I.laid (t':=s.toks) kp (Pj _) (show bH X.prog X.w _ h' _ (.lst ys) from⟨hz,its,c',r',e⟩),rfl,q _ (I.hok.fresh (Pj _))⟩
 rcases hq with hq | hq
 ·obtain⟨its,r',pl,hz⟩:=I.list hq;have hlen:=r'.length;obtain⟨o,ho,hc,n,hd⟩:=pl.isList;exact call_list_seq p (.inl rfl) ho hc hd (λh' c' kp e=>fin its r' hz h' c' kp e) (by simp only[Pe] <;> lia)
 ·obtain⟨its,r',pl,hz⟩:=I.tuple hq;have hlen:=r'.length;obtain⟨o,ho,hc,n,hd⟩:=pl;exact call_list_seq p (.inr rfl) ho hc hd (λh' c' kp e=>fin its r' hz h' c' kp e) (by simp only[Pe] <;> lia)
theorem gD:cX X (.type "tuple") (λxs H Q=>∃p ys,xs=[.ref p]/\((dB X.K H p ys/\∀l,H l=none->Q (.ref l) (upd H l (.tup ys)))\/(e9 X.K H p ys/\Q (.ref p) H))):=by
 intro pins s σ H xs us Q I r h;obtain⟨p,ys,rfl,h⟩:=h;obtain⟨u,rfl,rx⟩:=vals1 r;cases rx;rcases h with ⟨hq,q⟩ | ⟨hq,q⟩
 ·obtain⟨its,r',pl,hz⟩:=I.list hq;have hlen:=r'.length;refine call_tuple_list pl.isList (λh' kp=>?_) (by simp only[Pe] <;> lia);have I1:Inv X pins σ H {s with heap:=h'}:=I.kept (t':=s.toks) kp;have I2:Inv X pins σ (upd H h'.objs.size (.tup ys)) {s with heap:=h'.push {cls:= .type "tuple",data:= .seq its.toArray}}:=
   I1.laid (t':=s.toks) (λb o e=>Pb _ e) (Pj _) (show bH X.prog X.w _ _ _ (.tup ys) from⟨hz,its,r',lu.new _ _⟩)
  exact⟨.ref h'.objs.size,_,I2,rfl,q _ (I1.hok.fresh (Pj _))⟩
 ·obtain⟨its,r',pl,hz⟩:=I.tuple hq;exact call_tuple_same pl ⟨.ref p,H,I,rfl,q⟩
noncomputable def LD (K:PySem.W.Frag) (T:String) (x:V) (H:Hp):Prop:=match x with
 | .str _=>T="str"
 | .int _=>T="int"
 | .ref p=>(T="list"/\∃xs,dB K H p xs)\/(T="tuple"/\∃o,K.lookup p=some o/\o.cls= .type "tuple"/\o.dict=none)\/
   (T="dict"/\((∃cV,H p=some (.dK cV))\/∃cV,H p=some (.dT cV)))\/(T="set"/\∃S n,H p=some (.set S n))
 | _=>False
theorem yu {pins:List (Addr×Obj)} {σ:St} {H:Hp} {s:Shared} {T:String} {x:V} {v:Value} (I:Inv X pins σ H s) (r:RelV x v) (ty:LD X.K T x H):
  s.TypeIs v T/\∀a,v= .ref a->∃ob,s.heap.get? a=some ob/\ob.dict=none:=by
 cases x with
 | str z=>obtain⟨t,rfl⟩:=r;cases (show T="str" from ty);exact⟨typeIs_str s z t,λ_ e=>nomatch e⟩
 | int i=>obtain⟨t,rfl⟩:=r;cases (show T="int" from ty);exact⟨typeIs_int s i t,λ_ e=>nomatch e⟩
 | ref p=>
  cases r;rcases ty with ⟨rfl,xs,hq⟩ | ⟨rfl,o,hk,hc,hd⟩ | ⟨rfl,hk⟩ | ⟨rfl,S,n,hk⟩
  ·obtain⟨its,_,pl,_⟩:=I.list hq;refine⟨pl.isList.typeIs,λa e=>?_⟩;cases e;obtain⟨o,n,e,c,hd,_⟩:=pl;exact⟨o,e,hd⟩
  ·refine⟨⟨o,I.pe p o hk,hc⟩,λa e=>?_⟩;cases e;exact⟨o,I.pe _ o hk,hd⟩
  ·have z:∃o,s.heap.get? p=some o/\o.ExactDict:=by
    rcases hk with ⟨cV,hk⟩ | ⟨cV,hk⟩
    ·obtain⟨_,_,_,_,o,_,_,e,ex,_⟩:=I.hok p _ hk;exact⟨o,e,ex⟩
    ·obtain⟨_,_,_,_,o,_,_,e,ex,_⟩:=I.hok p _ hk;exact⟨o,e,ex⟩
   obtain⟨o,e,ex⟩:=z;refine⟨⟨o,e,ex.1⟩,λa e2=>?_⟩;cases e2;exact⟨o,e,ex.2.1⟩
  ·obtain⟨o,_,_,_,e,ex,_⟩:=I.hok p _ hk;refine⟨⟨o,e,ex.1⟩,λa e2=>?_⟩;cases e2;exact⟨o,e,ex.2.1⟩
 | _=>exact False.elim ty
noncomputable def HE (K:PySem.W.Frag) (T:String) (r:V->List V->Hp->VK->Prop) (to:TE):TE:=λσ H Q=>to σ H λx H1=>LD K T x H1/\r x [] H1 Q
noncomputable def MF (K:PySem.W.Frag) (T:String) (r:V->List V->Hp->VK->Prop) (to:TE) (t:TA):TE:=λσ H Q=>to σ H λx H1=>LD K T x H1/\t σ H1 λxs H2=>r x xs H2 Q
variable {o e:Expr} {es:List Expr} {to:TE} {t:TA} {name:Str} {apos fL:Pos} {T id:String} {r:V->List V->Hp->VK->Prop}
theorem DB (pa:PlainAttrs T) (slot:Slot T name id) (Ks:typeOf (.builtin id)=pure (.type "method_descriptor")) (hm:LH X id r) (ho:PE X o to)
  (wK:attributeBase o name X.env (eval o X.env)=eval o X.env:=by rfl) (wV:(apos.endLine==fL.line)=true:=by rfl):PE X (.Call (.Attribute o name apos) [] [] fL) (HE X.K T r to):=by
 intro pins s σ H Q I h;refine wpAny_Call_method0_late wK wV (bV (ho pins s σ H _ I h) λv s1 ⟨x,H1,I1,r1,ty,q1⟩=>?_);obtain⟨h1,h2⟩:=yu I1 r1 ty;exact⟨T,id,pa,slot,Ks,h1,h2,Calls.callWith_builtin rfl (PySem.evalArgs_none (hm pins s1 σ H1 x [] v [] Q I1 r1 .nil q1))⟩
theorem G3 (pa:PlainAttrs T) (slot:Slot T name id) (Ks:typeOf (.builtin id)=pure (.type "method_descriptor")) (hm:LH X id r) (ho:PE X o to) (ha:PA X (e::es) t)
  (wK:attributeBase o name X.env (eval o X.env)=eval o X.env:=by rfl)
  (Kg:((backTo fL (starEach (e::es) X.env)).all (λx=> !x.1)&&(backToKw fL (keywordEach [] X.env)).all (λx=>x.1.isSome)
   &&decide ((e::es).length + ([]:List Keyword).length + (if ([]:List Keyword).isEmpty then 0 else 1) < 30))=true:=by rfl)
  (wV:(apos.endLine==fL.line)=true:=by rfl) (hs:starEach (e::es) X.env=(false,eval e X.env)::starEach es X.env:=by rfl) (CL:(backTo fL (starEach es X.env)).any (·.1)=false:=by rfl):
  PE X (.Call (.Attribute o name apos) (e::es) [] fL) (MF X.K T r to t):=by
 intro pins s σ H Q I h;refine wpAny_Call_method_late wK Kg wV rfl (bV (ho pins s σ H _ I h) λv s1 ⟨x,H1,I1,r1,ty,q1⟩=>?_);obtain⟨h1,h2⟩:=yu I1 r1 ty;refine⟨T,id,pa,slot,Ks,h1,h2,?_⟩;have hA:=ha fL pins s1 σ H1 _ I1 q1;rw[hs] at hA ⊢;refine Calls.callWith_builtin (by show (false||(backTo fL (starEach es X.env)).any (·.1))=false;rw[CL] <;> rfl) (Calls.evalArgs_plain ?_);exact bV hA λus s2 ⟨vs,H2,I2,r2,q2⟩=>hm pins s2 σ H2 x vs v us Q I2 r1 r2 q2
end
end L2
namespace L2
open PySem PySem.Spec PyProof.Rows
noncomputable def Io (X:Cx) (id:String) (r:V->List V->Hp->VK->Prop):Prop:=
 ∀(pins:List (Addr×Obj)) (s:Shared) (σ:St) (H:Hp) (x:V) (xs:List V) (v:Value) (us:List Value) (Q:VK),Inv X pins σ H s->RelV x v->au xs us->r x xs H Q->
  wpAny (model X.prog X.w) X.A (call (.builtin id) (v::us)) (EP X pins σ Q) X.xe s
theorem au.cons_inv {x:V} {xs:List V} {us:List Value} (h:au (x::xs) us):∃u ut,us=u::ut/\RelV x u/\au xs ut:=by
 cases h with
 | cons r t=>exact⟨_,_,rfl,r,t⟩
theorem au.one {x:V} {us:List Value} (h:au [x] us):∃u,us=[u]/\RelV x u:=
 have ⟨u,ut,e,r,t⟩:=h.cons_inv
 ⟨u,by cases t;exact e,r⟩
theorem au.two {x y:V} {us:List Value} (h:au [x,y] us):∃u v,us=[u,v]/\RelV x u/\RelV y v:=
 have ⟨u,ut,e,r,t⟩:=h.cons_inv;have ⟨v,e2,q⟩:=t.one
 ⟨u,v,e2▸e,r,q⟩
theorem au.zero:∀{us:List Value},au [] us->us=[]
 | _,.nil=>rfl
theorem au.dropLast {xs:List V} {us:List Value} (h:au xs us):au xs.dropLast us.dropLast:=by
 induction h with
 | nil=>exact .nil
 | cons r t ih=>
  cases t with
  | nil=>exact .nil
  | cons q t'=>exact .cons r ih
theorem au.rep {xs:List V} {us:List Value} (h:au xs us):∀k:Nat,au (List.replicate k xs).flatten (List.replicate k us).flatten
 | 0=> .nil
 | k + 1=>by rw[List.replicate_succ,List.replicate_succ,List.flatten_cons,List.flatten_cons];exact au.append h (au.rep h k)
theorem qC {α:Type} (l:List α):l.eraseIdx (l.length - 1)=l.dropLast:=by
 induction l with
 | nil=>rfl
 | cons a r ih=>
  cases r with
  | nil=>rfl
  | cons b r=>
   have e:(a::b::r).length - 1=((b::r).length - 1) + 1:=by
    have h1:(a::b::r).length=r.length + 2:=rfl;have h2:(b::r).length=r.length + 1:=rfl
    lia
   rw[e,List.eraseIdx_cons_succ,ih]
   all_goals rfl
theorem foldl_rep (its:List Value):∀(k:Nat) (acc:List Value),
  List.foldl (λx1 x2=>x1++x2) acc.toArray (List.replicate k its.toArray)=(acc++(List.replicate k its).flatten).toArray
 | 0,acc=>by simp
 | k + 1,acc=>by
  have e:acc.toArray++its.toArray=(acc++its).toArray:=by simp
  have e2:(acc++its)++(List.replicate k its).flatten=acc++(List.replicate (k + 1) its).flatten:=by rw[List.replicate_succ,List.flatten_cons,Pt]
  rw[<-e2,<-foldl_rep its k (acc++its),<-e,List.replicate_succ,List.foldl_cons]
section
variable {X:Cx} {pins:List (Addr×Obj)} {σ:St} {H:Hp} {s:Shared} {l b:Addr} {xs ys zs:List V}
theorem Inv.zY {its its':List Value} {n:Nat} {f:Array Value->Array Value} {t':Nat} (I:Inv X pins σ H s) (hH:H l=some (.lst xs))
  (e:s.heap.get? l=some {cls:= .type "list",data:= .seq its.toArray n}) (hf:f its.toArray=its'.toArray) (hv:au ys its') (hz:ys.length<=sizeLine):
  Inv X pins σ (upd H l (.lst ys)) {s with heap:=s.heap.update l (Obj.mapSeq f),toks:=t'}:=by
 have q:=PySem.IsL.update e f;rw[hf] at q;refine I.write (x:=l) (e:=l) (by rw[hH];exact trivial) (.inl rfl) (λb' u hb hu=>(PM s.heap (Obj.mapSeq f) (Ne.symm hb)).trans hu) ⟨_,q⟩ ?_;exact⟨hz,its',_,hv,q⟩
theorem Inv.GB {its:List Value} {t':Nat} (I:Inv X pins σ H s) (hv:au ys its) (hz:ys.length<=sizeLine):
  Inv X pins σ (upd H s.heap.objs.size (.lst ys)) {s with heap:=s.heap.push {cls:= .type "list",data:= .seq its.toArray},toks:=t'}:=
 I.laid (λ_ _ q=>Pb _ q) (Pj _) ⟨hz,its,0,hv,Pl _ rfl⟩
theorem Inv.fresh (I:Inv X pins σ H s):H s.heap.objs.size=none:=I.hok.fresh (Pj _)
theorem Inv.qO (I:Inv X pins σ H s) (hH:H l=some (.lst xs)):xs.length<=sizeLine/\∃(its:List Value) (n:Nat),au xs its/\xs.length=its.length/\s.heap.get? l=some {cls:= .type "list",data:= .seq its.toArray n}:=by obtain⟨z,its,n,r,e⟩:=I.hok l _ hH;exact⟨z,its,n,r,r.length,e⟩
theorem xG {n:Nat} (h:n<=sizeLine):Builtin.List.listTooLong n=false:=by unfold Builtin.List.listTooLong;exact PJ (by lia)
end
section
variable {X:Cx}
noncomputable def tJ:V->List V->Hp->VK->Prop:=λx vs H Q=>∃l xs y,x= .ref l/\vs=[y]/\H l=some (.lst xs)/\xs.length < sizeLine/\Q .aT (upd H l (.lst (xs++[y])))
theorem my:Io X "list.append" tJ:=by
 intro pins s σ H x vs v us Q I rx rv h;obtain⟨l,xs,y,rfl,rfl,hH,hz,q⟩:=h;cases rx;obtain⟨u,rfl,ru⟩:=rv.one;obtain⟨z,its,n,r,hl,e⟩:=I.qO hH;refine call_meets F.slot_list_append ⟨_,e,rfl⟩ F.entry_list_append (F.args_list_append_2 _ _) (PySem.list_append l its.toArray n u (by rw[Pe];lia)) ⟨e,?_⟩;refine⟨.aT,_,I.zY (its':=its++[u]) hH e (by simp) (r.append (.cons ru .nil)) ?_,rfl,q⟩;rw[Pv,List.length_singleton]
 lia
noncomputable def AJ:V->List V->Hp->VK->Prop:=λx vs H Q=>∃l b xs zs,x= .ref l/\vs=[.ref b]/\H l=some (.lst xs)/\H b=some (.lst zs)/\xs.length + zs.length<=sizeLine/\Q .aT (upd H l (.lst (xs++zs)))
theorem EW:Io X "list.extend" AJ:=by
 intro pins s σ H x vs v us Q I rx rv h;obtain⟨l,b,xs,zs,rfl,rfl,hH,hB,hz,q⟩:=h;cases rx;obtain⟨u,rfl,ru⟩:=rv.one;cases ru;obtain⟨z,its,n,r,hl,e⟩:=I.qO hH;obtain⟨z2,aJ,n2,r2,eF,e2⟩:=I.qO hB;have l9:its.toArray.size + aJ.toArray.size<=sizeLine:=by rw[Pe,Pe];lia
 have Gc:¬(!its.toArray.isEmpty&&Builtin.List.listTooLong (its.toArray.size + aJ.toArray.size))=true:=by rw[xG l9,Bool.and_false];exact Bool.false_ne_true
 refine call_meets F.slot_list_extend ⟨_,e,rfl⟩ F.entry_list_extend (F.args_list_extend_2 _ _)
  (AutoSeq1.list_extend_list_list_0 l its.toArray n b aJ.toArray n2 Gc (by rw[Pe];lia) (by lia)) ⟨e,e2,?_⟩
 refine⟨.aT,_,I.zY (its':=its++aJ) hH e (by simp) (r.append r2) ?_,rfl,q⟩;rw[Pv]
 lia
noncomputable def K7:V->List V->Hp->VK->Prop:=λx vs H Q=>∃l xs y,x= .ref l/\vs=[]/\H l=some (.lst xs)/\xs[xs.length - 1]?=some y/\Q y (upd H l (.lst xs.dropLast))
theorem KN:Io X "list.pop" K7:=by
 intro pins s σ H x vs v us Q I rx rv h;obtain⟨l,xs,y,rfl,rfl,hH,hy,q⟩:=h;cases rx;have Kw:=rv.zero;subst Kw;obtain⟨z,its,n,r,hl,e⟩:=I.qO hH;obtain⟨u,hu,ru⟩:=r.get hy;have Od:its.toArray[its.toArray.size - 1]?=some u:=by show its.toArray[its.length - 1]?=some u;rw[<-Array.getElem?_toList,<-hl];exact hu
 refine call_meets F.slot_list_pop ⟨_,e,rfl⟩ F.entry_list_pop (F.args_list_pop_1 _) (MeetsSeq.list_pop_last l its.toArray n u Od (by rw[Pe];lia)) ⟨e,?_⟩;refine⟨y,_,I.zY (its':=its.dropLast) hH e ?_ r.dropLast ?_,ru,q⟩
 ·show its.toArray.eraseIdxIfInBounds (its.toArray.size - 1)=its.dropLast.toArray;rw[Pe,List.eraseIdxIfInBounds_toArray,qC]
 ·rw[List.length_dropLast]
  lia
noncomputable def xX:V->List V->Hp->VK->Prop:=λx vs H Q=>∃l xs,x= .ref l/\vs=[]/\H l=some (.lst xs)/\Q .aT (upd H l (.lst []))
theorem xB:Io X "list.clear" xX:=by intro pins s σ H x vs v us Q I rx rv h;obtain⟨l,xs,rfl,rfl,hH,q⟩:=h;cases rx;have Kw:=rv.zero;subst Kw;obtain⟨z,its,n,r,hl,e⟩:=I.qO hH;refine call_meets F.slot_list_clear ⟨_,e,rfl⟩ F.entry_list_clear (F.args_list_clear_1 _) (AutoSeq1.list_clear_list_0 l its.toArray n (by rw[Pe];lia)) ⟨e,?_⟩;exact⟨.aT,_,I.zY (its':=[]) (ys:=[]) hH e rfl .nil (Nat.zero_le _),rfl,q⟩
noncomputable def K1:R2:=λx y H Q=>∃l b xs zs,x= .ref l/\y= .ref b/\H l=some (.lst xs)/\H b=some (.lst zs)/\xs.length + zs.length<=sizeLine/\∀p,H p=none->Q (.ref p) (upd H p (.lst (xs++zs)))
theorem Dp:j3 X (binaryOp .Add) K1:=by
 intro pins s σ H x y v u Q I rx ry h;obtain⟨l,b,xs,zs,rfl,rfl,hH,hB,hz,q⟩:=h;cases rx;cases ry;obtain⟨z,its,n,r,hl,e⟩:=I.qO hH;obtain⟨z2,aJ,n2,r2,eF,e2⟩:=I.qO hB;refine PySem.P.add_list e e2 ?_ (by rw[Pe,Pe];lia);have ea:its.toArray++aJ.toArray=(its++aJ).toArray:=by simp
 rw[ea];exact⟨.ref _,_,I.GB (t':=s.toks) (r.append r2) (by rw[Pv];lia),rfl,q _ I.fresh⟩
theorem len_rep {α:Type} (xs:List α) (k:Nat):(List.replicate k xs).flatten.length=k * xs.length:=by
 induction k with
 | zero=>simp
 | succ k ih=>rw[List.replicate_succ,List.flatten_cons,Pv,ih,Nat.succ_mul,Nat.add_comm]
end
end L2
namespace Att
open PySem PySem.W PySem.Calls PyProof.Rows
theorem jD {P:Params} {h:Heap}:∀(ns:List Int) (vs:List Value),WellAll P h vs (ns.map WData.int)->IntsAre vs ns:=by
 intro ns
 induction ns with
 | nil=>intro vs w;rw[List.map_nil] at w;cases w;exact .nil
 | cons n ns ih=>
  intro vs w;rw[Qa] at w;cases w with
  | cons a b=>cases a;exact .cons _ _ (ih _ b)
theorem u7 {l:OpenLaw} {n:Nat} (hn:l.most=some n) {P:Params} {h:Heap} {args:List WData} {vals:List Value}
  (zL:l.row.toRowW.claim.pre args=true) (Ky:WellAll P h vals args):
  ∃a vs ns,vals=[Value.ref a]/\args=[WData.list (ns.map WData.int)]/\h.get? a=some {cls:= .type "list",data:= .seq vs.toArray}/\IntsAre vs ns/\ns.length<=n:=by
 have N7:WShape.hasAll [] args [.list .int]=true:=(pre_splitW zL).1;have hc:l.pre.holds [] {args:=args}=true:=(pre_splitW zL).2;obtain⟨d,r,rfl,h1,h2⟩:=hasAllW_cons N7;obtain rfl:=hasAllW_nil h2;obtain⟨xs,rfl,h3⟩:=hasW_list h1;obtain⟨ns,rfl⟩:=items_int h3;have hlen:ns.length<=n:=by
  unfold OpenLaw.pre at hc;have h4:(WTm.not (.lt (.lit (.int (n:Int))) (.len (.arg 0)))).holds [] {args:=[.list (ns.map .int)]}=true:=by have h4:=(holds_andW hc).1;rw[hn] at h4;exact h4
  have h5:=condW_of h4 (w_not (w_lt w_lit (w_len_list (w_arg rfl))));rw[Pn] at h5;refine Nat.le_of_not_lt λq=>?_
  have q':(n:Int) < ((ns.length:Nat):Int):=by lia
  first
   | (rw[PN q'] at h5;exact absurd h5 (by decide))
   | (simp at h5;lia)
 cases Ky with
 | cons w1 w2=>
  cases w2;cases w1 with
  | list ho uC=>exact⟨_,_,ns,rfl,rfl,ho,jD ns _ uC,hlen⟩
theorem uY (l:OpenLaw) (args:List WData):l.row.toRowW.claim.post args (.bool true) args=true:=
 postW_of (r:=l.row.toRowW) (X:=(true==true))
  (show WShape.has [] (.bool true) .bool=true by first | rfl | decide | simp[WShape.has,WShape.arms,WShape.armsAll])
  (show (WTm.eq .res (.lit (.bool true))).value [] {args:=args,res:=some (.bool true),after:=args}=some (.bool (true==true)) from w_eq_bool (w_res rfl) w_lit) rfl
theorem oC {l:OpenLaw} {n:Nat} {q:Program} {loose:List Str} {XP:(Str->Option Value)->Heap->Prop} {YP:World->Heap->Prop} {d:DefRec}
  (hn:l.most=some n) (F3:d.params.defaults=[])
  (call:∀(w:World) (s₀ s₁:Shared) (mg mb:Str->Option Value) (fa:Addr) (o:Obj) (pm cd doc:Value) (a:Addr) (vs:List Value) (ns:List Int),
   Ground q loose [] XP w s₀ mg mb s₁.heap->YP w s₁.heap->
   s₁.heap.get? fa=some o->o.data= .func (docDef d.name d.params d.body d.scope pm cd doc)->s₁.heap.CodeRec cd d.name->mg d.name=some (.ref fa)->
   s₁.heap.get? a=some {cls:= .type "list",data:= .seq vs.toArray}->IntsAre vs ns->ns.length<=n->s₁.gens=#[]->
   codeAny (model l.prog w) callerA (.call (.ref fa) ⟨[.ref a],[]⟩) (λr s'=>r= .ok (.ret (.bool true))/\OldK s₁.heap s'.heap/\s'.os=s₁.os/\AllBare s'.gens) s₁):
  WalkO q loose XP YP l.row.toRowW d [] (λf vs=>PySem.call f vs):=by
 intro w s₀ s₁ mg mb G Y fa o pm cd doc dV kV ho hd yM hD hmg hg args vals as zL hlay hrd Ky ny;obtain rfl:dV= .none:=Dflts.none hD F3;obtain rfl:kV= .none:=Dflts.noKw hD;obtain⟨a,vs,ns,rfl,rfl,CH,hints,hlen⟩:=u7 hn zL Ky;refine enter_call (codeAny_mono (call w s₀ s₁ mg mb fa o pm cd doc a vs ns G Y ho (fd_plain hd) yM hmg CH hints hlen hg) λr s' hq=>?_);obtain⟨rfl,h2,h3,h4⟩:=hq;exact⟨.inl ⟨.bool true,.bool true,[],rfl,λ_=>rfl,.bool true,uY l _,λ_=>⟨List.Pairwise.nil,λ_ hm=>(nomatch hm)⟩⟩,h2,h3,h4⟩
end Att
namespace L2
open PySem PySem.Spec PyProof.Rows
theorem mJ:∀{vs:List Value} {ns:List Int},IntsAre vs ns->au (ns.map V.int) vs
 | _,_,.nil=> .nil
 | _,_,.cons n t h=> .cons ⟨t,rfl⟩ (mJ h)
noncomputable def BV (H:Hp):Prop:=∀b,H b=none\/∃o xs,H b=some (.sF o (.lst xs))
theorem xh {P:Program} {w:World} {K:PySem.W.Frag} {mg mb:Str->Option Value} {CX:jY} {k:Nat} {fa a:Addr} {fd:FuncData} {x:Str} {sp:Sp} {s₁:Shared} {vs:List Value} {ns:List Int}
  (KX:K.In s₁.heap) (vn:s₁.heap.Ns mainGlobals mg) (hb:s₁.heap.Ns builtinsNs mb) (oU:∀x:Str,x≠"__name__"->mb x=bootBuiltins x) (d6:s₁.heap.NoLimit) (hg:s₁.gens=#[])
  (ha:s₁.heap.get? a=some {cls:= .type "list",data:= .seq vs.toArray}) (hi:IntsAre vs ns) (hl:ns.length<=sizeLine) (hr:ij k callerA)
  (F:∀base:Heap,K.In base->base.Ns mainGlobals mg->iZ P w K mg base CX k fa fd [x] sp) (FY:∀(s:Shared) (u:Value),BindsTo s fd ⟨[u],[]⟩ [(x,u)])
  (oo:∀H:Hp,BV H->dB K H a (ns.map V.int)->sp [.ref a] H (λv _=>v= .bl true) λ_ _ _=>False)
  (J0:∀H e s',CX [] H s₁ (λ_ _ _=>False) e s'->False):
  codeAny (model P w) callerA (.call (.ref fa) ⟨[.ref a],[]⟩) (λr s'=>r= .ok (.ret (.bool true))/\OldK s₁.heap s'.heap/\s'.os=s₁.os/\AllBare s'.gens) s₁:=by
 have rv:=mJ hi;have KI:=hi.length;have core:∀H:Hp,BV H->dB K H a (ns.map V.int)->eX P w H s₁.heap->(∀b,H b≠none->b=a)->(H a≠none->K.lookup a=none)->
   codeAny (model P w) callerA (.call (.ref fa) ⟨[.ref a],[]⟩) (λr s'=>r= .ok (.ret (.bool true))/\OldK s₁.heap s'.heap/\s'.os=s₁.os/\AllBare s'.gens) s₁:=by
  intro H hO hS hok hA hK;have rQ:∀{b:Addr} {o:Obj},s₁.heap.get? b=some o->H b=none->(nv s₁.heap H).get? b=some o:=λe n=>wO e n
  have GO:∀{b:Addr} {o:Obj} {es:Array DictEntry} {ep:Nat},s₁.heap.get? b=some o->o.data= .dict es ep->H b=none:=λ {b o es ep} e d=>by
   cases q:H b with
   | none=>rfl
   | some u=>have e':b=a:=hA b (by rw[q];simp);subst e';rw[ha] at e;cases e;have d':Data.seq vs.toArray _=Data.dict es ep:=d;cases d'
  have IX:∀{b:Addr} {m:Str->Option Value},s₁.heap.Ns b m->(nv s₁.heap H).Ns b m:=λ {b m} ⟨o,es,ep,e,d,r⟩=>⟨o,es,ep,rQ e (GO e d),d,r⟩
  have L8:K.In (nv s₁.heap H):=λb o e=>rQ (KX b o e) (by
   cases q:H b with
   | none=>rfl
   | some u=>
    have e':b=a:=hA b (by rw[q];simp);subst e';rw[hK (by rw[q];simp)] at e;cases e)
  have hM:Mod K mg (nv s₁.heap H):=⟨L8,IX vn,⟨mb,IX hb,oU⟩,let ⟨mc,h1,h2⟩:=d6;⟨mc,IX h1,h2⟩⟩;have e0:yZ P w K mg (nv s₁.heap H) callerA [] s₁ H:=⟨rfl,hM,λb o e=>Ai e,Nat.le_of_eq (uG _ _),trivial,λb hb=>absurd (show b∈([]:List Addr) from hb) (by simp),hok,.of_eq hg⟩;refine codeAny_mono ((F _ L8 (IX vn)).run callerA [] s₁ H ⟨[.ref a],[]⟩ [.ref a] [.ref a] _ _ hr e0 (FY s₁ (.ref a)) (.cons rfl .nil) (oo H hO hS)) λr s' h=>?_
  cases r with
  | error e=>exact(J0 H e s' h).elim
  | ok fl=>
   cases fl with
   | next=>exact False.elim h
   | brk=>exact False.elim h
   | cont=>exact False.elim h
   | ret u=>
    obtain⟨v,H',os,bare,un,zJ,r',q⟩:=h;have q':v= .bl true:=q;subst q';obtain rfl:u=Value.bool true:=r';refine⟨rfl,OldK.of_keep λb o e=>?_,os,bare⟩;cases q:H b with
    | none=>exact un.keep b o e q (by intro z;exact absurd (show b∈([]:List Addr) from z) (by simp)) (by simp)
    | some u=>
     rcases hO b with z | ⟨ob,xs,z⟩
     ·rw[q] at z;cases z
     ·have z2:=un.frzs b ob _ z;obtain⟨e1,_⟩:=hok b _ z;obtain⟨e2,_⟩:=zJ b _ z2;rw[e] at e1;cases e1;exact e2
 cases hk:K.lookup a with
 | some o=>have e:=KX a o hk;rw[ha] at e;cases e;refine core (λ_=>none) (λ_=> .inl rfl) (.inr ⟨_,vs.toArray,_,hk,rfl,rfl,rfl,by rw[Pe,KI];exact hl,by simpa using rv⟩) (λb u z=>by have z':(none:Option HO)=some u:=z;cases z') (λb z=>absurd rfl z) λz=>absurd rfl z
 | none=>
  refine core (λb=>if b=a then some (.sF {cls:= .type "list",data:= .seq vs.toArray} (.lst (ns.map V.int))) else none) (λb=>?_) (.inl (.inr ⟨{cls:= .type "list",data:= .seq vs.toArray},if_pos rfl⟩)) (λb u z=>?_) (λb z=>?_) λ_=>hk
  ·by_cases hb:b=a
   ·exact .inr ⟨_,_,if_pos hb⟩
   ·exact .inl (if_neg hb)
  ·by_cases hb:b=a
   ·have z':=(if_pos hb).symm.trans z;cases z';subst hb;exact⟨ha,by rw[Pn];exact hl,vs,_,rv,ha⟩
   ·have z':=(if_neg hb).symm.trans z;cases z'
  ·by_cases hb:b=a
   ·exact hb
   ·exact absurd (if_neg hb) z
end L2
namespace L2
open PySem PySem.Spec PyProof.Rows
theorem A0 {l:PySem.W.OpenLaw} {n k:Nat} {q:Program} {loose:List Str} {XP:(Str->Option Value)->Heap->Prop} {YP:World->Heap->Prop} {d:DefRec} {K:Params->PySem.W.Frag} {CX:World->jY} {sp:World->Sp} {x:Str}
  (hn:l.most=some n) (oW:n<=sizeLine) (F3:d.params.defaults=[]) (hr:ij k callerA)
  (hY:∀(w:World) (h:Heap),YP w h->(K w.params).In h)
  (F:∀(w:World) (mg:Str->Option Value) (fa:Addr) (h:Heap),(K w.params).In h->h.Ns mainGlobals mg->mg d.name=some (.ref fa)->
   ∃fd:FuncData,(∀(s:Shared) (u:Value),BindsTo s fd ⟨[u],[]⟩ [(x,u)])/\
    ∀base:Heap,(K w.params).In base->base.Ns mainGlobals mg->iZ l.prog w (K w.params) mg base (CX w) k fa fd [x] (sp w))
  (oo:∀(w:World) (H:Hp) (a:Addr) (ns:List Int),ns.length<=n->BV H->dB (K w.params) H a (ns.map V.int)->sp w [.ref a] H (λv _=>v= .bl true) λ_ _ _=>False)
  (J0:∀(w:World) (H:Hp) (s:Shared) (e:Value) (s':Shared),CX w [] H s (λ_ _ _=>False) e s'->False):
  PySem.W.WalkO q loose XP YP l.row.toRowW d [] (λf vs=>PySem.call f vs):=by
 refine Att.oC hn F3 λw s₀ s₁ mg mb fa o pm cd doc a vs ns G Y ho hd yM hmg CH hints hlen hg=>?_
 have KX:=hY w _ Y;obtain⟨fd,hb,hF⟩:=F w mg fa _ KX G.T.g hmg;exact xh KX G.T.g G.T.b G.T.builtins G.T.nolimit hg CH hints (Pp hlen oW) hr hF hb (λH hO hS=>oo w H a ns hlen hO hS) λH e s'=>J0 w H s₁ e s'
end L2
namespace L2
open PySem PySem.Spec PyProof.Rows
noncomputable def mZ (s:Stmt):Arguments:=match s with
 | .FunctionDef _ a _ _ _ _ _ _ _ _=>a
 | _=>{posonlyargs:=[],args:=[],vararg:=none,kwonlyargs:=[],kw_defaults:=[],kwarg:=none,defaults:=[]}
noncomputable def iB (s:Stmt):List Stmt:=match s with
 | .FunctionDef _ _ b _ _ _ _ _ _ _=>b
 | _=>[]
noncomputable def bD (s:Stmt):Scope:=match s with
 | .FunctionDef _ _ _ _ _ _ sc _ _ _=>sc
 | _=>{kind:= .function,names:=[],isGenerator:=false,isCoroutine:=false}
theorem Gr {A B:Prop} (h:B):if false=true then A else B:=by rw[if_neg Bool.false_ne_true];exact h
theorem Gu {A B:Prop} (h:A):if true=true then A else B:=by rw[if_pos rfl];exact h
noncomputable def bT (H H':Hp):Prop:=∀b o,H b=some o->H' b=some o
theorem bT.refl (H:Hp):bT H H:=λ_ _ h=>h
theorem bT.trans {H H1 H2:Hp} (a:bT H H1) (b:bT H1 H2):bT H H2:=λc o h=>b c o (a c o h)
end L2
end
section
namespace Mx
open PySem PyProof.Rows
inductive D where
 | int (i:Int)
 | str (x:Str)
 | tup (ds:List D)
mutual
noncomputable def D.jH:D->D->Bool
 | .int i,.int j=>i==j
 | .str x,.str y=>x==y
 | .tup a,.tup b=>D.eqs a b
 | _,_=>false
noncomputable def D.eqs:List D->List D->Bool
 | [],[]=>true
 | x::xs,y::ys=>D.jH x y&&D.eqs xs ys
 | _,_=>false
end
mutual
noncomputable def D.lt:D->D->Bool
 | .int i,.int j=>decide (i < j)
 | .int _,_=>true
 | .str _,.int _=>false
 | .str x,.str y=>decide (x.cps.toList < y.cps.toList)
 | .str _,.tup _=>true
 | .tup a,.tup b=>D.dc a b
 | .tup _,_=>false
noncomputable def D.dc:List D->List D->Bool
 | [],[]=>false
 | [],_::_=>true
 | _::_,[]=>false
 | x::xs,y::ys=>if D.jH x y=true then D.dc xs ys else D.lt x y
end
mutual
theorem D.cq:∀a b:D,D.jH a b=true↔a=b
 | .int i,.int j=>by simp[D.jH]
 | .str x,.str y=>by simp[D.jH]
 | .tup a,.tup b=>by simp only[D.jH,D.tup.injEq];exact D.sv a b
 | .int _,.str _=>by simp[D.jH]
 | .int _,.tup _=>by simp[D.jH]
 | .str _,.int _=>by simp[D.jH]
 | .str _,.tup _=>by simp[D.jH]
 | .tup _,.int _=>by simp[D.jH]
 | .tup _,.str _=>by simp[D.jH]
theorem D.sv:∀a b:List D,D.eqs a b=true↔a=b
 | [],[]=>by simp[D.eqs]
 | [],_::_=>by simp[D.eqs]
 | _::_,[]=>by simp[D.eqs]
 | x::xs,y::ys=>by simp only[D.eqs,Pd,List.cons.injEq];rw[D.cq x y,D.sv xs ys]
end
noncomputable instance:DecidableEq D:=λa b=>if h:D.jH a b=true then isTrue ((D.cq a b).mp h) else isFalse λe=>h ((D.cq a b).mpr e)
theorem D.jI (a b:D):D.jH a b=decide (a=b):=by rw[Bool.eq_iff_iff,D.cq];simp
theorem D.c7 (x y:D) (xs ys:List D):D.dc (x::xs) (y::ys)=if x=y then D.dc xs ys else D.lt x y:=by
 rw[D.dc];by_cases h:x=y
 ·rw[if_pos h,if_pos ((D.cq x y).mpr h)]
 ·rw[if_neg h,if_neg λe=>h ((D.cq x y).mp e)]
mutual
theorem D.lt_irrefl:∀a:D,D.lt a a=false
 | .int i=>by simp[D.lt]
 | .str x=>by simp only[D.lt];exact strKind.irrefl _
 | .tup a=>by simp only[D.lt];exact D.kD a
theorem D.kD:∀a:List D,D.dc a a=false
 | []=>by simp[D.dc]
 | x::xs=>by rw[D.c7,if_pos rfl];exact D.kD xs
end
mutual
theorem D.fT:∀a b:D,D.lt a b=false->D.lt b a=false->a=b
 | .int i,.int j,h1,h2=>by simp only[D.lt,decide_eq_false_iff_not] at h1 h2;congr 1;lia
 | .str x,.str y,h1,h2=>by simp only[D.lt] at h1 h2;have:=strKind.total _ _ h1 h2;congr 1;cases x;cases y;simp only at this;congr 1;exact Array.toList_inj.mp this
 | .tup a,.tup b,h1,h2=>by simp only[D.lt] at h1 h2;rw[D.mv a b h1 h2]
 | .int _,.str _,h1,_=>by simp[D.lt] at h1
 | .int _,.tup _,h1,_=>by simp[D.lt] at h1
 | .str _,.int _,_,h2=>by simp[D.lt] at h2
 | .str _,.tup _,h1,_=>by simp[D.lt] at h1
 | .tup _,.int _,_,h2=>by simp[D.lt] at h2
 | .tup _,.str _,_,h2=>by simp[D.lt] at h2
theorem D.mv:∀a b:List D,D.dc a b=false->D.dc b a=false->a=b
 | [],[],_,_=>rfl
 | [],_::_,h1,_=>by simp[D.dc] at h1
 | _::_,[],_,h2=>by simp[D.dc] at h2
 | x::xs,y::ys,h1,h2=>by
  rw[D.c7] at h1 h2;by_cases h:x=y
  ·subst h;rw[if_pos rfl] at h1 h2;rw[D.mv xs ys h1 h2]
  ·rw[if_neg h] at h1;rw[if_neg (Ne.symm h)] at h2;exact absurd (D.fT x y h1 h2) h
end
mutual
theorem D.lt_trans:∀a b c:D,D.lt a b=true->D.lt b c=true->D.lt a c=true
 | .int i,.int j,.int k,h1,h2=>by simp only[D.lt,decide_eq_true_eq] at *;lia
 | .int _,_,.str _,_,_=>by simp[D.lt]
 | .int _,_,.tup _,_,_=>by simp[D.lt]
 | .int _,.str _,.int _,_,h2=>by simp[D.lt] at h2
 | .int _,.tup _,.int _,_,h2=>by simp[D.lt] at h2
 | .str _,.int _,_,h1,_=>by simp[D.lt] at h1
 | .str x,.str y,.str z,h1,h2=>by simp only[D.lt] at *;exact strKind.trans _ _ _ h1 h2
 | .str _,.str _,.int _,_,h2=>by simp[D.lt] at h2
 | .str _,_,.tup _,_,_=>by simp[D.lt]
 | .str _,.tup _,.int _,_,h2=>by simp[D.lt] at h2
 | .str _,.tup _,.str _,_,h2=>by simp[D.lt] at h2
 | .tup _,.int _,_,h1,_=>by simp[D.lt] at h1
 | .tup _,.str _,_,h1,_=>by simp[D.lt] at h1
 | .tup _,.tup _,.int _,_,h2=>by simp[D.lt] at h2
 | .tup _,.tup _,.str _,_,h2=>by simp[D.lt] at h2
 | .tup a,.tup b,.tup c,h1,h2=>by simp only[D.lt] at *;exact D.mw a b c h1 h2
theorem D.mw:∀a b c:List D,D.dc a b=true->D.dc b c=true->D.dc a c=true
 | [],[],_,h1,_=>by simp[D.dc] at h1
 | [],_::_,[],_,h2=>by simp[D.dc] at h2
 | [],_::_,_::_,_,_=>by simp[D.dc]
 | _::_,[],_,h1,_=>by simp[D.dc] at h1
 | _::_,_::_,[],_,h2=>by simp[D.dc] at h2
 | x::xs,y::ys,z::zs,h1,h2=>by
  rw[D.c7] at h1 h2 ⊢;by_cases h:x=y
  ·subst h;rw[if_pos rfl] at h1;by_cases h':x=z
   ·rw[if_pos h'] at h2 ⊢;exact D.mw xs ys zs h1 h2
   ·rw[if_neg h'] at h2 ⊢;exact h2
  ·rw[if_neg h] at h1;by_cases h':y=z
   ·subst h';rw[if_neg h];exact h1
   ·rw[if_neg h'] at h2;have h3:=D.lt_trans x y z h1 h2;by_cases h'':x=z
    ·subst h'';rw[D.lt_irrefl] at h3;cases h3
    ·rw[if_neg h''];exact h3
end
@[reducible] noncomputable def Fw:KeyOrd where
 α:=D
 blt:=D.lt
 irrefl:=D.lt_irrefl
 trans:=D.lt_trans
 negTrans:=λa b c h=>by
  cases h1:D.lt a b with
  | true=>exact .inl rfl
  | false=>
   right;cases h2:D.lt b a with
   | true=>exact D.lt_trans b a c h2 h
   | false=>rw[D.fT a b h1 h2] at h;exact h
 total:=D.fT
end Mx
end
section
namespace MxSort
open PySem PySem.W PyProof.Rows
section
variable {O:KeyOrd} {key:Nat->O.α}
noncomputable def qI (key:Nat->O.α) (p:Array Nat) (i:Nat):O.α:=key (p.getD i 0)
noncomputable def Up (key:Nat->O.α) (p:Array Nat) (n:Nat):Prop:=∀i j,i<=j->j < n->O.kle (qI key p i) (qI key p j)
noncomputable def Dn (key:Nat->O.α) (p:Array Nat) (n:Nat):Prop:=∀i j,i<=j->j < n->O.kle (qI key p j) (qI key p i)
theorem sH {p q:Array Nat} {i j:Nat} (h:p[i]?=q[j]?):p.getD i 0=q.getD j 0:=by
 have e1:∀(p:Array Nat) (i:Nat),p.getD i 0=(p[i]?).getD 0:=λp i=>by simp[Array.getD_eq_getD_getElem?]
 rw[e1,e1,h]
theorem sW {p:Array Nat} {i j:Nat} (hj:j<=p.size) (k:Nat):qI key (kas_rev p i j) k=if i<=k/\k < j then qI key p (i + j - 1 - k) else qI key p k:=by
 have e:=getElem?_mirror_all (i:=i) hj k;unfold kas_rev qI;by_cases h1:i<=k/\k < j
 ·rw[if_pos h1] at e ⊢;exact congrArg key (sH e)
 ·rw[if_neg h1] at e ⊢;exact congrArg key (sH e)
noncomputable def Ord (N:Nat) (p:Array Nat):Prop:=p.toList.Perm (List.range N)
theorem Ord.size {N:Nat} {p:Array Nat} (h:Ord N p):p.size=N:=by have:=h.length_eq;rw[List.length_range] at this;rw[<-this];simp
variable {cmp:Nat->Nat->(Bool->Shared->Prop)->Shared->Prop} {s:Shared} {N:Nat}
noncomputable def Tells (O:KeyOrd) (key:Nat->O.α) (cmp:Nat->Nat->(Bool->Shared->Prop)->Shared->Prop) (N:Nat) (s:Shared):Prop:=
 ∀i j,i < N->j < N->∀C:Bool->Shared->Prop,C (O.blt (key i) (key j)) s->cmp i j C s
theorem Up.succ {p:Array Nat} {n:Nat} (h:Up key p n) (h1:1<=n) (h2:O.kle (qI key p (n - 1)) (qI key p n)):Up key p (n + 1):=λi j fE hj=>by
 by_cases e:j=n
 ·subst e;by_cases e2:i=j
  ·subst e2;exact KeyOrd.kle_refl _
  ·exact PL (h i (j - 1) (by lia) (by lia)) h2
 ·exact h i j fE (by lia)
theorem Dn.succ {p:Array Nat} {n:Nat} (h:Dn key p n) (h1:1<=n) (h2:O.kle (qI key p n) (qI key p (n - 1))):Dn key p (n + 1):=λi j fE hj=>by
 by_cases e:j=n
 ·subst e;by_cases e2:i=j
  ·subst e2;exact KeyOrd.kle_refl _
  ·exact PL h2 (h i (j - 1) (by lia) (by lia))
 ·exact h i j fE (by lia)
theorem Dn.of {p q:Array Nat} {n:Nat} (e:∀k,qI key q k=qI key p k) (h:Dn key p n):Dn key q n:=λi j a b=>by rw[e,e];exact h i j a b
theorem yx {p:Array Nat} {n:Nat} (hn:n<=p.size) (h:Dn key p n):Up key (kas_rev p 0 n) n:=λi j fE hj=>by rw[sW hn,sW hn,if_pos (by lia),if_pos (by lia)];exact h _ _ (by lia) (by lia)
end
end MxSort
end
section
namespace Mx
open PySem PySem.Spec PyProof.Rows L2 PySem.SeqAt
mutual
noncomputable def D.dep:D->Nat
 | .int _=>0
 | .str _=>0
 | .tup ds=>D.dh ds + 1
noncomputable def D.dh:List D->Nat
 | []=>0
 | d::ds=>max (D.dep d) (D.dh ds)
end
mutual
noncomputable def DV (H:Hp):V->D->Prop
 | x,.int i=>x= .int i
 | x,.str z=>x= .str z
 | x,.tup ds=>∃a xs,x= .ref a/\H a=some (.tup xs)/\a9 H xs ds
noncomputable def a9 (H:Hp):List V->List D->Prop
 | [],[]=>True
 | x::xs,d::ds=>DV H x d/\a9 H xs ds
 | [],_::_=>False
 | _::_,[]=>False
end
theorem a9.nil {H:Hp}:a9 H [] []:=by unfold a9;trivial
theorem a9.cons {H:Hp} {x:V} {xs:List V} {d:D} {ds:List D} (h:DV H x d) (t:a9 H xs ds):a9 H (x::xs) (d::ds):=by unfold a9;exact⟨h,t⟩
theorem DV.int {H:Hp} {i:Int}:DV H (.int i) (.int i):=by unfold DV;rfl
theorem DV.str {H:Hp} {x:Str}:DV H (.str x) (.str x):=by unfold DV;rfl
theorem DV.tup {H:Hp} {a:Addr} {xs:List V} {ds:List D} (h:H a=some (.tup xs)) (t:a9 H xs ds):DV H (.ref a) (.tup ds):=by unfold DV;exact⟨a,xs,rfl,h,t⟩
theorem DV.ab {H:Hp} {x:V} {ds:List D} (h:DV H x (.tup ds)):∃a xs,x= .ref a/\H a=some (.tup xs)/\a9 H xs ds:=by unfold DV at h;exact h
theorem DV.int_inv {H:Hp} {x:V} {i:Int} (h:DV H x (.int i)):x= .int i:=by unfold DV at h;exact h
theorem DV.str_inv {H:Hp} {x:V} {i:Str} (h:DV H x (.str i)):x= .str i:=by unfold DV at h;exact h
theorem a9.cons_inv {H:Hp} {xs:List V} {d:D} {ds:List D} (h:a9 H xs (d::ds)):∃x r,xs=x::r/\DV H x d/\a9 H r ds:=by
 cases xs with
 | nil=>unfold a9 at h;exact h.elim
 | cons x r=>unfold a9 at h;exact⟨x,r,rfl,h⟩
theorem a9.length {H:Hp}:∀{xs:List V} {ds:List D},a9 H xs ds->xs.length=ds.length
 | [],[],_=>rfl
 | [],_::_,h=>by unfold a9 at h;exact h.elim
 | _::_,[],h=>by unfold a9 at h;exact h.elim
 | _::xs,_::ds,h=>by unfold a9 at h;simp[a9.length h.2]
theorem a9.get {H:Hp}:∀{xs:List V} {ds:List D} {i:Nat} {x:V},a9 H xs ds->xs[i]?=some x->∃d,ds[i]?=some d/\DV H x d
 | [],_,_,_,_,e=>by simp at e
 | _::_,[],_,_,h,_=>by unfold a9 at h;exact h.elim
 | _::_,_::_,0,_,h,e=>by unfold a9 at h;simp at e;subst e;exact⟨_,rfl,h.1⟩
 | _::xs,_::ds,i + 1,x,h,e=>by unfold a9 at h;obtain⟨d,e1,e2⟩:=a9.get (i:=i) h.2 (by simpa using e);exact⟨d,by simpa using e1,e2⟩
theorem a9.append {H:Hp}:∀{xs ys:List V} {ds es:List D},a9 H xs ds->a9 H ys es->a9 H (xs++ys) (ds++es)
 | [],_,[],_,_,h=>h
 | [],_,_::_,_,h,_=>by unfold a9 at h;exact h.elim
 | _::_,_,[],_,h,_=>by unfold a9 at h;exact h.elim
 | _::xs,ys,_::ds,es,h,h'=>by unfold a9 at h;exact a9.cons h.1 (a9.append h.2 h')
noncomputable def za (H H':Hp):Prop:=∀a xs,H a=some (.tup xs)->H' a=some (.tup xs)
mutual
theorem DV.mono {H H':Hp} (t:za H H'):∀{x:V} {d:D},DV H x d->DV H' x d
 | x,.int i,h=>by unfold DV at h ⊢;exact h
 | x,.str z,h=>by unfold DV at h ⊢;exact h
 | x,.tup ds,h=>by obtain⟨a,xs,e,e1,e2⟩:=h.ab;subst e;exact DV.tup (t a xs e1) (a9.mono t e2)
theorem a9.mono {H H':Hp} (t:za H H'):∀{xs:List V} {ds:List D},a9 H xs ds->a9 H' xs ds
 | [],[],_=>a9.nil
 | [],_::_,h=>by unfold a9 at h;exact h.elim
 | _::_,[],h=>by unfold a9 at h;exact h.elim
 | _::xs,_::ds,h=>by unfold a9 at h;exact a9.cons (DV.mono t h.1) (a9.mono t h.2)
end
mutual
theorem DV.inj {H:Hp}:∀{x:V} {d e:D},DV H x d->DV H x e->d=e
 | x,.int i,e,h1,h2=>by
  have:=h1.int_inv;subst this;cases e with
  | int j=>have:=h2.int_inv;injection this with q;rw[q]
  | str j=>have:=h2.str_inv;cases this
  | tup j=>obtain⟨_,_,q,_⟩:=h2.ab;cases q
 | x,.str i,e,h1,h2=>by
  have:=h1.str_inv;subst this;cases e with
  | int j=>have:=h2.int_inv;cases this
  | str j=>have:=h2.str_inv;injection this with q;rw[q]
  | tup j=>obtain⟨_,_,q,_⟩:=h2.ab;cases q
 | x,.tup ds,e,h1,h2=>by
  obtain⟨a,xs,q,e1,e2⟩:=h1.ab;subst q;cases e with
  | int j=>have:=h2.int_inv;cases this
  | str j=>have:=h2.str_inv;cases this
  | tup j=>obtain⟨b,ys,q,f1,f2⟩:=h2.ab;cases q;rw[e1] at f1;cases f1;rw[a9.inj e2 f2]
theorem a9.inj {H:Hp}:∀{xs:List V} {ds es:List D},a9 H xs ds->a9 H xs es->ds=es
 | [],[],[],_,_=>rfl
 | [],[],_::_,_,h=>by unfold a9 at h;exact h.elim
 | [],_::_,_,h,_=>by unfold a9 at h;exact h.elim
 | _::_,[],_,h,_=>by unfold a9 at h;exact h.elim
 | _::_,_::_,[],_,h=>by unfold a9 at h;exact h.elim
 | _::xs,_::ds,_::es,h1,h2=>by unfold a9 at h1 h2;rw[DV.inj h1.1 h2.1,a9.inj h1.2 h2.2]
end
noncomputable def Iu (ds es:List D) (j:Nat):Bool:=match ds[j]?,es[j]? with
 | some d,some e=>D.jH d e
 | _,_=>true
theorem rK:∀ds es:List D,((List.range (min ds.length es.length)).all (Iu ds es)&&ds.length==es.length)=D.eqs ds es
 | [],[]=>by simp[D.eqs]
 | [],_::_=>by simp[D.eqs]
 | _::_,[]=>by simp[D.eqs]
 | d::ds,e::es=>by
  have ih:=rK ds es;have hm:min (d::ds).length (e::es).length=min ds.length es.length + 1:=by simp only[Px];lia
  have e1:((d::ds).length==(e::es).length)=(ds.length==es.length):=by rw[Bool.eq_iff_iff];simp
  rw[hm,List.range_succ_eq_map,List.all_cons,List.all_map,e1,D.eqs,<-ih,Bool.and_assoc];rfl
theorem m9 {d:D}:∀{ds:List D} {j:Nat},ds[j]?=some d->D.dep d<=D.dh ds
 | [],_,h=>by simp at h
 | d'::ds,0,h=>by simp at h;subst h;unfold D.dh;lia
 | d'::ds,j + 1,h=>by have:=m9 (ds:=ds) (j:=j) (by simpa using h);unfold D.dh;lia
section
variable {P:Program} {w:World} {H:Hp} {s:Shared}
theorem ar (hok:eX P w H s.heap) {a:Addr} {xs:List V} (h:H a=some (.tup xs)):∃its:List Value,au xs its/\s.heap.IsTuple a its.toArray:=by obtain⟨_,its,r,t⟩:=hok a _ h;exact⟨its,r,t.is⟩
theorem eq_data (hok:eX P w H s.heap):∀(n:Nat) (d e:D) (x y:V) (u v:Value) (A:Around),D.dep d<=n->A.units + n < cLine->DV H x d->DV H y e->RelV x u->RelV y v->EqAt A s u v (D.jH d e):=by
 intro n
 induction n with
 | zero=>
  intro d e x y u v A hd hu hx hy rx ry;cases d with
  | int i=>
   have:=hx.int_inv;subst this;obtain⟨t,rfl⟩:=rx;cases e with
   | int j=>have:=hy.int_inv;subst this;obtain⟨t',rfl⟩:=ry;exact EqAt.int_int i t j t'
   | str j=>have:=hy.str_inv;subst this;obtain⟨t',rfl⟩:=ry;exact EqAt.int_str i t j t'
   | tup j=>obtain⟨b,ys,q,f1,f2⟩:=hy.ab;subst q;cases ry;obtain⟨its,_,ht⟩:=ar hok f1;exact EqAt.int_tuple i t ht (by lia)
  | str i=>
   have:=hx.str_inv;subst this;obtain⟨t,rfl⟩:=rx;cases e with
   | int j=>have:=hy.int_inv;subst this;obtain⟨t',rfl⟩:=ry;exact EqAt.str_int i t j t'
   | str j=>have:=hy.str_inv;subst this;obtain⟨t',rfl⟩:=ry;exact EqAt.str_str i t j t'
   | tup j=>obtain⟨b,ys,q,f1,f2⟩:=hy.ab;subst q;cases ry;obtain⟨its,_,ht⟩:=ar hok f1;exact EqAt.str_tuple i t ht (by lia)
  | tup ds=>unfold D.dep at hd;lia
 | succ n ih=>
  intro d e x y u v A hd hu hx hy rx ry;cases d with
  | int i=>exact ih (.int i) e x y u v A (by unfold D.dep;lia) (by lia) hx hy rx ry
  | str i=>exact ih (.str i) e x y u v A (by unfold D.dep;lia) (by lia) hx hy rx ry
  | tup ds=>
   obtain⟨a,xs,q,e1,e2⟩:=hx.ab;subst q;cases rx;obtain⟨its,r1,ht⟩:=ar hok e1;cases e with
   | int j=>have:=hy.int_inv;subst this;obtain⟨t',rfl⟩:=ry;exact EqAt.tuple_int j t' ht (by lia)
   | str j=>have:=hy.str_inv;subst this;obtain⟨t',rfl⟩:=ry;exact EqAt.tuple_str j t' ht (by lia)
   | tup es=>
    obtain⟨b,ys,q,f1,f2⟩:=hy.ab;subst q;cases ry;obtain⟨aJ,r2,bZ⟩:=ar hok f1;by_cases gP:a=b
    ·subst gP;rw[e1] at f1;cases f1;have:=a9.inj e2 f2;subst this;have q:D.jH (.tup ds) (.tup ds)=true:=(D.cq _ _).mpr rfl;rw[q];exact EqAt.same _
    ·have l1:its.toArray.size=ds.length:=by rw[Pe,<-r1.length,e2.length]
     have l2:aJ.toArray.size=es.length:=by rw[Pe,<-r2.length,f2.length]
     have key:=RcAt.tuples (A:=A) (e:=Iu ds es) ht bZ (by lia) (λj h1 h2=>?_)
     ·have q:=rK ds es;rw[<-l1,<-l2] at q;rw[q] at key;exact EqAt.of_refs gP key
     ·have oS:j < xs.length:=by rw[e2.length,<-l1];exact h1
      have oT:j < ys.length:=by rw[f2.length,<-l2];exact h2
      obtain⟨d,g1,g2⟩:=e2.get (i:=j) (x:=xs[j]) (by simp[oS]);obtain⟨e,k1,k2⟩:=f2.get (i:=j) (x:=ys[j]) (by simp[oT]);obtain⟨u,zO,ru⟩:=r1.get (i:=j) (x:=xs[j]) (by simp[oS]);obtain⟨v,CS,rv⟩:=r2.get (i:=j) (x:=ys[j]) (by simp[oT]);have eu:its.toArray[j]=u:=by have:its[j]?=some u:=zO;simp only[List.getElem_toArray];have q:=Pg.mp this;exact q.2
      have ev:aJ.toArray[j]=v:=by have:aJ[j]?=some v:=CS;simp only[List.getElem_toArray];have q:=Pg.mp this;exact q.2
      rw[eu,ev];have ee:Iu ds es j=D.jH d e:=by unfold Iu;rw[g1,k1]
      rw[ee];refine ih d e xs[j] ys[j] u v A.in1 ?_ (by show A.units + 1 + n < cLine;lia) g2 k2 ru rv;have:=m9 g1;unfold D.dep at hd
      lia
end
mutual
noncomputable def D.cG:D->D->Prop
 | .int _,.int _=>True
 | .str _,.str _=>True
 | .tup a,.tup b=>D.eI a b
 | _,_=>False
noncomputable def D.eI:List D->List D->Prop
 | x::xs,y::ys=>D.cG x y/\D.eI xs ys
 | _,_=>True
end
noncomputable def BR (A:Around) (s:Shared) (u v:Value) (b:Bool):Prop:=
 ∀(prog:Program) (w:World) (E:Value->Shared->Prop) (Q:Value->Shared->Prop),Q (.bool b) s->wpAny (model prog w) A (richCompare .Lt u v) Q E s
inductive Zp (A:Around) (s:Shared):List Value->List Value->List D->List D->Prop
 | nil {ws:List Value} {es:List D}:ws.length=es.length->Zp A s [] ws [] es
 | pB {vs:List Value} {ds:List D}:vs.length=ds.length->Zp A s vs [] ds []
 | cons {v w:Value} {d e:D} {vs ws:List Value} {ds es:List D}:EqAt A s v w (D.jH d e)->(d≠e->BR A s v w (D.lt d e))->Zp A s vs ws ds es->Zp A s (v::vs) (w::ws) (d::ds) (e::es)
section
open PySem.AutoSeq1 (wpAny_loadPart')
open PySem.MeetsSeq PySem.MeetsSeq2 PySem.MeetsSeq3
theorem lN (l b:Addr) (items cc:Array Value) (n n2:Nat) (dd sj:Option Addr) (sl tO:Array (Option Value)) (ds es:List D) (z1:items.size=ds.length) (z2:cc.size=es.length):
  Meets (Builtin.«tuple.__lt__» ⟨[.ref l,.ref b],[]⟩)
   (λA R s=>s.heap.get? l=some {cls:= .type "tuple",dict:=dd,data:= .seq items n,slots:=sl}/\s.heap.get? b=some {cls:= .type "tuple",dict:=sj,data:= .seq cc n2,slots:=tO}/\
    Zp A.in1 s items.toList cc.toList ds es/\R (.ok (.ret (.bool (D.dc ds es)))) s):=
 .of_wp λprog w A R s h=>by
  obtain⟨hp,g,d,tk,os⟩:=s;obtain⟨hl,hb,KA,h⟩:=h;have f2:=AutoSeq1.sub_tuple_tuple
  wp_walk using wpAny_loadPart' hl,wpAny_loadPart' hb,wpAny_forIn_list _ (λrest b s'=>b.1=none/\s'=⟨hp,g,d,tk,os⟩/\∃(vs ws:List Value) (lZ eY:List D),rest=vs.zip ws/\
   Zp A.in1 ⟨hp,g,d,tk,os⟩ vs ws lZ eY/\lZ.length + cc.size=eY.length + items.size/\R (.ok (.ret (.bool (D.dc lZ eY)))) ⟨hp,g,d,tk,os⟩) _
  case turn=>
   rintro⟨y,x⟩ rest b s' ⟨lh,rfl,vs,ws,lZ,eY,hz,sN,hlen,hR⟩;cases sN with
   | nil _=>rw[List.zip_nil_left] at hz;cases hz
   | pB _=>rw[List.zip_nil_right] at hz;cases hz
   | cons he hl w6=>
    rename_i v wv d0 e0 vo ws' ds'' es'';rw[List.zip_cons_cons] at hz;injection hz with hyx wX;injection hyx with hy hx;subst hy hx;rw[D.c7] at hR;simp only[Px] at hlen;refine O9 (he prog w _ _ ?_);by_cases hde:d0=e0
    ·rw[if_pos hde] at hR;rw[(D.cq d0 e0).mpr hde]
     wp_walk
     exact⟨rfl,rfl,_,_,_,_,wX,w6,by lia,hR⟩
    ·rw[if_neg hde] at hR;have JH:D.jH d0 e0=false:=by rw[D.jI];exact PJ hde
     rw[JH];have Kq:=hl hde prog w
     wp_walk using Kq
     exact⟨_,rfl,by simpa using hR⟩
  case fin=>
   rintro⟨b1,b2⟩ s' ⟨lh,rfl,vs,ws,lZ,eY,hz,sN,hlen,hR⟩;simp only at lh;subst lh;have hv:D.dc lZ eY=decide (items.size < cc.size):=by
    cases sN with
    | nil _=>
     cases eY with
     | nil=>simp only[List.length_nil] at hlen;rw[D.dc];exact(PJ (by lia)).symm
     | cons c u=>simp only[List.length_nil,Px] at hlen;rw[D.dc];exact(PN (by lia)).symm
    | pB _=>
     cases lZ with
     | nil=>simp only[List.length_nil] at hlen;rw[D.dc];exact(PJ (by lia)).symm
     | cons c u=>simp only[List.length_nil,Px] at hlen;rw[D.dc];exact(PJ (by lia)).symm
    | cons he hl w6=>rw[List.zip_cons_cons] at hz;cases hz
   rw[hv] at hR
   wp_walk
   exact⟨_,rfl,by simpa [Builtin.Tuple.tupleCompareSizes] using hR⟩
  case h=>exact⟨rfl,rfl,items.toList,cc.toList,ds,es,rfl,KA,by lia,h⟩
end
section
variable {P:Program} {w:World} {H:Hp} {s:Shared}
theorem yI (hok:eX P w H s.heap) {A:Around} {n:Nat} (hu:A.units + n < cLine) (ih:∀(d e:D) (x y:V) (u v:Value),D.dep d<=n->D.cG d e->DV H x d->DV H y e->RelV x u->RelV y v->BR A s u v (D.lt d e)):
  ∀{xs ys:List V} {us vs:List Value} {ds es:List D},D.dh ds<=n->D.eI ds es->a9 H xs ds->a9 H ys es->au xs us->au ys vs->Zp A s us vs ds es
 | [],ys,us,vs,[],es,_,_,_,h2,r1,r2=>by cases r1;exact .nil (by rw[<-r2.length,h2.length])
 | x::xs,[],us,vs,ds,[],_,_,h1,_,r1,r2=>by cases r2;exact .pB (by rw[<-r1.length,h1.length])
 | [],_,_,_,_::_,_,_,_,h,_,_,_=>by unfold a9 at h;exact h.elim
 | _::_,_,_,_,[],_,_,_,h,_,_,_=>by unfold a9 at h;exact h.elim
 | _::_,[],_,_,_::_,_::_,_,_,_,h,_,_=>by unfold a9 at h;exact h.elim
 | _::_,_::_,_,_,_::_,[],_,_,_,h,_,_=>by unfold a9 at h;exact h.elim
 | x::xs,y::ys,us,vs,d::ds,e::es,hd,hl,h1,h2,r1,r2=>by
  unfold a9 at h1 h2;unfold D.eI at hl;unfold D.dh at hd;cases r1 with
  | cons r1 t1=>
   cases r2 with
   | cons r2 t2=>exact .cons (eq_data hok n d e x y _ _ A (by lia) hu h1.1 h2.1 r1 r2) (λ_=>ih d e x y _ _ (by lia) hl.1 h1.1 h2.1 r1 r2) (yI hok hu ih (by lia) hl.2 h1.2 h2.2 t1 t2)
theorem zZ (hok:eX P w H s.heap):∀(n:Nat) (d e:D) (x y:V) (u v:Value) (A:Around),D.dep d<=n->A.units + n < cLine->D.cG d e->DV H x d->DV H y e->RelV x u->RelV y v->BR A s u v (D.lt d e):=by
 intro n
 induction n with
 | zero=>
  intro d e x y u v A hd hu hl hx hy rx ry;cases d with
  | int i=>
   have:=hx.int_inv;subst this;obtain⟨t,rfl⟩:=rx;cases e with
   | int j=>have:=hy.int_inv;subst this;obtain⟨t',rfl⟩:=ry;intro prog wd E Q q;exact(PyProof.Rows.lt_int q:wpAny (model prog wd) A (compareOp .Lt (.int i t) (.int j t')) Q E s)
   | str j=>unfold D.cG at hl;exact hl.elim
   | tup j=>unfold D.cG at hl;exact hl.elim
  | str i=>
   have:=hx.str_inv;subst this;obtain⟨t,rfl⟩:=rx;cases e with
   | int j=>unfold D.cG at hl;exact hl.elim
   | str j=>have:=hy.str_inv;subst this;obtain⟨t',rfl⟩:=ry;intro prog wd E Q q;exact(PySem.P.lt_str q:wpAny (model prog wd) A (compareOp .Lt (.str i t) (.str j t')) Q E s)
   | tup j=>unfold D.cG at hl;exact hl.elim
  | tup ds=>unfold D.dep at hd;lia
 | succ n ih=>
  intro d e x y u v A hd hu hl hx hy rx ry;cases d with
  | int i=>exact ih (.int i) e x y u v A (by unfold D.dep;lia) (by lia) hl hx hy rx ry
  | str i=>exact ih (.str i) e x y u v A (by unfold D.dep;lia) (by lia) hl hx hy rx ry
  | tup ds=>
   obtain⟨a,xs,q,e1,e2⟩:=hx.ab;subst q;cases rx;cases e with
   | int j=>unfold D.cG at hl;exact hl.elim
   | str j=>unfold D.cG at hl;exact hl.elim
   | tup es=>
    obtain⟨b,ys,q,f1,f2⟩:=hy.ab;subst q;cases ry;obtain⟨its,r1,ht⟩:=ar hok e1;obtain⟨aJ,r2,bZ⟩:=ar hok f1;have l1:its.toArray.size=ds.length:=by rw[Pe,<-r1.length,e2.length]
    have l2:aJ.toArray.size=es.length:=by rw[Pe,<-r2.length,f2.length]
    have qf:D.dh ds<=n:=by unfold D.dep at hd;lia
    have CD:D.eI ds es:=by unfold D.cG at hl;exact hl
    have zz:Zp A.in1 s its aJ ds es:=yI hok (n:=n) (by show A.units + 1 + n < cLine;lia) (λd e x y u v hd2 eF w5 hy2 rx2 ry2=>ih d e x y u v A.in1 hd2 (by show A.units + 1 + n < cLine;lia) eF w5 hy2 rx2 ry2) qf CD e2 f2 r1 r2;intro prog wd E Q q;obtain⟨⟨cls,dd,data,sl⟩,ho,hc,k,vm⟩:=id ht;obtain⟨⟨Cj,sj,data2,tO⟩,oY,qe,k2,lD⟩:=id bZ;simp only at hc vm qe lD;subst hc vm qe lD;have q':Q (.bool (D.dc ds es)) s:=by have z:=q;unfold D.lt at z;exact z
    exact richCompare_meets_room (op:= .Lt) ⟨_,ho,rfl⟩ ⟨_,oY,rfl⟩ PySem.F.slot_tuple_lt PySem.F.entry_tuple_lt (PySem.F.args_tuple_lt_2 _ _) (lN a b its.toArray aJ.toArray k k2 dd sj sl tO ds es l1 l2)
     ⟨ho,oY,zz,show Value.bool (D.dc ds es)≠Value.notImplemented/\Q (.bool (D.dc ds es)) s from⟨(λx=>nomatch x),q'⟩⟩ (by lia)
end
end Mx
end
section
namespace Mx
open PySem PySem.W PySem.Spec PyProof.Rows L2 PySem.SeqAt MxSort
section
variable {P:Program} {w:World} {H:Hp} {prog:Program} {s:Shared} {A:Around}
theorem zV {b:Bool} {n m:Nat} {Q:Bool->Shared->Prop} {us vs:List Value} {ds es:List D} (z:Zp A s us vs ds es):∀(i:Nat),1<=i->ds.length + m=es.length + n->Q (D.dc ds es) s->KatLex prog w A b (decide (n < m)) Q (us.zip vs) i s:=by
 induction z with
 | nil hl=>
  intro i hi hlen q;rw[List.zip_nil_left];refine kat_nil ?_;rename_i ws es;cases es with
  | nil=>simp only[List.length_nil] at hlen;rw[D.dc] at q;rw[PJ (by lia)];exact q
  | cons c u=>simp only[List.length_nil,Px] at hlen;rw[D.dc] at q;rw[PN (by lia)];exact q
 | pB hl=>
  intro i hi hlen q;rw[List.zip_nil_right];refine kat_nil ?_;rename_i vs ds;cases ds with
  | nil=>simp only[List.length_nil] at hlen;rw[D.dc] at q;rw[PJ (by lia)];exact q
  | cons c u=>simp only[List.length_nil,Px] at hlen;rw[D.dc] at q;rw[PJ (by lia)];exact q
 | cons he hl z' ih=>
  intro i hi hlen q;rename_i v wv d e vo ws' lZ eY;rw[List.zip_cons_cons];simp only[Px] at hlen;rw[D.c7] at q;refine kat_cons (he prog w _ _ ?_);by_cases hde:d=e
  ·rw[(D.cq d e).mpr hde];rw[if_pos hde] at q;exact kat_yes (ih (i + 1) (by lia) (by lia) q)
  ·rw[show D.jH d e=false by rw[D.jI];exact PJ hde];rw[if_neg hde] at q;refine kat_no ?_;rw[show (b&&i==0)=false by rw[show (i==0)=false by simp;lia];simp];exact kat_one v wv (hl hde prog w _ _ q)
end
noncomputable def j4 (ds es:List D):Prop:=es.Perm ds/\es.Pairwise λa b=>D.lt b a=false
theorem a9.map {H:Hp} {xs:List V} {ds:List D} (h:a9 H xs ds):∀{p:List Nat},(∀i∈p,i < xs.length)->a9 H (p.map λi=>xs.getD i .aT) (p.map λi=>ds.getD i (.int 0))
 | [],_=>a9.nil
 | i::p,hp=>by have hi:=hp i Pk;obtain⟨d,e1,e2⟩:=h.get (i:=i) (x:=xs[i]) (by simp[hi]);refine a9.cons ?_ (a9.map h λj hj=>hp j (Ph _ hj));dsimp only;rw[show xs.getD i .aT=xs[i] by simp[hi],show ds.getD i (.int 0)=d by simp[e1]];exact e2
theorem qa {xs:List V} {us:List Value} (h:au xs us):∀{p:List Nat},(∀i∈p,i < xs.length)->au (p.map λi=>xs.getD i .aT) (p.map λi=>us.getD i .none)
 | [],_=> .nil
 | i::p,hp=>by have hi:=hp i Pk;obtain⟨u,e1,e2⟩:=h.get (i:=i) (x:=xs[i]) (by simp[hi]);refine .cons ?_ (qa h λj hj=>hp j (Ph _ hj));dsimp only;rw[show xs.getD i .aT=xs[i] by simp[hi],show us.getD i .none=u by simp[e1]];exact e2
theorem fU {α:Type} (l:List α) (d:α):(List.range l.length).map (λi=>l.getD i d)=l:=by
 refine List.ext_getElem (by simp) λi h1 h2=>?_
 simp at h1;simp[h1]
end Mx
end
section
namespace L2
open PySem PySem.Spec PyProof.Rows
noncomputable def mW (env:Env):List (Str×NameKind)->List (Str×Addr)->List (Str×Addr)
 | [],cs=>cs
 | (n,k)::r,cs=>mW env r (if k== .free then(n,(env.cells.lookup n).getD 0)::cs else cs)
noncomputable def fy (scope:Scope) (env:Env):List (Str×Addr):=mW env scope.names []
theorem kl {env:Env}:∀(l:List (Str×NameKind)) (cs:List (Str×Addr)),(∀y∈l,y.2= .free->∃c,env.cells.lookup y.1=some c)->
  (forIn l cs (λx r=>do
   if x.2==NameKind.free then do let a<-cellOf env x.1;pure (ForInStep.yield ((x.1,a)::r)) else pure (ForInStep.yield r)):Sem (List (Str×Addr)))=pure (mW env l cs)
 | [],cs,_=>rfl
 | (n,k)::r,cs,h=>by
  rw[List.forIn_cons];have ih:=λcs=>kl r cs λy hy=>h y (Ph _ hy)
  cases hk:(k==NameKind.free) with
  | false=>simp only[hk,Bool.false_eq_true,if_false,mW,pure_bind];exact ih cs
  | true=>
   obtain⟨c,hc⟩:=h (n,k) Pk (by simpa using hk);have nq:env.cells.lookup n=some c:=hc;have e:cellOf env n=pure c:=by unfold cellOf;rw[nq]
   simp only[hk,if_true,mW,e,pure_bind,nq,Option.getD_some];exact ih _
theorem gE {scope:Scope} {env:Env} (h:∀y∈scope.names,y.2= .free->∃c,env.cells.lookup y.1=some c):closureFor scope env=pure (fy scope env):=by have q:=kl (env:=env) scope.names [] h;unfold closureFor fy;rw[<-q];simp only[bind_pure]
theorem jk {env:Env} {x:Str} {c:Addr}:∀(l:List (Str×NameKind)) (cs:List (Str×Addr)),(∀y∈l,y.2= .free->∃c,env.cells.lookup y.1=some c)->
  (∀c,cs.lookup x=some c->env.cells.lookup x=some c)->(mW env l cs).lookup x=some c->env.cells.lookup x=some c
 | [],cs,_,h2,h=>h2 c h
 | (n,k)::r,cs,h1,h2,h=>by
  refine jk r _ (λy hy=>h1 y (Ph _ hy)) (λc' nq=>?_) h;by_cases hk:(k==NameKind.free)=true
  ·rw[if_pos hk] at nq;rw[PK] at nq;by_cases hx:(x==n)=true
   ·rw[hx] at nq;have wZ:x=n:=by simpa using hx
    subst wZ;obtain⟨c₁,e⟩:=h1 (x,k) Pk (by simpa using hk);have e':env.cells.lookup x=some c₁:=e;rw[e'] at nq ⊢;simpa using nq
   ·rw[Bool.not_eq_true] at hx;rw[hx] at nq;exact h2 c' nq
  ·rw[if_neg hk] at nq;exact h2 c' nq
theorem j9 {env:Env} {x:Str}:∀(l:List (Str×NameKind)) (cs:List (Str×Addr)),(((x,NameKind.free)∈l)\/∃c,cs.lookup x=some c)->∃c,(mW env l cs).lookup x=some c
 | [],cs,h=>by
  rcases h with h | h
  ·cases h
  ·exact h
 | (n,k)::r,cs,h=>by
  refine j9 r _ ?_;by_cases hk:(k==NameKind.free)=true
  ·rw[if_pos hk];by_cases hx:(x==n)=true
   ·exact .inr ⟨_,by rw[PK,hx]⟩
   ·rw[Bool.not_eq_true] at hx;rcases h with h | h
    ·rcases Pq.mp h with e | h
     ·injection e with e1 e2;subst e1;simp at hx
     ·exact .inl h
    ·exact .inr (by obtain⟨c,e⟩:=h;exact⟨c,by rw[PK,hx];exact e⟩)
  ·rw[if_neg hk];rcases h with h | h
   ·rcases Pq.mp h with e | h
    ·injection e with e1 e2;subst e2;exact absurd rfl hk
    ·exact .inl h
   ·exact .inr h
theorem aY {env:Env} {x:Str}:∀{names:List (Str×NameKind)} {k:NameKind},names.lookup x=some k->
  (names.map λ(n,k)=>if (k==NameKind.free&&env.scope.kind== .function&&env.kindOf n==some .cell) then(n,NameKind.cell) else(n,k)).lookup x=
   some (if (k==NameKind.free&&env.scope.kind== .function&&env.kindOf x==some .cell) then NameKind.cell else k)
 | [],_,h=>by simp at h
 | (n,k')::r,k,h=>by
  have ih:=@aY env x r k;show List.lookup x ((if (k'==NameKind.free&&env.scope.kind== .function&&env.kindOf n==some .cell)=true then(n,NameKind.cell) else(n,k'))::_)=_;cases hx:x==n with
  | true=>
   have wZ:x=n:=by simpa using hx
   subst wZ;simp only[PK,hx] at h;cases h;by_cases hc:(k'==NameKind.free&&env.scope.kind== .function&&env.kindOf x==some .cell)=true
   ·simp only[hc,if_true,PK,hx]
   ·rw[if_neg hc,if_neg hc];simp only[PK,hx]
  | false=>
   simp only[PK,hx] at h;by_cases hc:(k'==NameKind.free&&env.scope.kind== .function&&env.kindOf n==some .cell)=true
   ·rw[if_pos hc];simp only[PK,hx];exact ih h
   ·rw[if_neg hc];simp only[PK,hx];exact ih h
theorem bU {env:Env} {x:Str}:∀{names:List (Str×NameKind)},names.lookup x=none->
  (names.map λ(n,k)=>if (k==NameKind.free&&env.scope.kind== .function&&env.kindOf n==some .cell) then(n,NameKind.cell) else(n,k)).lookup x=none
 | [],h=>rfl
 | (n,k')::r,h=>by
  show List.lookup x ((if (k'==NameKind.free&&env.scope.kind== .function&&env.kindOf n==some .cell)=true then(n,NameKind.cell) else(n,k'))::_)=_;cases hx:x==n with
  | true=>simp only[PK,hx] at h;cases h
  | false=>
   simp only[PK,hx] at h;by_cases hc:(k'==NameKind.free&&env.scope.kind== .function&&env.kindOf n==some .cell)=true
   ·rw[if_pos hc];simp only[PK,hx];exact bU h
   ·rw[if_neg hc];simp only[PK,hx];exact bU h
noncomputable def cY (cap:List (Option Nat)) (σ:St):St:=cap.map λo=>o.bind λi=>(σ[i]?).join
noncomputable def A5 (X:Cx) (ifs:List Expr) (t:TT):Prop:=
 ∀(pins:List (Addr×Obj)) (s:Shared) (σ:St) (H:Hp) (Q:Bool->Hp->Prop),Inv X pins σ H s->t σ H Q->
  wpAny (model X.prog X.w) X.A (forIn ifs true λc r=>if r=true then do let ok<-isTrue c X.env (eval c X.env);pure (ForInStep.yield ok) else pure (ForInStep.yield r)) (TP X pins σ Q) X.xe s
noncomputable def LA:TT:=λ_ H Q=>Q true H
theorem AG {X:Cx}:A5 X [] LA:=λ_ _ _ H _ I h=>wpAny_tests_nil ⟨H,I,h⟩
theorem AH {X:Cx} {c:Expr} {t:TT} (h:PT X c t):A5 X [c] t:=λpins s σ H Q I hw=>wpAny_tests_one (h pins s σ H Q I hw)
noncomputable def E0 (J:It) (g:TG) (tt:TT) (te:TE) (σ0:St) (D:Addr) (F:Hp->Prop) (H1:Hp):Prop:=
 ∃W:Nat->Nat->List V->Hp->Prop,(∃m,W 0 m [] (upd H1 D (.lst [])))/\∀i m acc H,W i m acc H->
  (J.stop i H/\F H)\/(J.go i H/\∀x H',J.yld i H x H'->g x σ0 H' λσ2 H2=>tt σ2 H2 λb H3=>if b=true then te σ2 H3 λv H4=>∃gv,H4 D=some (.lst gv)/\gv.length < sizeLine/\
   ∃m',m' < m/\W (i + 1) m' (gv++[v]) (upd H4 D (.lst (gv++[v]))) else∃m',m' < m/\W (i + 1) m' acc H3)
end L2
end
section
namespace Mx
open PySem PySem.W PySem.Spec PyProof.Rows L2 PySem.SeqAt
section
variable {X:Cx}
noncomputable def K2 (K:PySem.W.Frag):List V->Hp->VK->Prop:=λxs H Q=>∃x T t b,xs=[x,.ty T]/\iy K H x t/\PySem.W.kitOne K t (.type T)=some b/\Q (.bl b) H
theorem vT:cX X (.builtin "isinstance") (K2 X.K):=by intro pins s σ H xs us Q I r h;obtain⟨x,T,t,b,rfl,ty,hk,q⟩:=h;obtain⟨u,v,rfl,r1,r2⟩:=r.two;cases r2;exact uK I r1 ty hk λtk=>⟨.bl b,H,I.tok tk,rfl,q⟩
end
end Mx
end
section
namespace Mx
open PySem PySem.W PySem.Spec PyProof.Rows L2
structure vA (z TI TO i1 i2:Addr):Prop where
 TIz:TI≠z
 TOz:TO≠z
 i1z:i1≠z
 i2z:i2≠z
 TITO:TI≠TO
 TIi1:TI≠i1
 TIi2:TI≠i2
 TOi1:TO≠i1
 TOi2:TO≠i2
 i12:i1≠i2
theorem dG {H:Hp} {p:Addr} (h:H p=none) (o:HO):bT H (upd H p o):=λb u q=>by rw[aI (bc q h)];exact q
theorem mC {H H':Hp} (h:bT H H'):za H H':=λa xs q=>h a _ q
theorem yc {H1 H:Hp} {D:Addr} {o:HO} (h:bT H1 H) (hD:H1 D=none):bT H1 (upd H D o):=λb u q=>by rw[aI (bc q hD)];exact h b u q
theorem k8 {H:Hp} {D:Addr} {xs ys:List V} (hD:H D=some (.lst xs)):za H (upd H D (.lst ys)):=λb zs q=>by
 by_cases e:b=D
 ·subst e;rw[hD] at q;cases q
 ·rw[aI e];exact q
theorem yJ {α:Type} {x y:α} {r:List α}:lQ (x::y::r) 1=some y:=jF (j:=1) rfl
theorem at2 {α:Type} {x y z:α} {r:List α}:lQ (x::y::z::r) 2=some z:=jF (j:=2) rfl
section
variable {K:PySem.W.Frag} {g:TG} {tt:TT} {te:TE} {σ0:L2.St} {D:Addr} {F:Hp->Prop} {H1:Hp}
theorem oH {J:It} {n:Nat} (hD:H1 D=none) (E:Nat->List Mx.D) (hE:E 0=[]) (hn:n < sizeLine) (go:∀i H,i < n->bT H1 H->J.go i H) (stop:∀H,bT H1 H->J.stop n H)
  (hs:∀i x H H',i < n->bT H1 H->J.yld i H x H'->bT H H'/\∀(N:V->Hp->Prop) (M:Hp->Prop),(∀v H4 e,bT H' H4->DV H4 v e->E (i + 1)=E i++[e]->N v H4)->(∀H3,bT H' H3->E (i + 1)=E i->M H3)->
   g x σ0 H' λσ2 H2=>tt σ2 H2 λb H3=>if b=true then te σ2 H3 N else M H3)
  (hd:∀H acc,bT H1 H->H D=some (.lst acc)->a9 H acc (E n)->F H):E0 J g tt te σ0 D F H1:=by
 refine⟨λi m acc H=>m=n - i/\i<=n/\bT H1 H/\H D=some (.lst acc)/\a9 H acc (E i)/\acc.length<=i,⟨n,by simp,Nat.zero_le _,dG hD _,aP,by rw[hE];exact a9.nil,Pj _⟩,?_⟩;rintro i m acc H ⟨rfl,hi,hS,J3,jo,sI⟩;by_cases cJ:i < n
 ·refine .inr ⟨go i H cJ hS,λx H' y=>?_⟩;obtain⟨s1,st⟩:=hs i x H H' cJ hS y;refine st _ _ (λv H4 e s4 he e4=>?_) (λH3 s3 e3=>?_)
  ·have Lh:=s1.trans s4;have FP:=Lh _ _ J3;refine⟨acc,FP,by lia,n - (i + 1),by lia,rfl,cJ,yc (hS.trans Lh) hD,aP,?_,by simp;lia⟩;rw[e4];exact(a9.append (jo.mono (mC Lh)) (a9.cons he a9.nil)).mono (k8 FP)
  ·have Lg:=s1.trans s3;exact⟨n - (i + 1),by lia,rfl,cJ,hS.trans Lg,Lg _ _ J3,by rw[e3];exact jo.mono (mC Lg),by lia⟩
 ·have e:i=n:=by lia
  subst e;exact .inl ⟨stop H hS,hd H acc hS J3 jo⟩
end
noncomputable def bW:Bool->Heap->Addr->Addr->Nat->Prop
 | false,h,i,l,k=>h.IsListIter i l k
 | true,h,i,l,k=>h.IsTupleIter i l k
noncomputable def fI:Bool->Heap->Addr->Array Value->Prop
 | false,h,l,xs=>h.IsList l xs
 | true,h,l,xs=>h.IsTuple l xs
theorem bW.at:∀{b:Bool} {h h':Heap} {i l:Addr} {k:Nat},bW b h i l k->(∀o,h.get? i=some o->h'.get? i=some o)->bW b h' i l k
 | false,_,_,_,_,_,x,e=>Heap.IsListIter.at x e
 | true,_,_,_,_,_,x,e=>Heap.IsTupleIter.at x e
theorem fI.at:∀{b:Bool} {h h':Heap} {l:Addr} {xs:Array Value},fI b h l xs->(∀o,h.get? l=some o->h'.get? l=some o)->fI b h' l xs
 | false,_,_,_,_,x,e=>let ⟨o,ho,r⟩:=x;⟨o,e o ho,r⟩
 | true,_,_,_,_,x,e=>let ⟨o,ho,r⟩:=x;⟨o,e o ho,r⟩
theorem bW.obj:∀{b:Bool} {h:Heap} {i l:Addr} {k:Nat},bW b h i l k->∃o,h.get? i=some o/\∀v,o.data≠ .cell v
 | false,_,_,_,_,x=>by obtain⟨o,e,c,d⟩:=x;exact⟨o,e,λv q=>by rw[d] at q;cases q⟩
 | true,_,_,_,_,x=>by obtain⟨o,e,c,d⟩:=x;exact⟨o,e,λv q=>by rw[d] at q;cases q⟩
section
variable {prog:Program} {w:World} {A:Around} {E:Value->Shared->Prop} {s:Shared}
theorem rA {it t:Addr} {i:Nat} {items:Array Value} {x:Value} {Q:Value->Shared->Prop} (hit:s.heap.IsTupleIter it t i) (ht:s.heap.IsTuple t items) (hx:items[i]?=some x)
  (hQ:∀h',h'.IsTupleIter it t (i + 1)->Heap.SameBut it s.heap h'->Q x {s with heap:=h'}):wpAny (model prog w) A (Builtin.SmallTypes.nextOf (.ref it)) Q E s:=by
 obtain⟨o,ho,hc,hd⟩:=id hit;obtain⟨ol,Kn,_,nl,IH⟩:=ht;unfold Builtin.SmallTypes.nextOf;refine O9 (wpAny_callSpecial?_slot (name:=Str.ofString "__next__") hit.typeIs F.slot_tuple_iterator_next (wpAny_call_entry F.slot_tuple_iterator_next hit.typeIs F.entry_tuple_iterator_next (show wpAny _ _ (field (.ref it) 0 >>=_) _ _ s from O9 (wpAny_field ho hd (x:= .ref t) rfl ?_)) (F.args_tuple_iterator_next_1 _)));show wpAny _ _ (if (Value.ref t==Value.none)=true then _ else _) _ _ s;rw[if_neg (show¬((Value.ref t==Value.none)=true) from Bool.false_ne_true)];refine(show wpAny _ _ (field (.ref it) 1 >>=_) _ _ s from O9 (wpAny_field ho hd (x:= .int i 0) rfl (show wpAny _ _ (seqItems? (.ref t) >>=_) _ _ s from O9 (wpAny_seqItems Kn IH ?_))));simp only[Int.toNat_natCast,hx];refine O9 (wpAny_setField ho hd (by simp) (Pc ⟨x,rfl,Pc (hQ _ ⟨_,Heap.get?_update_self _ ho (Obj.isFreed_of_fields (Obj.data_mapFields hd _)),(Obj.cls_mapFields ..).trans hc,?_⟩ (Heap.SameBut.update ..))⟩));rw[Obj.data_mapFields hd];simp[rawInt]
theorem vb {it t:Addr} {i:Nat} {items:Array Value} {Q:Value->Shared->Prop} (hh:A.handled=none) (hit:s.heap.IsTupleIter it t i) (ht:s.heap.IsTuple t items) (hx:items[i]?=none)
  (hE:∀h' e,Heap.ExtBut it s.heap h'->(∃o,h'.get? e=some o/\o.cls= .type "StopIteration")->E (.ref e) {s with heap:=h'}):wpAny (model prog w) A (Builtin.SmallTypes.nextOf (.ref it)) Q E s:=by
 obtain⟨o,ho,hc,hd⟩:=id hit;obtain⟨ol,Kn,_,nl,IH⟩:=ht;unfold Builtin.SmallTypes.nextOf;refine O9 (wpAny_callSpecial?_slot (name:=Str.ofString "__next__") hit.typeIs F.slot_tuple_iterator_next (wpAny_call_entry F.slot_tuple_iterator_next hit.typeIs F.entry_tuple_iterator_next (show wpAny _ _ (field (.ref it) 0 >>=_) _ _ s from O9 (wpAny_field ho hd (x:= .ref t) rfl ?_)) (F.args_tuple_iterator_next_1 _)));show wpAny _ _ (if (Value.ref t==Value.none)=true then _ else _) _ _ s;rw[if_neg (show¬((Value.ref t==Value.none)=true) from Bool.false_ne_true)];refine(show wpAny _ _ (field (.ref it) 1 >>=_) _ _ s from O9 (wpAny_field ho hd (x:= .int i 0) rfl (show wpAny _ _ (seqItems? (.ref t) >>=_) _ _ s from O9 (wpAny_seqItems Kn IH ?_))));simp only[Int.toNat_natCast,hx];refine O9 (wpAny_rule (O9 (wpAny_setField ho hd (by simp) (show wpAny _ _ (newExc (.type "StopIteration") [] >>=_) _ _ _ from O9 ?_))));simp only[newExc,newTuple];refine O9 (wpAny_newObj_type (O9 (m:=firstArgMember _ _) (wpAny_of_eq (a:=Value.none) (by first | rfl | (simp only[firstArgMember];rfl)) (wpAny_newObj_type ?_ (by size_fits)))) (by size_fits));simp only[raiseNew];refine O9 (wpAny_handled ?_)
 first | rw[show A.in1.handled=none from hh] | rw[hh]
 exact O9 (Pc (wpAny_throw (hE _ _ (((Heap.SameBut.update ..).extBut.push _).push _) ⟨_,Pl _ rfl,rfl⟩)))
theorem gS {b:Bool} {it l:Addr} {i:Nat} {items:Array Value} {x:Value} {Q:Value->Shared->Prop} (hit:bW b s.heap it l i) (hl:fI b s.heap l items) (hx:items[i]?=some x)
  (hQ:∀h',bW b h' it l (i + 1)->Heap.SameBut it s.heap h'->Q x {s with heap:=h'}):wpAny (model prog w) A (Builtin.SmallTypes.nextOf (.ref it)) Q E s:=by
 cases b with
 | false=>exact wpAny_nextOf_list_item hit hl hx hQ
 | true=>exact rA hit hl hx hQ
theorem mf {b:Bool} {it l:Addr} {i:Nat} {items:Array Value} {Q:Value->Shared->Prop} (hh:A.handled=none) (hit:bW b s.heap it l i) (hl:fI b s.heap l items) (hx:items[i]?=none)
  (hE:∀h' e,Heap.ExtBut it s.heap h'->(∃o,h'.get? e=some o/\o.cls= .type "StopIteration")->E (.ref e) {s with heap:=h'}):wpAny (model prog w) A (Builtin.SmallTypes.nextOf (.ref it)) Q E s:=by
 cases b with
 | false=>exact wpAny_nextOf_list_end hh hit hl hx hE
 | true=>exact vb hh hit hl hx hE
end
structure i0 (z TO i1 i2 l:Addr):Prop where
 z:l≠z
 o:l≠TO
 a:l≠i1
 b:l≠i2
section
variable {prog:Program} {w:World} {A:Around} {E:Value->Shared->Prop} {s:Shared}
theorem vi {b1 b2:Bool} {z TI TO i1 i2 l1 l2:Addr} {k1 k2:Nat} {xs ys:Array Value} {x y a b:Value} {Q:Option Value->Shared->Prop} (D:vA z TI TO i1 i2) (O1:i0 z TO i1 i2 l1) (O2:i0 z TO i1 i2 l2)
  (hz:IsZip s.heap z TI TO .none) (J8:IsPair s.heap TI (.ref i1) (.ref i2)) (Ka:IsPair s.heap TO a b) (h1:bW b1 s.heap i1 l1 k1) (h2:bW b2 s.heap i2 l2 k2) (jC:fI b1 s.heap l1 xs) (eF:fI b2 s.heap l2 ys) (hx:xs[k1]?=some x) (hy:ys[k2]?=some y)
  (hQ:∀h',IsZip h' z TI TO (rawInt s.heap.objs.size)->IsPair h' TO x y->bW b1 h' i1 l1 (k1 + 1)->bW b2 h' i2 l2 (k2 + 1)->IsPair h' s.heap.objs.size x y->
   (∀c o,c≠z->c≠TO->c≠i1->c≠i2->s.heap.get? c=some o->h'.get? c=some o)->Q (some (.ref s.heap.objs.size)) {s with heap:=h'}):wpAny (model prog w) A (pyNext (.ref z)) Q E s:=by
 have hT:s.TypeIs (.ref z) "zip":=⟨_,hz,rfl⟩;unfold pyNext;refine O9 (wpAny_attempt (wpAny_callSpecial?_slot (name:=Str.ofString "__next__") hT F.slot_zip_next (wpAny_call_entry F.slot_zip_next hT F.entry_zip_next ?_ (F.args_zip_next_1 _))));refine(show wpAny _ _ (field (.ref z) 2 >>=_) _ _ _ from O9 (wpAny_field hz rfl (x:= .bool false) rfl (show wpAny _ _ (field (.ref z) 3 >>=_) _ _ _ from O9 (wpAny_field hz rfl (x:= .ref TI) rfl (O9 (wpAny_seqItems J8 rfl (show wpAny _ _ (Builtin.SmallTypes.ownedTupleIsFree (.ref z) >>=_) _ _ _ from O9 ?_)))))));unfold Builtin.SmallTypes.ownedTupleIsFree;refine O9 (wpAny_field hz rfl (x:= .none) rfl (Pc ?_));simp only[if_true];refine O9 (wpAny_rule (O9 (wpAny_field hz rfl (x:= .ref TO) rfl (O9 (PV hz (by simp) λg1 z1 e1=>O9 ?_)))))
 replace z1:IsZip g1 z TI TO .ellipsis:=z1
 simp only[List.zipIdx_cons,List.zipIdx_nil,List.forIn_cons,List.forIn_nil];refine O9 (O9 (wpAny_onRaise (show wpAny _ _ (Builtin.SmallTypes.nextOf (.ref i1) >>=_) _ _ _ from O9 (gS (h1.at λo q=>e1.extBut _ o D.i1z q) (jC.at λo q=>e1.extBut _ o O1.z q) hx λg2 j1 e2=>Pc ?_))));have t2:IsPair g2 TO a b:=e2.extBut _ _ D.TOi1 (e1.extBut _ _ D.TOz Ka);refine O9 (wpAny_seqItems t2 rfl (O9 (wpAny_updateSeq_pair t2 λg3 t3 e3=>O9 (wpAny_letGo (Pc ?_)))))
 replace t3:IsPair g3 TO x b:=t3
 refine O9 (O9 (wpAny_onRaise (show wpAny _ _ (Builtin.SmallTypes.nextOf (.ref i2) >>=_) _ _ _ from O9 (gS (h2.at λo q=>e3.extBut _ o D.TOi2.symm (e2.extBut _ o D.i12.symm (e1.extBut _ o D.i2z q))) (eF.at λo q=>e3.extBut _ o O2.o (e2.extBut _ o O2.a (e1.extBut _ o O2.z q))) hy λg4 j2 e4=>Pc ?_))));have t4:IsPair g4 TO x b:=e4.extBut _ _ D.TOi2 t3;refine O9 (wpAny_seqItems t4 rfl (O9 (wpAny_updateSeq_pair t4 λg5 t5 e5=>O9 (wpAny_letGo (Pc (Pc ?_))))))
 replace t5:IsPair g5 TO x y:=t5
 refine O9 (wpAny_seqItems t5 rfl (O9 (wpAny_newTuple ?_)));have sz:g5.objs.size=s.heap.objs.size:=by rw[e5.1,e4.1,e3.1,e2.1,e1.1]
 have z5:IsZip g5 z TI TO .ellipsis:=e5.extBut _ _ D.TOz.symm (e4.extBut _ _ D.i2z.symm (e3.extBut _ _ D.TOz.symm (e2.extBut _ _ D.i1z.symm z1)));have old:∀c o,c≠z->c≠TO->c≠i1->c≠i2->s.heap.get? c=some o->g5.get? c=some o:=λc o c1 c2 c3 c4 q=>e5.extBut _ _ c2 (e4.extBut _ _ c4 (e3.extBut _ _ c2 (e2.extBut _ _ c3 (e1.extBut _ _ c1 q))))
 have n1:bW b1 g5 i1 l1 (k1 + 1):=j1.at λo q=>e5.extBut _ o D.TOi1.symm (e4.extBut _ o D.i12 (e3.extBut _ o D.TOi1.symm q))
 have n2:bW b2 g5 i2 l2 (k2 + 1):=j2.at λo q=>e5.extBut _ o D.TOi2.symm q
 have MO:z < g5.objs.size:=Po z5;refine(show wpAny _ _ (Builtin.SmallTypes.ownedTupleHandOut (.ref z) (.ref g5.objs.size) >>=_) _ _ _ from O9 ?_);unfold Builtin.SmallTypes.ownedTupleHandOut;have z6:IsZip (g5.push {cls:= .type "tuple",data:= .seq #[x,y]}) z TI TO .ellipsis:=Pb _ z5;refine O9 (PV z6 (by simp) λg7 z7 e7=>?_)
 replace z7:IsZip g7 z TI TO (rawInt g5.objs.size):=z7
 refine PV z7 (by simp) λg8 z8 e8=>?_
 replace z8:IsZip g8 z TI TO (rawInt g5.objs.size):=z8
 have up:∀c o,c≠z->g5.get? c=some o->g8.get? c=some o:=λc o c1 q=>e8.extBut _ _ c1 (e7.extBut _ _ c1 (Pb _ q))
 have t8:IsPair g8 g5.objs.size x y:=e8.extBut _ _ (Nat.ne_of_gt MO) (e7.extBut _ _ (Nat.ne_of_gt MO) (Pl _ rfl));rw[sz] at z8 t8;refine Pc ⟨_,rfl,Pc ?_⟩;show Q (some (.ref g5.objs.size)) _;rw[sz];exact hQ g8 z8 (up _ _ D.TOz t5) (n1.at λo q=>up _ o D.i1z q) (n2.at λo q=>up _ o D.i2z q) t8 λc o c1 c2 c3 c4 q=>up c o c1 (old c o c1 c2 c3 c4 q)
theorem yG {b1 b2:Bool} {z TI TO i1 i2 l1 l2:Addr} {k1 k2:Nat} {xs ys:Array Value} {a b:Value} {Q:Option Value->Shared->Prop} (hh:A.handled=none) (D:vA z TI TO i1 i2) (O1:i0 z TO i1 i2 l1) (O2:i0 z TO i1 i2 l2)
  (hz:IsZip s.heap z TI TO .none) (J8:IsPair s.heap TI (.ref i1) (.ref i2)) (Ka:IsPair s.heap TO a b) (h1:bW b1 s.heap i1 l1 k1) (h2:bW b2 s.heap i2 l2 k2) (jC:fI b1 s.heap l1 xs) (eF:fI b2 s.heap l2 ys) (F6:xs[k1]?=none\/ys[k2]?=none)
  (hQ:∀h',(∀c o,c≠z->c≠TO->c≠i1->c≠i2->s.heap.get? c=some o->h'.get? c=some o)->Q none {s with heap:=h'}):wpAny (model prog w) A (pyNext (.ref z)) Q E s:=by
 have hT:s.TypeIs (.ref z) "zip":=⟨_,hz,rfl⟩;unfold pyNext;refine O9 (wpAny_attempt (wpAny_callSpecial?_slot (name:=Str.ofString "__next__") hT F.slot_zip_next (wpAny_call_entry F.slot_zip_next hT F.entry_zip_next ?_ (F.args_zip_next_1 _))));have stop:∀(h':Heap) (e:Addr),(∀c o,c≠z->c≠TO->c≠i1->c≠i2->s.heap.get? c=some o->h'.get? c=some o)->(∃o,h'.get? e=some o/\o.cls= .type "StopIteration")->wpAny (model prog w) A (isInstance (.ref e) (.type "StopIteration")) (λr s'=>r=true/\Q none s') E {s with heap:=h'}:=λh' e kk he=>by obtain⟨o,ho,hc⟩:=he;exact wpAny_isInstance (T:="StopIteration") (b:=true) ⟨o,ho,hc⟩ isSubtype_stop ⟨rfl,hQ _ kk⟩
 refine(show wpAny _ _ (field (.ref z) 2 >>=_) _ _ _ from O9 (wpAny_field hz rfl (x:= .bool false) rfl (show wpAny _ _ (field (.ref z) 3 >>=_) _ _ _ from O9 (wpAny_field hz rfl (x:= .ref TI) rfl (O9 (wpAny_seqItems J8 rfl (show wpAny _ _ (Builtin.SmallTypes.ownedTupleIsFree (.ref z) >>=_) _ _ _ from O9 ?_)))))));unfold Builtin.SmallTypes.ownedTupleIsFree;refine O9 (wpAny_field hz rfl (x:= .none) rfl (Pc ?_));simp only[if_true];refine O9 (wpAny_rule (O9 (wpAny_field hz rfl (x:= .ref TO) rfl (O9 (PV hz (by simp) λg1 z1 e1=>O9 ?_)))))
 replace z1:IsZip g1 z TI TO .ellipsis:=z1
 simp only[List.zipIdx_cons,List.zipIdx_nil,List.forIn_cons,List.forIn_nil];refine O9 (O9 (wpAny_onRaise ?_));show wpAny _ _ (Builtin.SmallTypes.nextOf (.ref i1) >>=_) _ _ _;cases hx:xs[k1]? with
 | none=>
  refine O9 (mf hh (h1.at λo q=>e1.extBut _ o D.i1z q) (jC.at λo q=>e1.extBut _ o O1.z q) hx λg2 e e2 he=>?_);obtain⟨oe,CI,F1⟩:=he;have z2:IsZip g2 z TI TO .ellipsis:=e2 _ _ D.i1z.symm z1;have Kf:e≠z:=λx=>by subst x;rw[z2] at CI;cases CI;simp at F1
  refine PV z2 (by simp) λg3 _ e3=>?_
  refine O9 (wpAny_mono (stop g3 e (λc o c1 _ c3 _ x=>e3.extBut _ _ c1 (e2 _ _ c3 (e1.extBut _ _ c1 x))) ⟨oe,e3.extBut _ _ Kf CI,F1⟩) (λr s' q=>?_) λ_ _ q=>q);obtain⟨rfl,q⟩:=q;exact Pc q
 | some x=>
  have hy:ys[k2]?=none:=by rcases F6 with h | h;rw[hx] at h;cases h;exact h
  refine O9 (gS (h1.at λo q=>e1.extBut _ o D.i1z q) (jC.at λo q=>e1.extBut _ o O1.z q) hx λg2 j1 e2=>Pc ?_);have t2:IsPair g2 TO a b:=e2.extBut _ _ D.TOi1 (e1.extBut _ _ D.TOz Ka);refine O9 (wpAny_seqItems t2 rfl (O9 (wpAny_updateSeq_pair t2 λg3 t3 e3=>O9 (wpAny_letGo (Pc ?_)))));refine O9 (O9 (wpAny_onRaise (show wpAny _ _ (Builtin.SmallTypes.nextOf (.ref i2) >>=_) _ _ _ from O9 (mf hh (h2.at λo q=>e3.extBut _ o D.TOi2.symm (e2.extBut _ o D.i12.symm (e1.extBut _ o D.i2z q))) (eF.at λo q=>e3.extBut _ o O2.o (e2.extBut _ o O2.a (e1.extBut _ o O2.z q))) hy λg4 e e4 he=>?_))));obtain⟨oe,CI,F1⟩:=he;have z4:IsZip g4 z TI TO .ellipsis:=e4 _ _ D.i2z.symm (e3.extBut _ _ D.TOz.symm (e2.extBut _ _ D.i1z.symm z1));have Kf:e≠z:=λx=>by subst x;rw[z4] at CI;cases CI;simp at F1
  refine PV z4 (by simp) λg5 _ e5=>?_
  refine O9 (wpAny_mono (stop g5 e (λc o c1 c2 c3 c4 x=>e5.extBut _ _ c1 (e4 _ _ c4 (e3.extBut _ _ c2 (e2.extBut _ _ c3 (e1.extBut _ _ c1 x))))) ⟨oe,e5.extBut _ _ Kf CI,F1⟩) (λr s' q=>?_) λ_ _ q=>q);obtain⟨rfl,q⟩:=q;exact Pc q
end
noncomputable def o7:Bool->Addr->Obj
 | false,l=>{cls:= .type "list_iterator",data:= .fields #[.ref l,.int 0 0]}
 | true,l=>{cls:= .type "tuple_iterator",data:= .fields #[.ref l,.int 0 0]}
theorem o8:∀{b:Bool} {h:Heap} {i l:Addr},h.get? i=some (o7 b l)->bW b h i l 0
 | false,_,_,_,e=>⟨_,e,rfl,rfl⟩
 | true,_,_,_,e=>⟨_,e,rfl,rfl⟩
theorem me (b:Bool) (l:Addr):(o7 b l).isFreed=false:=by cases b <;> rfl
noncomputable abbrev Jg (h:Heap) (b1:Bool) (l1:Addr):Heap:=h.push (o7 b1 l1)
noncomputable abbrev Jh (h:Heap) (b1 b2:Bool) (l1 l2:Addr):Heap:=(Jg h b1 l1).push (o7 b2 l2)
noncomputable abbrev Ji (h:Heap) (b1 b2:Bool) (l1 l2:Addr):Heap:=(Jh h b1 b2 l1 l2).push {cls:= .type "tuple",data:= .seq #[.ref h.objs.size,.ref (Jg h b1 l1).objs.size]}
noncomputable abbrev Jj (h:Heap) (b1 b2:Bool) (l1 l2:Addr):Heap:=(Ji h b1 b2 l1 l2).push {cls:= .type "tuple",data:= .seq #[.none,.none]}
noncomputable abbrev EZ (h:Heap) (b1 b2:Bool) (l1 l2:Addr):Heap:=(Jj h b1 b2 l1 l2).push {cls:= .type "zip",data:= .fields #[.none,.bool false,.bool false,.ref (Jh h b1 b2 l1 l2).objs.size,.ref (Ji h b1 b2 l1 l2).objs.size]}
theorem fI.push {b:Bool} {h:Heap} {l:Addr} {xs:Array Value} (x:fI b h l xs) (o:Obj):fI b (h.push o) l xs:=x.at λ_ e=>Pb _ e
theorem yH (b1 b2:Bool) (l1 l2:Addr) (xs ys:Array Value):
  Meets (Builtin.«zip.__new__» ⟨[.type "zip",.ref l1,.ref l2],[]⟩) (λ_ R s=>fI b1 s.heap l1 xs/\fI b2 s.heap l2 ys/\R (.ok (.ret (.ref (Jj s.heap b1 b2 l1 l2).objs.size))) {s with heap:=EZ s.heap b1 b2 l1 l2}):=
 .of_wp λprog w A R s h=>by
  obtain⟨hp,g,d,tk,os⟩:=s;obtain⟨jC,eF,h⟩:=h;have N9:=sub_zip;have IE:=eF.push (o7 b1 l1);cases b1 <;> cases b2
  ·have k1:Heap.IsList (Shared.heap ⟨hp,g,d,tk,os⟩) l1 xs:=jC;have k2:Heap.IsList (Shared.heap ⟨hp.push {cls:= .type "list_iterator",data:= .fields #[.ref l1,.int 0 0]},g,d,tk,os⟩) l2 ys:=IE
   wp_walk using wpAny_pyIter_list k1,wpAny_pyIter_list k2
   exact⟨_,rfl,h⟩
  ·have k1:Heap.IsList (Shared.heap ⟨hp,g,d,tk,os⟩) l1 xs:=jC;have k2:Heap.IsTuple (Shared.heap ⟨hp.push {cls:= .type "list_iterator",data:= .fields #[.ref l1,.int 0 0]},g,d,tk,os⟩) l2 ys:=IE
   wp_walk using wpAny_pyIter_list k1,wpAny_pyIter_tuple k2
   exact⟨_,rfl,h⟩
  ·have k1:Heap.IsTuple (Shared.heap ⟨hp,g,d,tk,os⟩) l1 xs:=jC;have k2:Heap.IsList (Shared.heap ⟨hp.push {cls:= .type "tuple_iterator",data:= .fields #[.ref l1,.int 0 0]},g,d,tk,os⟩) l2 ys:=IE
   wp_walk using wpAny_pyIter_tuple k1,wpAny_pyIter_list k2
   exact⟨_,rfl,h⟩
  ·have k1:Heap.IsTuple (Shared.heap ⟨hp,g,d,tk,os⟩) l1 xs:=jC;have k2:Heap.IsTuple (Shared.heap ⟨hp.push {cls:= .type "tuple_iterator",data:= .fields #[.ref l1,.int 0 0]},g,d,tk,os⟩) l2 ys:=IE
   wp_walk using wpAny_pyIter_tuple k1,wpAny_pyIter_tuple k2
   exact⟨_,rfl,h⟩
section
variable {prog:Program} {w:World} {A:Around} {E:Value->Shared->Prop} {s:Shared}
theorem uq {b1 b2:Bool} {l1 l2:Addr} {xs ys:Array Value} {Q:Value->Shared->Prop} (jC:fI b1 s.heap l1 xs) (eF:fI b2 s.heap l2 ys)
  (h:∀h',IsZip h' (s.heap.objs.size + 4) (s.heap.objs.size + 2) (s.heap.objs.size + 3) .none->IsPair h' (s.heap.objs.size + 2) (.ref s.heap.objs.size) (.ref (s.heap.objs.size + 1))->IsPair h' (s.heap.objs.size + 3) .none .none->
   bW b1 h' s.heap.objs.size l1 0->bW b2 h' (s.heap.objs.size + 1) l2 0->(∀c o,s.heap.get? c=some o->h'.get? c=some o)->Q (.ref (s.heap.objs.size + 4)) {s with heap:=h'}):wpAny (model prog w) A (call (.type "zip") [.ref l1,.ref l2]) Q E s:=by
 refine callType_new F.called_zip (by decide) (F.typeCall_zip_2 _ _) (F.newCall_zip_2 _ _) (λobj=>F.args_object_init_3 obj _ _) F.entry_zip_new (yH b1 b2 l1 l2 xs ys) ⟨jC,eF,?_⟩;have y1:(Jg s.heap b1 l1).objs.size=s.heap.objs.size + 1:=PP ..;have y2:(Jh s.heap b1 b2 l1 l2).objs.size=s.heap.objs.size + 2:=by rw[PP,y1]
 have y3:(Ji s.heap b1 b2 l1 l2).objs.size=s.heap.objs.size + 3:=by rw[PP,y2]
 have y4:(Jj s.heap b1 b2 l1 l2).objs.size=s.heap.objs.size + 4:=by rw[PP,y3]
 have g5:(EZ s.heap b1 b2 l1 l2).get? (Jj s.heap b1 b2 l1 l2).objs.size=some _:=Pl _ rfl;have g4:(EZ s.heap b1 b2 l1 l2).get? (Ji s.heap b1 b2 l1 l2).objs.size=some _:=Pb _ (Pl _ rfl);have g3:(EZ s.heap b1 b2 l1 l2).get? (Jh s.heap b1 b2 l1 l2).objs.size=some _:=Pb _ (Pb _ (Pl _ rfl));have g2:(EZ s.heap b1 b2 l1 l2).get? (Jg s.heap b1 l1).objs.size=some _:=Pb _ (Pb _ (Pb _ (Pl _ (me b2 l2))));have g1:(EZ s.heap b1 b2 l1 l2).get? s.heap.objs.size=some _:=Pb _ (Pb _ (Pb _ (Pb _ (Pl _ (me b1 l1)))));show _/\_;rw[y2,y3,y4] at g5;rw[y1,y2] at g3;rw[y3] at g4;rw[y1] at g2;rw[y4];exact⟨⟨_,g5,rfl⟩,h _ g5 g3 g4 (o8 g1) (o8 g2) λc o x=>Pb _ (Pb _ (Pb _ (Pb _ (Pb _ x))))⟩
end
noncomputable def qg:Bool->List V->HO
 | false,xs=> .lst xs
 | true,xs=> .tup xs
theorem sJ {b:Bool} {xs ys:List V} (h:qg b xs=qg b ys):xs=ys:=by
 cases b with
 | false=>injection h
 | true=>injection h
noncomputable def Jo (b1 b2:Bool) (l1 l2:Addr):It where
 go:=λi H=>∃xs ys x y,H l1=some (qg b1 xs)/\H l2=some (qg b2 ys)/\xs[i]?=some x/\ys[i]?=some y
 yld:=λi H v H'=>∃p x y,v= .ref p/\H p=none/\H'=upd H p (.tup [x,y])/\∀xs ys,H l1=some (qg b1 xs)->H l2=some (qg b2 ys)->xs[i]?=some x/\ys[i]?=some y
 stop:=λi H=>∃xs ys,H l1=some (qg b1 xs)/\H l2=some (qg b2 ys)/\(xs.length<=i\/ys.length<=i)
theorem gr {X:Cx} {pins:List (Addr×Obj)} {s:Shared} {σ:L2.St} {H:Hp} (I:Inv X pins σ H s) {b:Bool} {l:Addr} {xs:List V} (h:H l=some (qg b xs)):∃its:List Value,au xs its/\fI b s.heap l its.toArray:=by
 cases b with
 | false=>obtain⟨its,r,p,_⟩:=I.list (.inl (.inl h));exact⟨its,r,p.isList⟩
 | true=>obtain⟨its,r,p,_⟩:=I.tuple (.inl (.inl h));exact⟨its,r,p⟩
noncomputable def OC (b1 b2:Bool) (z TI TO i1 i2 l1 l2:Addr) (i:Nat) (h:Heap):Prop:=IsZip h z TI TO .none/\IsPair h TI (.ref i1) (.ref i2)/\(∃a b,IsPair h TO a b)/\bW b1 h i1 l1 i/\bW b2 h i2 l2 i
theorem ve {P:Program} {w:World} {K:PySem.W.Frag} {es:List Expr} {k:Nat} {tp:Pos} {b1 b2:Bool} {z TI TO i1 i2 l1 l2:Addr} (ap:vA z TI TO i1 i2):
  Turn P w K (.Tuple es k tp) (Jo b1 b2 l1 l2) [z,TI,TO,i1,i2] z (OC b1 b2 z TI TO i1 i2 l1 l2) where
 mem:=by simp
 obj:=λi h st b hb=>by
  obtain⟨s1,s2,⟨a,b',s3⟩,s4,s5⟩:=st;simp only[Pq,Pr,or_false] at hb;rcases hb with rfl | rfl | rfl | rfl | rfl
  ·exact⟨_,s1,λv q=>by cases q⟩
  ·exact⟨_,s2,λv q=>by cases q⟩
  ·exact⟨_,s3,λv q=>by cases q⟩
  ·exact s4.obj
  ·exact s5.obj
 keep:=λi h h' st kk=>by obtain⟨s1,s2,⟨a,b',s3⟩,s4,s5⟩:=st;exact⟨kk z (by simp) _ s1,kk TI (by simp) _ s2,⟨a,b',kk TO (by simp) _ s3⟩,s4.at λo e=>kk i1 (by simp) o e,s5.at λo e=>kk i2 (by simp) o e⟩
 item:=by
  intro X hP hw hK hc i pins s σ H E I hf st hg;subst hP hw hK;obtain⟨xs,ys,x,y,jC,eF,hx,hy⟩:=hg;obtain⟨s1,s2,⟨a,b',s3⟩,s4,s5⟩:=st;obtain⟨gA,r1,p1⟩:=gr I jC;obtain⟨aJ,r2,p2⟩:=gr I eF;obtain⟨u1,zO,Oq⟩:=r1.get hx;obtain⟨u2,Oa,Os⟩:=r2.get hy;have ne:∀{l:Addr} {o:HO},H l=some o->∀b∈[z,TI,TO,i1,i2],l≠b:=λ {l o} hl b hb e=>by subst e;rw[(hf l hb).1] at hl;cases hl
  have off:∀{l:Addr} {o:HO},H l=some o->i0 z TO i1 i2 l:=λ {l o} hl=>⟨ne hl z (by simp),ne hl TO (by simp),ne hl i1 (by simp),ne hl i2 (by simp)⟩
  refine vi ap (off jC) (off eF) s1 s2 s3 s4 s5 p1 p2 (by simpa using zO) (by simpa using Oa) λh' a1 a2 a3 a4 a5 a7=>⟨_,rfl,?_⟩
  refine wpAny_letOwnedTupleGo_zip (s:={s with heap:=h'}) a1 λh2 c1 c2=>?_
  have NC:s.heap.objs.size≠z:=λe=>by have:=Po s1;rw[<-e] at this;exact Nat.lt_irrefl _ this
  have J9:IsPair h2 TI (.ref i1) (.ref i2):=(c2.2 TI ap.TIz).trans (a7 TI _ ap.TIz ap.TITO ap.TIi1 ap.TIi2 s2);have J7:h2.get? s.heap.objs.size=some {cls:= .type "tuple",data:= .seq #[u1,u2]}:=(c2.2 _ NC).trans a5;have kk:∀b o,b∉[z,TI,TO,i1,i2]->s.heap.get? b=some o->h2.get? b=some o:=λb o hb e=>by simp only[Pq,Pr,or_false,not_or] at hb;exact(c2.2 b hb.1).trans (a7 b o hb.1 hb.2.2.1 hb.2.2.2.1 hb.2.2.2.2 e)
  have lt:∀{b:Addr} {o:Obj},s.heap.get? b=some o->b≠s.heap.objs.size:=λe=>PQ (Po e)
  have GK:∀b u,H b=some u->b∉[z,TI,TO,i1,i2]:=λb u e hb=>by rw[(hf b hb).1] at e;cases e
  have EM:H s.heap.objs.size=none:=I.fresh;have I2:Inv X pins σ (upd H s.heap.objs.size (.tup [x,y])) {s with heap:=h2,toks:=s.toks}:=by
   refine I.step (g':=s.gens) (d':=s.drawn) (ch:=[z,TI,TO,i1,i2]) (λb hb=>⟨(hf b hb).2.2.2.1,(hf b hb).2.1,(hf b hb).2.2.2.2.1,(hf b hb).2.2.2.2.2⟩) (λb o _ _ hb e _=>kk b o hb e) (λb o _ _ hb e _=>⟨o.slots,kk b o hb e⟩)
    (λb o hb e n=>by rw[aI (lt e)];exact n) (λb o hb e=>⟨o,kk b o hb e⟩) (λb zs e=>by rw[aI (bc e EM)];exact e) (λb o u e=>by rw[aI (bc e EM)];exact e)
    (λb ps e=>⟨#[],by rw[aI (bc e EM),e];simp⟩) (λm hm=>?_) (λb u e=>?_) I.bare
   ·obtain⟨o,eY,ep,ho,rr⟩:=hm;exact⟨o,eY,ep,kk _ o (λhb=>(hf _ hb).2.1 rfl) ho,rr⟩
   ·by_cases hb:b=s.heap.objs.size
    ·subst hb;rw[aP] at e;cases e;exact⟨by show 2<=sizeLine;decide,[u1,u2],.cons Oq (.cons Os .nil),_,J7,rfl,0,rfl,rfl,rfl⟩
    ·rw[aI hb] at e;refine(I.hok b u e).rh (λc v hc q=>kk c v ?_ q) (λc q=>by rw[aI (bc q EM)];exact q) λc zs q=>by rw[aI (bc q EM)];exact q
     rcases hc with rfl | hc
     ·exact GK c u e
     ·exact GK c _ hc
  refine⟨.ref s.heap.objs.size,_,I2,rfl,⟨s.heap.objs.size,x,y,rfl,EM,rfl,λvh EB q1 q2=>?_⟩,⟨c1,J9,⟨u1,u2,(c2.2 TO ap.TOz).trans a2⟩,a3.at λo e=>(c2.2 i1 ap.i1z).trans e,a4.at λo e=>(c2.2 i2 ap.i2z).trans e⟩,λb hb=>?_⟩
  ·rw[jC] at q1;rw[eF] at q2;rw[sJ (Option.some.inj q1).symm,sJ (Option.some.inj q2).symm];exact⟨hx,hy⟩
  ·rw[aI (λe=>?_)]
   ·exact(hf b hb).1
   ·have q:∃o,s.heap.get? b=some o:=by
     simp only[Pq,Pr,or_false] at hb;rcases hb with rfl | rfl | rfl | rfl | rfl
     ·exact⟨_,s1⟩
     ·exact⟨_,s2⟩
     ·exact⟨_,s3⟩
     ·obtain⟨o,e,_⟩:=s4.obj;exact⟨o,e⟩
     ·obtain⟨o,e,_⟩:=s5.obj;exact⟨o,e⟩
    obtain⟨o,q⟩:=q;exact lt q e
 done:=by
  intro X hP hw hK hc i pins s σ H E I hf st hg;subst hP hw hK;obtain⟨xs,ys,jC,eF,F6⟩:=hg;obtain⟨s1,s2,⟨a,b',s3⟩,s4,s5⟩:=st;obtain⟨gA,r1,p1⟩:=gr I jC;obtain⟨aJ,r2,p2⟩:=gr I eF;have ne:∀{l:Addr} {o:HO},H l=some o->∀b∈[z,TI,TO,i1,i2],l≠b:=λ {l o} hl b hb e=>by subst e;rw[(hf l hb).1] at hl;cases hl
  have off:∀{l:Addr} {o:HO},H l=some o->i0 z TO i1 i2 l:=λ {l o} hl=>⟨ne hl z (by simp),ne hl TO (by simp),ne hl i1 (by simp),ne hl i2 (by simp)⟩
  have e1:=r1.length;have e2:=r2.length;refine yG (I.ok.hd hc) ap (off jC) (off eF) s1 s2 s3 s4 s5 p1 p2 (by simp;lia) λh' kk=>⟨rfl,?_⟩
  have GK:∀b u,H b=some u->b∉[z,TI,TO,i1,i2]:=λb u e hb=>by rw[(hf b hb).1] at e;cases e
  have Gz:∀b o,b∉[z,TI,TO,i1,i2]->s.heap.get? b=some o->h'.get? b=some o:=λb o hb e=>by simp only[Pq,Pr,or_false,not_or] at hb;exact kk b o hb.1 hb.2.2.1 hb.2.2.2.1 hb.2.2.2.2 e
  refine I.step (g':=s.gens) (d':=s.drawn) (t':=s.toks) (h':=h') (ch:=[z,TI,TO,i1,i2]) (λb hb=>⟨(hf b hb).2.2.2.1,(hf b hb).2.1,(hf b hb).2.2.2.2.1,(hf b hb).2.2.2.2.2⟩) (λb o _ _ hb e _=>Gz b o hb e) (λb o _ _ hb e _=>⟨o.slots,Gz b o hb e⟩)
   (λb o hb e n=>n) (λb o hb e=>⟨o,Gz b o hb e⟩) (λb zs e=>e) (λb o u e=>e) (λb ps e=>⟨#[],by rw[e];simp⟩) (λm hm=>?_) (λb u e=>?_) I.bare
  ·obtain⟨o,eY,ep,ho,rr⟩:=hm;exact⟨o,eY,ep,Gz _ o (λhb=>(hf _ hb).2.1 rfl) ho,rr⟩
  ·refine(I.hok b u e).rh (λc v hc q=>Gz c v ?_ q) (λc q=>q) λc zs q=>q
   rcases hc with rfl | hc
   ·exact GK c u e
   ·exact GK c _ hc
 self:=λ_ _ _ _ _ st h=>wpAny_pyIter_zip st.1 h
noncomputable def Gp (ta:TA):TI:=λσ H R=>ta σ H λvs H1=>∃b1 b2 l1 l2 xs ys,vs=[.ref l1,.ref l2]/\H1 l1=some (qg b1 xs)/\H1 l2=some (qg b2 ys)/\R (Jo b1 b2 l1 l2) H1
theorem Ay {X:Cx} {es:List Expr} {k:Nat} {tp:Pos} {a b:Expr} {ta:TA} {p pos:Pos} (hg:Gl X "zip") (hm:X.mg "zip"=none) (ha:PA X [a,b] ta) (hs:starEach [a,b] X.env=[(false,eval a X.env),(false,eval b X.env)]:=by rfl) (EU:starEach [b] X.env=[(false,eval b X.env)]:=by rfl):
  PI X (.Tuple es k tp) (.Call (.Name "zip" p) [a,b] [] pos) (Gp ta):=by
 intro pins s σ H R I h;refine Call_ (kA I hg hm boot_zip (PyProof.Rows.callWith_type1 (bV (ha pos pins s σ H _ I h) λus s1 ⟨vs,H1,I1,r1,q1⟩=>?_) (by rw[hs,EU]) (by rw[EU];rfl)));obtain⟨b1,b2,l1,l2,xs,ys,e,e1,e2,q⟩:=q1;subst e;obtain⟨u,v,rfl,ru,rv⟩:=r1.two;cases ru;cases rv;obtain⟨gA,_,p1⟩:=gr I1 e1;obtain⟨aJ,_,p2⟩:=gr I1 e2;refine uq p1 p2 λh' g1 g2 g3 g4 g5 kk=>?_
 refine wpAny_pyIter_zip (s:={s1 with heap:=h'}) g1 ?_;have I2:Inv X pins σ H1 {s1 with heap:=h'}:=I1.kept (t':=s1.toks) kk;refine⟨s1.heap.objs.size + 4,[s1.heap.objs.size + 4,s1.heap.objs.size + 2,s1.heap.objs.size + 3,s1.heap.objs.size,s1.heap.objs.size + 1],_,_,H1,rfl,I2,ve (l1:=l1) (l2:=l2) ⟨?_,?_,?_,?_,?_,?_,?_,?_,?_,?_⟩,⟨g1,g2,⟨_,_,g3⟩,g4,g5⟩,λb hb=>?_,q⟩
 iterate 10 (first | (apply PQ;lia) | (apply Nat.ne_of_gt;lia))
 have lj:s1.heap.objs.size<=b:=by simp only[Pq,Pr,or_false] at hb;rcases hb with h | h | h | h | h <;> (rw[h];first | exact Nat.le_add_right _ _ | exact Pj _)
 exact I1.wu lj (I1.hok.fresh lj)
end Mx
end
section
namespace MxTim
open PySem PySem.W PyProof.Rows
noncomputable def Bj:Bool->Keyed->Array Keyed->Nat->Nat->Nat->StateT SortSt Sem (Option Nat):=sortPriv% PySem.Builtin.gallop
theorem Cz (gC:Bool) (k:Keyed) (xs:Array Keyed) (b m h:Nat):Bj gC k xs b m h=(do
 let past (i:Nat):StateT SortSt Sem (Option Bool):=do
  let y<-elem' xs (b + i)
  if gC then lt' y k else return (<-lt' k y).map (!·)
 let mut la:=0
 let mut st:=1
 let mut u:=0
 let mut v:=0
 let some c0<-past h | return none
 if c0 then
  let mx:=m - h
  for _ in [0:m] do
   if st>=mx then break
   let some c1<-past (h + st) | return none
   if !c1 then break
   la:=st
   st:=2 * st + 1
  u:=h + la + 1
  v:=h + min st mx
 else
  let mx:=h + 1
  for _ in [0:m] do
   if st>=mx then break
   let some c1<-past (h - st) | return none
   if c1 then break
   la:=st
   st:=2 * st + 1
  u:=h + 1 - min st mx
  v:=h - la
 for _ in [0:m] do
  if u>=v then break
  let mm:=u + (v - u) / 2
  let some c2<-past mm | return none
  if c2 then u:=mm + 1 else v:=mm
 return some v):=rfl
section
variable {prog:Program} {w:World} {A:Around} {E:Value->Shared->Prop} {κ:SortKind} {s:Shared} {O:KeyOrd} {ky:Keyed->O.α} {Mem:Keyed->Prop}
noncomputable def Tells (prog:Program) (w:World) (A:Around) (κ:SortKind) (s:Shared) (O:KeyOrd) (ky:Keyed->O.α) (Mem:Keyed->Prop):Prop:=
 ∀x y,Mem x->Mem y->∀C:Bool->Shared->Prop,C (O.blt (ky x) (ky y)) s->wpAny (model prog w) A (keyLt' κ x.1 y.1) C (λ_ _=>False) s
theorem px (T:Tells prog w A κ s O ky Mem) {x y:Keyed} (hx:Mem x) (hy:Mem y) {st:SortSt} (hk:kindOf st=κ) {Q:Option Bool->SortSt->Shared->Prop} (h:Q (some (O.blt (ky x) (ky y))) st s):kasC (model prog w) A E (lt' x y) Q st s:=by rw[lt'_eq];refine Pi (kasC_get ?_);rw[hk];refine Pi (kasC_lift (wpAny_attempt (wpAny_mono (T x y hx hy (λc s'=>Q (some c) st s') h) (λc s' hc=>?_) λ_ _ hF=>hF.elim)));exact Pm hc
theorem aQ {xs:Array Keyed} {i:Nat} {x:Keyed} (hx:xs[i]?=some x) {st:SortSt} {Q:Keyed->SortSt->Shared->Prop} (h:Q x st s):kasC (model prog w) A E (elem' xs i) Q st s:=by rw[elem'_eq,hx];exact Pm h
theorem cW {β:Type} {l:List Nat} {b0:β} {f:Nat->β->StateT SortSt Sem (ForInStep β)} {Q:β->SortSt->Shared->Prop} (Inv:Nat->β->SortSt->Prop) {dy:SortSt} (h0:Inv 0 b0 dy)
  (step:∀j b st x,j < l.length->Inv j b st->kasC (model prog w) A E (f x b) (λr ak s'=>s'=s/\match r with | .done b'=>Q b' ak s | .yield b'=>Inv (j + 1) b' ak) st s)
  (fin:∀b st,Inv l.length b st->Q b st s):kasC (model prog w) A E (forIn l b0 f) Q dy s:=by
 have go:∀(l':List Nat) (j:Nat) (b:β) (st:SortSt),j + l'.length=l.length->Inv j b st->kasC (model prog w) A E (forIn l' b f) Q st s:=by
  intro l'
  induction l' with
  | nil=>intro j b st hj hI;simp only[List.length_nil,Nat.add_zero] at hj;subst hj;exact kasC_nil (fin b st hI)
  | cons x l' ih=>
   intro j b st hj hI;simp only[Px] at hj;refine kasC_cons (wpAny_mono (step j b st x (by lia) hI) (λr s' h'=>?_) λ_ _ e=>e);obtain⟨r,ak⟩:=r;obtain⟨rfl,h'⟩:=h';cases r with
   | done b'=>exact h'
   | yield b'=>exact ih (j + 1) b' ak (by lia) h'
 exact go l 0 b0 dy (by lia) h0
theorem bM {α:Type} {m:StateT SortSt Sem α} {Q Q':α->SortSt->Shared->Prop} {st:SortSt} (h:kasC (model prog w) A E m Q st s) (hq:∀a ak s',Q a ak s'->Q' a ak s'):kasC (model prog w) A E m Q' st s:=by unfold kasC at h ⊢;exact wpAny_mono h (λr s' h'=>hq _ _ _ h') λ_ _ e=>e
noncomputable def dR (O:KeyOrd) (ky:Keyed->O.α) (gC:Bool) (k:Keyed) (g:Nat->Keyed) (i:Nat):Bool:=if gC=true then O.blt (ky (g i)) (ky k) else !O.blt (ky k) (ky (g i))
theorem i5 (T:Tells prog w A κ s O ky Mem) {gC:Bool} {k:Keyed} {xs:Array Keyed} {b m h:Nat} (g:Nat->Keyed) (hg:∀i,i < m->xs[b + i]?=some (g i)) (hm:∀i,i < m->Mem (g i)) (hk:Mem k) (hh:h < m)
  (mono:∀i j,i<=j->j < m->dR O ky gC k g j=true->dR O ky gC k g i=true) {st:SortSt} (hs:kindOf st=κ) {Q:Option Nat->SortSt->Shared->Prop}
  (q:∀v,v<=m->(∀i,i < v->dR O ky gC k g i=true)->(∀i,v<=i->i < m->dR O ky gC k g i=false)->Q (some v) st s):kasC (model prog w) A E (Bj gC k xs b m h) Q st s:=by
 have past:∀(i:Nat) {R:Option Bool->SortSt->Shared->Prop},i < m->R (some (dR O ky gC k g i)) st s->kasC (model prog w) A E (do
   let y<-elem' xs (b + i)
   if gC=true then lt' y k else do
    let r<-lt' k y
    pure (r.map (!·))) R st s:=λi R hi hR=>by
  refine Pi (aQ (hg i hi) ?_);unfold dR at hR;cases gC with
  | true=>rw[if_pos rfl] at hR ⊢;exact px T (hm i hi) hk hs hR
  | false=>rw[if_neg (by simp)] at hR ⊢;exact Pi (px T hk (hm i hi) hs (Pm hR))
 have tm:∀i j,i<=j->j < m->dR O ky gC k g i=false->dR O ky gC k g j=false:=λi j fE hj hi=>by
  cases c:dR O ky gC k g j with
  | false=>rfl
  | true=>rw[mono i j fE hj c] at hi;cases hi
 rw[Cz];dsimp only;refine Pi (past h hh ?_);dsimp only;cases c0:dR O ky gC k g h with
 | true=>
  rw[if_pos rfl];refine Pi (bM (Q:=λr ak s'=>st=ak/\s=s'/\∃la sp,r=(none,la,sp)/\h + la < m/\la < sp/\dR O ky gC k g (h + la)=true/\∀i,h + min sp (m - h)<=i->i < m->dR O ky gC k g i=false) (kasC_range (cW (λj r ak=>st=ak/\∃la sp,r=(none,la,sp)/\h + la < m/\la < sp/\j + 1<=sp/\dR O ky gC k g (h + la)=true) ⟨rfl,0,1,rfl,by lia,by lia,by lia,c0⟩ (λj r ak x hj hI=>?_) (λr ak hI=>?_))) (λr ak s' hI=>?_))
  ·obtain⟨rfl,la,sp,rfl,sI,oo,F9,hb⟩:=hI;dsimp only;by_cases c:sp>=m - h
   ·rw[if_pos c];exact Pm ⟨rfl,rfl,rfl,la,sp,rfl,sI,oo,hb,λi hi i7=>by lia⟩
   ·rw[if_neg c];refine Pi (past _ (by lia) ?_);dsimp only;cases cb:dR O ky gC k g (h + sp) with
    | true=>rw[if_neg (by simp)];exact Pm ⟨rfl,rfl,_,_,rfl,by lia,by lia,by lia,cb⟩
    | false=>rw[if_pos (by simp)];exact Pm ⟨rfl,rfl,rfl,la,sp,rfl,sI,oo,hb,λi hi i7=>tm (h + sp) i (by lia) i7 cb⟩
  ·obtain⟨rfl,la,sp,rfl,sI,oo,F9,hb⟩:=hI;rw[List.length_range'] at F9;exact⟨rfl,rfl,la,sp,rfl,sI,oo,hb,λi hi i7=>by lia⟩
  obtain⟨rfl,rfl,la,sp,rfl,sI,oo,hb,yQ⟩:=hI;have ny:∀i,i < h + la + 1->dR O ky gC k g i=true:=λi hi=>mono i _ (by lia) sI hb
  dsimp only;refine Pi (kasC_range (cW (λj r ak=>st=ak/\∃u v,r=(none,u,v)/\v<=m/\u<=v/\v - u + j<=m/\(∀i,i < u->dR O ky gC k g i=true)/\(∀i,v<=i->i < m->dR O ky gC k g i=false)) ⟨rfl,_,_,rfl,by lia,by lia,by lia,ny,yQ⟩ (λj r ak x hj hI=>?_) (λr ak hI=>?_)))
  ·obtain⟨rfl,u,v,rfl,hv,Kx,Ga,h1,h2⟩:=hI;dsimp only;by_cases c:u>=v
   ·rw[if_pos c];have e:u=v:=by lia
    subst e;exact Pm ⟨rfl,Pm (q u hv h1 h2)⟩
   ·rw[if_neg c];have NX:u + (v - u) / 2 < v:=by lia
    refine Pi (past _ (by lia) ?_);dsimp only;cases cb:dR O ky gC k g (u + (v - u) / 2) with
    | true=>rw[if_pos rfl];exact Pm ⟨rfl,rfl,_,_,rfl,hv,by lia,by lia,λi hi=>mono i _ (by lia) (by lia) cb,h2⟩
    | false=>rw[if_neg (by simp)];exact Pm ⟨rfl,rfl,_,_,rfl,by lia,by lia,by lia,h1,λi hi i7=>tm _ i hi i7 cb⟩
  ·obtain⟨rfl,u,v,rfl,hv,Kx,Ga,h1,h2⟩:=hI;have e:u=v:=by
    rw[List.length_range'] at Ga
    lia
   subst e;exact Pm (q u hv h1 h2)
 | false=>
  rw[if_neg (by simp)];refine Pi (bM (Q:=λr ak s'=>st=ak/\s=s'/\∃la sp,r=(none,la,sp)/\la<=h/\la < sp/\dR O ky gC k g (h - la)=false/\∀i,i < h + 1 - min sp (h + 1)->dR O ky gC k g i=true) (kasC_range (cW (λj r ak=>st=ak/\∃la sp,r=(none,la,sp)/\la<=h/\la < sp/\j + 1<=sp/\dR O ky gC k g (h - la)=false) ⟨rfl,0,1,rfl,by lia,by lia,by lia,c0⟩ (λj r ak x hj hI=>?_) (λr ak hI=>?_))) (λr ak s' hI=>?_))
  ·obtain⟨rfl,la,sp,rfl,sI,oo,F9,hb⟩:=hI;dsimp only;by_cases c:sp>=h + 1
   ·rw[if_pos c];exact Pm ⟨rfl,rfl,rfl,la,sp,rfl,sI,oo,hb,λi hi=>by lia⟩
   ·rw[if_neg c];refine Pi (past _ (by lia) ?_);dsimp only;cases cb:dR O ky gC k g (h - sp) with
    | true=>rw[if_pos rfl];exact Pm ⟨rfl,rfl,rfl,la,sp,rfl,sI,oo,hb,λi hi=>mono i (h - sp) (by lia) (by lia) cb⟩
    | false=>rw[if_neg (by simp)];exact Pm ⟨rfl,rfl,_,_,rfl,by lia,by lia,by lia,cb⟩
  ·obtain⟨rfl,la,sp,rfl,sI,oo,F9,hb⟩:=hI;rw[List.length_range'] at F9;exact⟨rfl,rfl,la,sp,rfl,sI,oo,hb,λi hi=>by lia⟩
  obtain⟨rfl,rfl,la,sp,rfl,sI,oo,hb,ny⟩:=hI;have yQ:∀i,h - la<=i->i < m->dR O ky gC k g i=false:=λi hi i7=>tm (h - la) i (by lia) i7 hb
  dsimp only;refine Pi (kasC_range (cW (λj r ak=>st=ak/\∃u v,r=(none,u,v)/\v<=m/\u<=v/\v - u + j<=m/\(∀i,i < u->dR O ky gC k g i=true)/\(∀i,v<=i->i < m->dR O ky gC k g i=false)) ⟨rfl,_,_,rfl,by lia,by lia,by lia,ny,yQ⟩ (λj r ak x hj hI=>?_) (λr ak hI=>?_)))
  ·obtain⟨rfl,u,v,rfl,hv,Kx,Ga,h1,h2⟩:=hI;dsimp only;by_cases c:u>=v
   ·rw[if_pos c];have e:u=v:=by lia
    subst e;exact Pm ⟨rfl,Pm (q u hv h1 h2)⟩
   ·rw[if_neg c];have NX:u + (v - u) / 2 < v:=by lia
    refine Pi (past _ (by lia) ?_);dsimp only;cases cb:dR O ky gC k g (u + (v - u) / 2) with
    | true=>rw[if_pos rfl];exact Pm ⟨rfl,rfl,_,_,rfl,hv,by lia,by lia,λi hi=>mono i _ (by lia) (by lia) cb,h2⟩
    | false=>rw[if_neg (by simp)];exact Pm ⟨rfl,rfl,_,_,rfl,by lia,by lia,by lia,h1,λi hi i7=>tm _ i hi i7 cb⟩
  ·obtain⟨rfl,u,v,rfl,hv,Kx,Ga,h1,h2⟩:=hI;have e:u=v:=by
    rw[List.length_range'] at Ga
    lia
   subst e;exact Pm (q u hv h1 h2)
end
section
variable {O:KeyOrd} {ky:Keyed->O.α}
noncomputable def le (O:KeyOrd) (ky:Keyed->O.α) (x y:Keyed):Prop:=O.kle (ky x) (ky y)
noncomputable def iq (O:KeyOrd) (ky:Keyed->O.α) (l:List Keyed):Prop:=l.Pairwise (le O ky)
structure MI (O:KeyOrd) (ky:Keyed->O.α) (la lb out:List Keyed) (i j:Nat):Prop where
 p:out.Perm (la.take i++lb.take j)
 s:iq O ky out
 a:∀x∈out,∀y∈la.drop i,le O ky x y
 b:∀x∈out,∀y∈lb.drop j,le O ky x y
theorem cL {l:List Keyed} {i k:Nat}:l.drop i=(l.drop i).take k++l.drop (i + k):=by rw[<-List.drop_drop,List.take_append_drop]
theorem g6 {l:List Keyed} {i k:Nat}:l.take (i + k)=l.take i++(l.drop i).take k:=by rw[List.take_add]
theorem MI.oz {la lb out:List Keyed} {i j k:Nat} (h:MI O ky la lb out i j) (sa:iq O ky la) (hk:∀x∈(la.drop i).take k,∀y∈lb.drop j,le O ky x y):MI O ky la lb (out++(la.drop i).take k) (i + k) j:=by
 have sd:iq O ky (la.drop i):=sa.sublist (List.drop_sublist _ _);rw[cL (k:=k)] at sd;obtain⟨s1,s2,s3⟩:=List.pairwise_append.mp sd;have C8:∀y∈(la.drop i).take k,y∈la.drop i:=λy hy=>List.mem_of_mem_take hy
 have uQ:∀y∈la.drop (i + k),y∈la.drop i:=λy hy=>by rw[cL (k:=k)];exact PU _ hy
 refine⟨?_,List.pairwise_append.mpr ⟨h.s,s1,λx hx y hy=>h.a x hx y (C8 y hy)⟩,λx hx y hy=>?_,λx hx y hy=>?_⟩
 ·rw[g6];refine(h.p.append_right _).trans ?_;rw[Pt,Pt];exact List.Perm.append_left _ List.perm_append_comm
 ·rcases PD.mp hx with hx | hx
  ·exact h.a x hx y (uQ y hy)
  ·exact s3 x hx y hy
 ·rcases PD.mp hx with hx | hx
  ·exact h.b x hx y hy
  ·exact hk x hx y hy
theorem MI.oA {la lb out:List Keyed} {i j k:Nat} (h:MI O ky la lb out i j) (sb:iq O ky lb) (hk:∀x∈(lb.drop j).take k,∀y∈la.drop i,le O ky x y):MI O ky la lb (out++(lb.drop j).take k) i (j + k):=by
 have sd:iq O ky (lb.drop j):=sb.sublist (List.drop_sublist _ _);rw[cL (k:=k)] at sd;obtain⟨s1,s2,s3⟩:=List.pairwise_append.mp sd;have C8:∀y∈(lb.drop j).take k,y∈lb.drop j:=λy hy=>List.mem_of_mem_take hy
 have uQ:∀y∈lb.drop (j + k),y∈lb.drop j:=λy hy=>by rw[cL (k:=k)];exact PU _ hy
 refine⟨?_,List.pairwise_append.mpr ⟨h.s,s1,λx hx y hy=>h.b x hx y (C8 y hy)⟩,λx hx y hy=>?_,λx hx y hy=>?_⟩
 ·rw[g6];refine(h.p.append_right _).trans ?_;rw[Pt]
 ·rcases PD.mp hx with hx | hx
  ·exact h.a x hx y hy
  ·exact hk x hx y hy
 ·rcases PD.mp hx with hx | hx
  ·exact h.b x hx y (uQ y hy)
  ·exact s3 x hx y hy
noncomputable def qk (O:KeyOrd) (ky:Keyed->O.α) (la lb out:List Keyed):Prop:=out.Perm (la++lb)/\iq O ky out
theorem MI.su {la lb out:List Keyed} {i j:Nat} (h:MI O ky la lb out i j) (sa:iq O ky la) (hj:lb.length<=j):qk O ky la lb (out++la.drop i++lb.drop j):=by have e:lb.drop j=[]:=List.drop_of_length_le hj;have e2:lb.take j=lb:=List.take_of_length_le hj;rw[e,P6];refine⟨?_,List.pairwise_append.mpr ⟨h.s,sa.sublist (List.drop_sublist _ _),h.a⟩⟩;refine(h.p.append_right _).trans ?_;rw[e2,Pt];refine(List.Perm.append_left _ List.perm_append_comm).trans ?_;rw[<-Pt,List.take_append_drop]
theorem MI.Fy {la lb out:List Keyed} {i j:Nat} (h:MI O ky la lb out i j) (sb:iq O ky lb) (hi:la.length<=i):qk O ky la lb (out++la.drop i++lb.drop j):=by have e:la.drop i=[]:=List.drop_of_length_le hi;have e2:la.take i=la:=List.take_of_length_le hi;rw[e,P6];refine⟨?_,List.pairwise_append.mpr ⟨h.s,sb.sublist (List.drop_sublist _ _),h.b⟩⟩;refine(h.p.append_right _).trans ?_;rw[e2,Pt,List.take_append_drop]
theorem MI.sY {la lb out:List Keyed} {i j:Nat} (h:MI O ky la lb out i j) (sa:iq O ky la) (sb:iq O ky lb) (hl:∀x∈lb.drop j,∀y∈la.drop i,le O ky x y):qk O ky la lb (out++lb.drop j++la.drop i):=by
 refine⟨?_,List.pairwise_append.mpr ⟨List.pairwise_append.mpr ⟨h.s,sb.sublist (List.drop_sublist _ _),h.b⟩,sa.sublist (List.drop_sublist _ _),λx hx y hy=>?_⟩⟩
 ·refine((h.p.append_right _).append_right _).trans ?_;rw[Pt (la.take i),List.take_append_drop];refine(List.perm_append_comm).trans ?_;rw[<-Pt];refine(List.Perm.append_right _ List.perm_append_comm).trans ?_;rw[List.take_append_drop]
 ·rcases PD.mp hx with hx | hx
  ·exact h.a x hx y hy
  ·exact hl x hx y hy
theorem MI.start {la lb:List Keyed}:MI O ky la lb [] 0 0:=⟨by simp,List.Pairwise.nil,λx hx=>absurd hx (by simp),λx hx=>absurd hx (by simp)⟩
end
noncomputable def Da:Array Keyed->Array Keyed->StateT SortSt Sem (Array Keyed):=sortPriv% PySem.Builtin.mergeLo
noncomputable def setG:Nat->StateT SortSt Sem Unit:=sortPriv% PySem.Builtin.setMinGallop
noncomputable abbrev GS:=Option (Array Keyed)×Array Keyed×Nat×Nat×Nat×Nat×Nat
noncomputable abbrev SS:=Option (Array Keyed)×Array Keyed×Nat×Nat×Nat×Nat
noncomputable abbrev OS:=Option (Array Keyed)×Array Keyed×Nat×Nat×Nat
noncomputable def yV (x y o:Array Keyed) (i j:Nat):Array Keyed:=o++x.extract i x.size++y.extract j y.size
noncomputable def u6 (x y o:Array Keyed) (i j:Nat):Array Keyed:=o++y.extract j y.size++x.extract i x.size
noncomputable def ID (x y o:Array Keyed) (i j mg ca cb:Nat):StateT SortSt Sem (ForInStep GS):=do
 let e<-elem' x i
 if (i + 1 + 1==x.size)=true then pure (.done (some (u6 x y (o.push e) (i + 1) j),o.push e,i + 1,j,mg,ca,cb))
 else if (decide (ca < 7)&&decide (cb < 7))=true then pure (.done (none,o.push e,i + 1,j,mg,ca,cb))
 else pure (.yield (none,o.push e,i + 1,j,mg,ca,cb))
noncomputable def IC (x y o:Array Keyed) (i j mg ca qd:Nat):StateT SortSt Sem (ForInStep GS):=do
 let e<-elem' y j
 if (j + 1==y.size)=true then pure (.done (some (yV x y (o.push e) i (j + 1)),o.push e,i,j + 1,mg,ca,qd))
 else do
  let f<-elem' x i
  let r<-Bj true f y (j + 1) (y.size - (j + 1)) 0
  match r with
  | some k=>
   if k > 0 then
    if (j + 1 + k==y.size)=true then pure (.done (some (yV x y (o.push e++y.extract (j + 1) (j + 1 + k)) i (j + 1 + k)),o.push e++y.extract (j + 1) (j + 1 + k),i,j + 1 + k,mg,ca,k))
    else ID x y (o.push e++y.extract (j + 1) (j + 1 + k)) i (j + 1 + k) mg ca k
   else ID x y (o.push e) i (j + 1) mg ca k
  | _=>pure (.done (some (yV x y (o.push e) i (j + 1)),o.push e,i,j + 1,mg,ca,qd))
noncomputable def IA (x y o:Array Keyed) (i j mg JE qd:Nat):StateT SortSt Sem (ForInStep GS):=do
 setG mg
 let e<-elem' y j
 let r<-Bj false e x i (x.size - i) 0
 match r with
 | some k=>
  if k > 0 then
   if (i + k + 1==x.size)=true then pure (.done (some (u6 x y (o++x.extract i (i + k)) (i + k) j),o++x.extract i (i + k),i + k,j,mg,k,qd))
   else if (i + k==x.size)=true then pure (.done (some (yV x y (o++x.extract i (i + k)) (i + k) j),o++x.extract i (i + k),i + k,j,mg,k,qd))
   else IC x y (o++x.extract i (i + k)) (i + k) j mg k qd
  else IC x y o i j mg k qd
 | _=>pure (.done (some (yV x y o i j),o,i,j,mg,JE,qd))
noncomputable def Lo (x y:Array Keyed) (mg:Nat) (r:SS):StateT SortSt Sem (ForInStep SS):=do
 let e<-elem' y r.2.2.2.1
 let f<-elem' x r.2.2.1
 let c<-lt' e f
 match c with
 | some yw=>
  if yw=true then do
   let e<-elem' y r.2.2.2.1
   if (r.2.2.2.1 + 1==y.size)=true then pure (.done (some (yV x y (r.2.1.push e) r.2.2.1 (r.2.2.2.1 + 1)),r.2.1.push e,r.2.2.1,r.2.2.2.1 + 1,0,r.2.2.2.2.2 + 1))
   else if r.2.2.2.2.2 + 1>=mg then pure (.done (none,r.2.1.push e,r.2.2.1,r.2.2.2.1 + 1,0,r.2.2.2.2.2 + 1))
   else pure (.yield (none,r.2.1.push e,r.2.2.1,r.2.2.2.1 + 1,0,r.2.2.2.2.2 + 1))
  else do
   let f<-elem' x r.2.2.1
   if (r.2.2.1 + 1 + 1==x.size)=true then pure (.done (some (u6 x y (r.2.1.push f) (r.2.2.1 + 1) r.2.2.2.1),r.2.1.push f,r.2.2.1 + 1,r.2.2.2.1,r.2.2.2.2.1 + 1,0))
   else if r.2.2.2.2.1 + 1>=mg then pure (.done (none,r.2.1.push f,r.2.2.1 + 1,r.2.2.2.1,r.2.2.2.2.1 + 1,0))
   else pure (.yield (none,r.2.1.push f,r.2.2.1 + 1,r.2.2.2.1,r.2.2.2.2.1 + 1,0))
 | _=>pure (.done (some (yV x y r.2.1 r.2.2.1 r.2.2.2.1),r.2.1,r.2.2.1,r.2.2.2.1,r.2.2.2.2.1,r.2.2.2.2.2))
noncomputable def Dx (x y:Array Keyed) (r:OS):StateT SortSt Sem (ForInStep OS):=do
 let a<-forIn [:x.size + y.size] ((none,r.2.1,r.2.2.1,r.2.2.2.1,0,0):SS) λ_ a=>Lo x y r.2.2.2.2 a
 match a.1 with
 | some v=>pure (.done (some v,a.2.1,a.2.2.1,a.2.2.2.1,r.2.2.2.2))
 | none=>do
  rule "list.sort.gallop"
  let b<-forIn [:x.size + y.size] ((none,a.2.1,a.2.2.1,a.2.2.2.1,r.2.2.2.2 + 1,a.2.2.2.2.1,a.2.2.2.2.2):GS) λ_ b=>
   if b.2.2.2.2.1 > 1 then IA x y b.2.1 b.2.2.1 b.2.2.2.1 (b.2.2.2.2.1 - 1) b.2.2.2.2.2.1 b.2.2.2.2.2.2 else IA x y b.2.1 b.2.2.1 b.2.2.2.1 b.2.2.2.2.1 b.2.2.2.2.2.1 b.2.2.2.2.2.2
  match b.1 with
  | some v=>pure (.done (some v,b.2.1,b.2.2.1,b.2.2.2.1,b.2.2.2.2.1))
  | none=>do
   setG (b.2.2.2.2.1 + 1)
   pure (.yield (none,b.2.1,b.2.2.1,b.2.2.2.1,b.2.2.2.2.1 + 1))
noncomputable def Ms (x y:Array Keyed):StateT SortSt Sem (Array Keyed):=do
 rule "list.sort.merge-lo"
 let e<-elem' y 0
 if (1==y.size)=true then pure (yV x y #[e] 0 1)
 else if (0 + 1==x.size)=true then pure (u6 x y #[e] 0 1)
 else do
  let st<-get
  let r<-forIn [:x.size + y.size] ((none,#[e],0,1,gallopOf st):OS) λ_ r=>Dx x y r
  match r.1 with
  | some a=>pure a
  | none=>unsupported "internal:list.sort.merge-bound"
theorem Ad (x y:Array Keyed):Da x y=Ms x y:=by kernel_rfl
theorem jJ (x:Array Keyed) (i:Nat):(x.extract i x.size).toList=x.toList.drop i:=by rw[Array.toList_extract];show (x.toList.drop i).take (x.size - i)=_;exact List.take_of_length_le (by rw[List.length_drop];simp)
theorem kh (x:Array Keyed) (i k:Nat):(x.extract i (i + k)).toList=(x.toList.drop i).take k:=by rw[Array.toList_extract];show (x.toList.drop i).take (i + k - i)=_;rw[Nat.add_sub_cancel_left]
theorem fW (x y o:Array Keyed) (i j:Nat):(yV x y o i j).toList=o.toList++x.toList.drop i++y.toList.drop j:=by unfold yV;rw[Array.toList_append,Array.toList_append,jJ,jJ]
theorem gp (x y o:Array Keyed) (i j:Nat):(u6 x y o i j).toList=o.toList++y.toList.drop j++x.toList.drop i:=by unfold u6;rw[Array.toList_append,Array.toList_append,jJ,jJ]
theorem aC {x:Array Keyed} {i:Nat} (h:i < x.size):x[i]?=some (kas_item x i):=by unfold kas_item;simp[Array.getD,h]
theorem take_one {x:Array Keyed} {i:Nat} (h:i < x.size):(x.toList.drop i).take 1=[kas_item x i]:=by have e:x.toList.drop i=x.toList[i]'(by simpa using h)::x.toList.drop (i + 1):=List.drop_eq_getElem_cons (by simpa using h);rw[e];unfold kas_item;simp[Array.getD,h]
theorem gj {x o:Array Keyed} {i:Nat} (h:i < x.size):(o.push (kas_item x i)).toList=o.toList++(x.toList.drop i).take 1:=by rw[take_one h];simp
section
variable {O:KeyOrd} {ky:Keyed->O.α} {Mem:Keyed->Prop}
theorem cD {x:Array Keyed} (sx:iq O ky x.toList) {i j:Nat} (fE:i<=j) (hj:j < x.size):le O ky (kas_item x i) (kas_item x j):=by
 have e:∀k,(h:k < x.size)->kas_item x k=x.toList[k]'(by simpa using h):=λk h=>by unfold kas_item;simp[Array.getD,h]
 rw[e i (by lia),e j hj];by_cases c:i=j
 ·subst c;exact KeyOrd.kle_refl _
 ·exact List.pairwise_iff_getElem.mp sx i j (by simpa using (show i < x.size by lia)) (by simpa using hj) (by lia)
theorem cy {x:Array Keyed} {i:Nat} {e:Keyed} (h:e∈x.toList.drop i):∃k,i<=k/\k < x.size/\e=kas_item x k:=by
 obtain⟨k,hk,rfl⟩:=List.getElem_of_mem h;rw[List.length_drop] at hk;have yR:i + k < x.size:=by simp at hk;lia
 refine⟨i + k,by lia,yR,?_⟩;rw[List.getElem_drop];unfold kas_item;simp[Array.getD,yR]
theorem a6 {x:Array Keyed} {i n:Nat} {e:Keyed} (h:e∈(x.toList.drop i).take n):∃k,i<=k/\k < i + n/\k < x.size/\e=kas_item x k:=by
 obtain⟨k,hk,rfl⟩:=List.getElem_of_mem h;rw[List.length_take,List.length_drop] at hk;have yR:i + k < x.size:=by simp at hk;lia
 refine⟨i + k,by lia,by lia,yR,?_⟩;rw[List.getElem_take,List.getElem_drop];unfold kas_item;simp[Array.getD,yR]
structure MP (O:KeyOrd) (ky:Keyed->O.α) (Mem:Keyed->Prop) (x y:Array Keyed):Prop where
 sa:iq O ky x.toList
 sb:iq O ky y.toList
 ma:∀i,i < x.size->Mem (kas_item x i)
 mb:∀i,i < y.size->Mem (kas_item y i)
 pa:1<=x.size
 pb:1<=y.size
 first:O.blt (ky (kas_item y 0)) (ky (kas_item x 0))=true
 last:∀j,j < y.size->O.blt (ky (kas_item y j)) (ky (kas_item x (x.size - 1)))=true
theorem MP.lst {x y:Array Keyed} (h:MP O ky Mem x y) {i j:Nat} (hi:i + 1=x.size):∀e∈y.toList.drop j,∀f∈x.toList.drop i,le O ky e f:=λe he f hf=>by
 obtain⟨k,_,k2,rfl⟩:=cy he;obtain⟨l,l1,l2,rfl⟩:=cy hf;have:l=x.size - 1:=by lia
 subst this;exact KeyOrd.kle_of_klt (h.last k k2)
structure y9 (O:KeyOrd) (ky:Keyed->O.α) (x y o:Array Keyed) (i j:Nat):Prop where
 m:MI O ky x.toList y.toList o.toList i j
 i1:i + 1 < x.size
 j1:j < y.size
noncomputable def GP (O:KeyOrd) (ky:Keyed->O.α) (x y:Array Keyed) (n:Nat) (v:Option (Array Keyed)) (o:Array Keyed) (i j:Nat):Prop:=(∃a,v=some a/\qk O ky x.toList y.toList a.toList)\/(v=none/\y9 O ky x y o i j/\n<=i + j)
noncomputable def SI (dy st:SortSt):Prop:=kindOf st=kindOf dy/\arrOf st=arrOf dy/\pendingOf st=pendingOf dy/\failedOf st=failedOf dy
theorem SI.refl (st:SortSt):SI st st:=⟨rfl,rfl,rfl,rfl⟩
theorem SI.trans {a b c:SortSt} (h:SI a b) (g:SI b c):SI a c:=⟨g.1.trans h.1,g.2.1.trans h.2.1,g.2.2.1.trans h.2.2.1,g.2.2.2.trans h.2.2.2⟩
variable {prog:Program} {w:World} {A:Around} {E:Value->Shared->Prop} {κ:SortKind} {s:Shared}
theorem jS {g:Nat} {st:SortSt} {Q:Unit->SortSt->Shared->Prop} (h:∀ak,SI st ak->Q () ak s):kasC (model prog w) A E (setG g) Q st s:=by
 have e:setG g=modify λt=>SortSt.mk' (kindOf t) (arrOf t) (pendingOf t) g (failedOf t):=by kernel_rfl
 rw[e];exact kasC_modify (h _ ⟨rfl,rfl,rfl,rfl⟩)
noncomputable def vv (O:KeyOrd) (ky:Keyed->O.α) (x y:Array Keyed) (n:Nat):ForInStep GS->Prop
 | .done r=>GP O ky x y n r.1 r.2.1 r.2.2.1 r.2.2.2.1
 | .yield r=>r.1=none/\GP O ky x y n r.1 r.2.1 r.2.2.1 r.2.2.2.1
theorem wD {x y o:Array Keyed} (M:MP O ky Mem x y) {i j mg ca cb n:Nat} (h:MI O ky x.toList y.toList o.toList i j) (hi:i + 1 < x.size) (hj:j < y.size) (hk:∀l,j<=l->l < y.size->le O ky (kas_item x i) (kas_item y l)) (hn:n<=i + 1 + j) {st:SortSt} {Q:ForInStep GS->SortSt->Shared->Prop}
  (q:∀r,vv O ky x y n r->Q r st s):kasC (model prog w) A E (ID x y o i j mg ca cb) Q st s:=by
 unfold ID;refine Pi (aQ (aC (by lia)) ?_);have m1:=h.oz (k:=1) M.sa (λe he f hf=>by
  obtain⟨a,a1,a2,a3,rfl⟩:=a6 he;obtain⟨b,b1,b2,rfl⟩:=cy hf;have:a=i:=by lia
  subst this;exact hk b b1 b2)
 rw[<-gj (x:=x) (by lia)] at m1;by_cases c:(i + 1 + 1==x.size)=true
 ·rw[if_pos c];have c':i + 1 + 1=x.size:=by simpa using c
  refine Pm (q _ (.inl ⟨_,rfl,?_⟩));rw[gp];exact m1.sY M.sa M.sb (M.lst c')
 ·rw[if_neg c];have c':¬i + 1 + 1=x.size:=by simpa using c
  have g:GP O ky x y n none (o.push (kas_item x i)) (i + 1) j:= .inr ⟨rfl,⟨m1,by lia,hj⟩,by lia⟩;by_cases d:(decide (ca < 7)&&decide (cb < 7))=true
  ·rw[if_pos d];exact Pm (q _ g)
  ·rw[if_neg d];exact Pm (q _ ⟨rfl,g⟩)
theorem wC (T:Tells prog w A κ s O ky Mem) {x y o:Array Keyed} (M:MP O ky Mem x y) {i j mg ca cb n:Nat} (h:MI O ky x.toList y.toList o.toList i j) (hi:i + 1 < x.size) (hj:j < y.size) (hk:∀l,i<=l->l < x.size->le O ky (kas_item y j) (kas_item x l)) (hn:n<=i + j + 1) {st:SortSt} (hs:kindOf st=κ)
  {Q:ForInStep GS->SortSt->Shared->Prop} (q:∀r,vv O ky x y n r->Q r st s):kasC (model prog w) A E (IC x y o i j mg ca cb) Q st s:=by
 unfold IC;refine Pi (aQ (aC hj) ?_);have m1:=h.oA (k:=1) M.sb (λe he f hf=>by
  obtain⟨a,a1,a2,a3,rfl⟩:=a6 he;obtain⟨b,b1,b2,rfl⟩:=cy hf;have:a=j:=by lia
  subst this;exact hk b b1 b2)
 rw[<-gj (x:=y) hj] at m1;by_cases c:(j + 1==y.size)=true
 ·rw[if_pos c];have c':j + 1=y.size:=by simpa using c
  refine Pm (q _ (.inl ⟨_,rfl,?_⟩));rw[fW];exact m1.su M.sa (by simp;lia)
 ·rw[if_neg c];have c':¬j + 1=y.size:=by simpa using c
  refine Pi (aQ (aC (by lia)) (Pi ?_));refine i5 T (λt=>kas_item y (j + 1 + t)) (λt ht=>aC (by lia)) (λt ht=>M.mb _ (by lia)) (M.ma i (by lia)) (by lia) (λa b gP hb oU=>?_) hs (λk hk1 cJ lj=>?_)
  ·unfold dR at oU ⊢;rw[if_pos rfl] at oU ⊢;have:=cD M.sb (show j + 1 + a<=j + 1 + b by lia) (by lia);exact KeyOrd.klt_of_kle_of_klt this oU
  ·have lo:∀t,t < k->O.blt (ky (kas_item y (j + 1 + t))) (ky (kas_item x i))=true:=λt ht=>by have:=cJ t ht;unfold dR at this;rw[if_pos rfl] at this;exact this
   have uF:∀l,j + 1 + k<=l->l < y.size->le O ky (kas_item x i) (kas_item y l):=λl jC eF=>by have z:=lj (l - (j + 1)) (by lia) (by lia);unfold dR at z;rw[if_pos rfl] at z;have z2:O.blt (ky (kas_item y (j + 1 + (l - (j + 1))))) (ky (kas_item x i))=false:=z;rw[show j + 1 + (l - (j + 1))=l by lia] at z2;exact z2
   dsimp only;by_cases k0:k > 0
   ·rw[if_pos k0];have m2:=m1.oA (k:=k) M.sb (λe he f hf=>by
     obtain⟨a,a1,a2,a3,rfl⟩:=a6 he;obtain⟨b,b1,b2,rfl⟩:=cy hf;have h1:=lo (a - (j + 1)) (by lia);rw[show j + 1 + (a - (j + 1))=a by lia] at h1;exact PL (KeyOrd.kle_of_klt h1) (cD M.sa b1 b2))
    rw[<-kh,<-Array.toList_append] at m2;by_cases d:(j + 1 + k==y.size)=true
    ·rw[if_pos d];have d':j + 1 + k=y.size:=by simpa using d
     refine Pm (q _ (.inl ⟨_,rfl,?_⟩));rw[fW];exact m2.su M.sa (by simp;lia)
    ·rw[if_neg d];have d':¬j + 1 + k=y.size:=by simpa using d
     exact wD M m2 hi (by lia) uF (by lia) q
   ·rw[if_neg k0];have:k=0:=by lia
    subst this;exact wD M m1 hi (by lia) uF (by lia) q
theorem wB (T:Tells prog w A κ s O ky Mem) {x y o:Array Keyed} (M:MP O ky Mem x y) {i j mg ca cb n:Nat} (h:y9 O ky x y o i j) (hn:n<=i + j) {dy st:SortSt} (hs:kindOf st=κ) (o4:SI dy st)
  {Q:ForInStep GS->SortSt->Shared->Prop} (q:∀r ak,SI dy ak->vv O ky x y n r->Q r ak s):kasC (model prog w) A E (IA x y o i j mg ca cb) Q st s:=by
 unfold IA;have hi:=h.i1;have hj:=h.j1;refine Pi (jS λrg h1=>?_);have CN:kindOf rg=κ:=h1.1.trans hs;have q':=λr=>q r rg (o4.trans h1)
 refine Pi (aQ (aC hj) (Pi ?_));refine i5 T (λt=>kas_item x (i + t)) (λt ht=>aC (by lia)) (λt ht=>M.ma _ (by lia)) (M.mb j hj) (by lia) (λa b gP hb oU=>?_) CN (λk hk1 cJ lj=>?_)
 ·unfold dR at oU ⊢;rw[if_neg (by simp)] at oU ⊢;have:=cD M.sa (show i + a<=i + b by lia) (by lia);cases z:O.blt (ky (kas_item y j)) (ky (kas_item x (i + a))) with
  | false=>rfl
  | true=>have z2:O.blt (ky (kas_item y j)) (ky (kas_item x (i + b)))=true:=KeyOrd.klt_of_klt_of_kle z this;have wL:(!O.blt (ky (kas_item y j)) (ky (kas_item x (i + b))))=true:=oU;rw[z2] at wL;cases wL
 ·have lo:∀t,t < k->le O ky (kas_item x (i + t)) (kas_item y j):=λt ht=>by have z:=cJ t ht;unfold dR at z;rw[if_neg (by simp)] at z;have z2:(!O.blt (ky (kas_item y j)) (ky (kas_item x (i + t))))=true:=z;show O.blt (ky (kas_item y j)) (ky (kas_item x (i + t)))=false;simpa using z2
  have uF:∀l,i + k<=l->l < x.size->le O ky (kas_item y j) (kas_item x l):=λl jC eF=>by
   have z:=lj (l - i) (by lia) (by lia);unfold dR at z;rw[if_neg (by simp)] at z;have z2:(!O.blt (ky (kas_item y j)) (ky (kas_item x (i + (l - i)))))=false:=z;rw[show i + (l - i)=l by lia] at z2;have z3:O.blt (ky (kas_item y j)) (ky (kas_item x l))=true:=by simpa using z2
   exact KeyOrd.kle_of_klt z3
  dsimp only;by_cases k0:k > 0
  ·rw[if_pos k0];have m2:=h.m.oz (k:=k) M.sa (λe he f hf=>by
    obtain⟨a,a1,a2,a3,rfl⟩:=a6 he;obtain⟨b,b1,b2,rfl⟩:=cy hf;have h1:=lo (a - i) (by lia);rw[show i + (a - i)=a by lia] at h1;exact PL h1 (cD M.sb b1 b2))
   rw[<-kh,<-Array.toList_append] at m2;by_cases c:(i + k + 1==x.size)=true
   ·rw[if_pos c];have c':i + k + 1=x.size:=by simpa using c
    refine Pm (q' _ (.inl ⟨_,rfl,?_⟩));rw[gp];exact m2.sY M.sa M.sb (M.lst c')
   ·rw[if_neg c];have c':¬i + k + 1=x.size:=by simpa using c
    by_cases d:(i + k==x.size)=true
    ·rw[if_pos d];have d':i + k=x.size:=by simpa using d
     refine Pm (q' _ (.inl ⟨_,rfl,?_⟩));rw[fW];exact m2.Fy M.sb (by simp;lia)
    ·rw[if_neg d];have d':¬i + k=x.size:=by simpa using d
     exact wC T M m2 (by lia) hj uF (by lia) CN q'
  ·rw[if_neg k0];have:k=0:=by lia
   subst this;exact wC T M h.m hi hj uF (by lia) CN q'
end
section
variable {O:KeyOrd} {ky:Keyed->O.α} {Mem:Keyed->Prop}
variable {prog:Program} {w:World} {A:Around} {E:Value->Shared->Prop} {κ:SortKind} {s:Shared}
noncomputable def SStep (O:KeyOrd) (ky:Keyed->O.α) (x y:Array Keyed) (n:Nat):ForInStep SS->Prop
 | .done r=>GP O ky x y n r.1 r.2.1 r.2.2.1 r.2.2.2.1
 | .yield r=>r.1=none/\GP O ky x y n r.1 r.2.1 r.2.2.1 r.2.2.2.1
theorem GP.none {x y:Array Keyed} {n:Nat} {v:Option (Array Keyed)} {o:Array Keyed} {i j:Nat} (h:GP O ky x y n v o i j) (hv:v=none):y9 O ky x y o i j/\n<=i + j:=by
 rcases h with ⟨a,e,_⟩ | ⟨_,h⟩
 ·rw[hv] at e;cases e
 ·exact h
theorem D9 (T:Tells prog w A κ s O ky Mem) {x y:Array Keyed} (M:MP O ky Mem x y) {mg:Nat} {r:SS} (h:y9 O ky x y r.2.1 r.2.2.1 r.2.2.2.1) {n:Nat} (hn:n<=r.2.2.1 + r.2.2.2.1 + 1) {st:SortSt} (hs:kindOf st=κ)
  {Q:ForInStep SS->SortSt->Shared->Prop} (q:∀r',SStep O ky x y n r'->Q r' st s):kasC (model prog w) A E (Lo x y mg r) Q st s:=by
 obtain⟨v,o,i,j,ca,cb⟩:=r;have hi:i + 1 < x.size:=h.i1;have hj:j < y.size:=h.j1;have hm:MI O ky x.toList y.toList o.toList i j:=h.m;dsimp only at hn;unfold Lo;dsimp only;refine Pi (aQ (aC hj) (Pi (aQ (aC (by lia)) (Pi (px T (M.mb j hj) (M.ma i (by lia)) hs ?_)))));dsimp only;cases c:O.blt (ky (kas_item y j)) (ky (kas_item x i)) with
 | true=>
  rw[if_pos rfl];refine Pi (aQ (aC hj) ?_);have m1:=hm.oA (k:=1) M.sb (λe he f hf=>by
   obtain⟨a,a1,a2,a3,rfl⟩:=a6 he;obtain⟨b,b1,b2,rfl⟩:=cy hf;have:a=j:=by lia
   subst this;exact PL (KeyOrd.kle_of_klt c) (cD M.sa b1 b2))
  rw[<-gj (x:=y) hj] at m1;by_cases d:(j + 1==y.size)=true
  ·rw[if_pos d];have d':j + 1=y.size:=by simpa using d
   refine Pm (q _ (.inl ⟨_,rfl,?_⟩));rw[fW];exact m1.su M.sa (by simp;lia)
  ·rw[if_neg d];have d':¬j + 1=y.size:=by simpa using d
   have g:GP O ky x y n none (o.push (kas_item y j)) i (j + 1):= .inr ⟨rfl,⟨m1,hi,by lia⟩,by lia⟩;by_cases e:cb + 1>=mg
   ·rw[if_pos e];exact Pm (q _ g)
   ·rw[if_neg e];exact Pm (q _ ⟨rfl,g⟩)
 | false=>
  rw[if_neg (by simp)];refine Pi (aQ (aC (by lia)) ?_);have m1:=hm.oz (k:=1) M.sa (λe he f hf=>by
   obtain⟨a,a1,a2,a3,rfl⟩:=a6 he;obtain⟨b,b1,b2,rfl⟩:=cy hf;have:a=i:=by lia
   subst this;exact PL (show O.kle (ky (kas_item x a)) (ky (kas_item y j)) from c) (cD M.sb b1 b2))
  rw[<-gj (x:=x) (by lia)] at m1;by_cases d:(i + 1 + 1==x.size)=true
  ·rw[if_pos d];have d':i + 1 + 1=x.size:=by simpa using d
   refine Pm (q _ (.inl ⟨_,rfl,?_⟩));rw[gp];exact m1.sY M.sa M.sb (M.lst d')
  ·rw[if_neg d];have d':¬i + 1 + 1=x.size:=by simpa using d
   have g:GP O ky x y n none (o.push (kas_item x i)) (i + 1) j:= .inr ⟨rfl,⟨m1,by lia,hj⟩,by lia⟩;by_cases e:ca + 1>=mg
   ·rw[if_pos e];exact Pm (q _ g)
   ·rw[if_neg e];exact Pm (q _ ⟨rfl,g⟩)
noncomputable def E4 (O:KeyOrd) (ky:Keyed->O.α) (x y:Array Keyed) (n:Nat):ForInStep OS->Prop
 | .done r=>∃a,r.1=some a/\qk O ky x.toList y.toList a.toList
 | .yield r=>r.1=none/\y9 O ky x y r.2.1 r.2.2.1 r.2.2.2.1/\n<=r.2.2.1 + r.2.2.2.1
theorem Ao (T:Tells prog w A κ s O ky Mem) {x y:Array Keyed} (M:MP O ky Mem x y) {r:OS} (h:y9 O ky x y r.2.1 r.2.2.1 r.2.2.2.1) {n:Nat} (hn:n<=r.2.2.1 + r.2.2.2.1) {dy st:SortSt} (hs:kindOf st=κ) (o4:SI dy st)
  {Q:ForInStep OS->SortSt->Shared->Prop} (q:∀r' ak,SI dy ak->E4 O ky x y (n + 1) r'->Q r' ak s):kasC (model prog w) A E (Dx x y r) Q st s:=by
 unfold Dx;have hp:=M.pa;refine Pi (bM (Q:=λa ak s'=>st=ak/\s=s'/\GP O ky x y (n + 1) a.1 a.2.1 a.2.2.1 a.2.2.2.1) (kasC_range (cW (λjj a ak=>st=ak/\a.1=none/\y9 O ky x y a.2.1 a.2.2.1 a.2.2.2.1/\n + jj<=a.2.2.1 + a.2.2.2.1) ⟨rfl,rfl,h,by simpa using hn⟩ (λjj a ak z hj hI=>?_) (λa ak hI=>?_))) (λa ak s' hI=>?_))
 ·obtain⟨rfl,a0,BZ,an⟩:=hI;refine D9 T M BZ (n:=n + jj + 1) (by lia) hs (λr' hJ=>⟨rfl,?_⟩);cases r' with
  | done b=>
   refine⟨rfl,rfl,?_⟩;rcases hJ with ⟨v,e,m⟩ | ⟨e,ok,l⟩
   ·exact .inl ⟨v,e,m⟩
   ·exact .inr ⟨e,ok,by lia⟩
  | yield b=>obtain⟨b0,gb⟩:=hJ;obtain⟨ok,l⟩:=gb.none b0;exact⟨rfl,b0,ok,by lia⟩
 ·obtain⟨rfl,a0,BZ,an⟩:=hI;rw[List.length_range'] at an;exact⟨rfl,rfl,.inr ⟨a0,BZ,by lia⟩⟩
 obtain⟨rfl,rfl,ga⟩:=hI;rcases ga with ⟨v,e,m⟩ | ⟨e,ok,l⟩
 ·rw[e];exact Pm (q _ _ o4 ⟨v,rfl,m⟩)
 ·rw[e];refine Pi (kasC_lift (wpAny_rule ?_));refine Pi (bM (Q:=λb ak s'=>SI dy ak/\s=s'/\GP O ky x y (n + 1) b.1 b.2.1 b.2.2.1 b.2.2.2.1) (kasC_range (cW (λjj b ak=>SI dy ak/\kindOf ak=κ/\b.1=none/\y9 O ky x y b.2.1 b.2.2.1 b.2.2.2.1/\n + 1<=b.2.2.1 + b.2.2.2.1) ⟨o4,hs,rfl,ok,l⟩ (λjj b ak z hj hI=>?_) (λb ak hI=>?_))) (λb ak s' hI=>?_))
  ·obtain⟨si,ks,b0,zt,bn⟩:=hI;have kk:∀dM,SI dy dM->kindOf dM=κ:=λdM h2=>(h2.1.trans si.1.symm).trans ks
   by_cases c:b.2.2.2.2.1 > 1
   ·rw[if_pos c];refine wB T M zt bn ks si (λr' dM h2 hJ=>⟨rfl,?_⟩);cases r' with
    | done b'=>exact⟨h2,rfl,hJ⟩
    | yield b'=>obtain⟨c0,gc⟩:=hJ;obtain⟨Dj,l'⟩:=gc.none c0;exact⟨h2,kk dM h2,c0,Dj,l'⟩
   ·rw[if_neg c];refine wB T M zt bn ks si (λr' dM h2 hJ=>⟨rfl,?_⟩);cases r' with
    | done b'=>exact⟨h2,rfl,hJ⟩
    | yield b'=>obtain⟨c0,gc⟩:=hJ;obtain⟨Dj,l'⟩:=gc.none c0;exact⟨h2,kk dM h2,c0,Dj,l'⟩
  ·obtain⟨si,ks,b0,zt,bn⟩:=hI;exact⟨si,rfl,.inr ⟨b0,zt,bn⟩⟩
  obtain⟨si,rfl,gb⟩:=hI;rcases gb with ⟨v,e2,m⟩ | ⟨e2,KS,l2⟩
  ·rw[e2];exact Pm (q _ _ si ⟨v,rfl,m⟩)
  ·rw[e2];exact Pi (jS λdM h2=>Pm (q _ _ (si.trans h2) ⟨rfl,KS,l2⟩))
theorem Ae (T:Tells prog w A κ s O ky Mem) {x y:Array Keyed} (M:MP O ky Mem x y) {st:SortSt} (hs:kindOf st=κ) {Q:Array Keyed->SortSt->Shared->Prop} (q:∀v ak,SI st ak->qk O ky x.toList y.toList v.toList->Q v ak s):kasC (model prog w) A E (Da x y) Q st s:=by
 rw[Ad];unfold Ms;have hp:=M.pa;have hq:=M.pb;refine Pi (kasC_lift (wpAny_rule ?_));refine Pi (aQ (aC (by lia)) ?_);have m1:=(MI.start (O:=O) (ky:=ky) (la:=x.toList) (lb:=y.toList)).oA (k:=1) M.sb (λe he f hf=>by
  obtain⟨a,a1,a2,a3,rfl⟩:=a6 he;obtain⟨b,b1,b2,rfl⟩:=cy hf;have:a=0:=by lia
  subst this;exact PL (KeyOrd.kle_of_klt M.first) (cD M.sa (Nat.zero_le b) b2))
 have e0:(#[kas_item y 0]:Array Keyed).toList=[]++(y.toList.drop 0).take 1:=by rw[take_one (by lia)];rfl
 rw[<-e0,Nat.zero_add] at m1;by_cases c:(1==y.size)=true
 ·rw[if_pos c];have c':1=y.size:=by simpa using c
  refine Pm (q _ _ (SI.refl _) ?_);rw[fW];exact m1.su M.sa (by simp;lia)
 ·rw[if_neg c];have c':¬1=y.size:=by simpa using c
  by_cases d:(0 + 1==x.size)=true
  ·rw[if_pos d];have d':0 + 1=x.size:=by simpa using d
   refine Pm (q _ _ (SI.refl _) ?_);rw[gp];exact m1.sY M.sa M.sb (M.lst d')
  ·rw[if_neg d];have d':¬0 + 1=x.size:=by simpa using d
   refine Pi (kasC_get ?_);refine Pi (bM (Q:=λr ak s'=>SI st ak/\s=s'/\∃a,r.1=some a/\qk O ky x.toList y.toList a.toList) (kasC_range (cW (λjj r ak=>SI st ak/\r.1=none/\y9 O ky x y r.2.1 r.2.2.1 r.2.2.2.1/\jj + 1<=r.2.2.1 + r.2.2.2.1) ⟨SI.refl _,rfl,⟨m1,(show 0 + 1 < x.size by lia),(show 1 < y.size by lia)⟩,by simp⟩ (λjj r ak z hj hI=>?_) (λr ak hI=>?_))) (λr ak s' hI=>?_))
   ·obtain⟨si,r0,AL,rn⟩:=hI;refine Ao T M AL rn (si.1.trans hs) si (λr' dM h2 hJ=>⟨rfl,?_⟩);cases r' with
    | done b=>exact⟨h2,rfl,hJ⟩
    | yield b=>exact⟨h2,hJ.1,hJ.2.1,hJ.2.2⟩
   ·obtain⟨si,r0,AL,rn⟩:=hI;rw[List.length_range'] at rn;have h1:=AL.i1;have h2:=AL.j1
    lia
   obtain⟨si,rfl,a,e,m⟩:=hI;rw[e];exact Pm (q _ _ si m)
end
section
variable {O:KeyOrd} {ky:Keyed->O.α}
structure HI (O:KeyOrd) (ky:Keyed->O.α) (la lb R:List Keyed) (i j:Nat):Prop where
 p:R.Perm (la.drop i++lb.drop j)
 s:iq O ky R
 a:∀x∈la.take i,∀y∈R,le O ky x y
 b:∀x∈lb.take j,∀y∈R,le O ky x y
theorem f6 {l:List Keyed} {i k:Nat} (h:k<=i):l.take i=l.take k++(l.drop k).take (i - k):=by have:=g6 (l:=l) (i:=k) (k:=i - k);rw[show k + (i - k)=i by lia] at this;exact this
theorem j5 {l:List Keyed} {i k:Nat} (h:k<=i):l.drop k=(l.drop k).take (i - k)++l.drop i:=by have:=cL (l:=l) (i:=k) (k:=i - k);rw[show k + (i - k)=i by lia] at this;exact this
theorem HI.oz {la lb R:List Keyed} {i k j:Nat} (h:HI O ky la lb R i j) (hk:k<=i) (sa:iq O ky la) (hb:∀e∈(la.drop k).take (i - k),∀y∈lb.take j,le O ky y e):HI O ky la lb ((la.drop k).take (i - k)++R) k j:=by
 have st:iq O ky (la.take i):=sa.sublist (List.take_sublist _ _);rw[f6 hk] at st;obtain⟨s1,s2,s3⟩:=List.pairwise_append.mp st;have m1:∀y∈(la.drop k).take (i - k),y∈la.take i:=λy hy=>by rw[f6 hk];exact PU _ hy
 have m2:∀y∈la.take k,y∈la.take i:=λy hy=>by rw[f6 hk];exact List.mem_append_left _ hy
 refine⟨?_,List.pairwise_append.mpr ⟨s2,h.s,λx hx y hy=>h.a x (m1 x hx) y hy⟩,λx hx y hy=>?_,λx hx y hy=>?_⟩
 ·refine(h.p.append_left _).trans ?_;rw[<-Pt,<-j5 (l:=la) hk]
 ·rcases PD.mp hy with hy | hy
  ·exact s3 x hx y hy
  ·exact h.a x (m2 x hx) y hy
 ·rcases PD.mp hy with hy | hy
  ·exact hb y hy x hx
  ·exact h.b x hx y hy
theorem HI.oA {la lb R:List Keyed} {i k j:Nat} (h:HI O ky la lb R i j) (hk:k<=j) (sb:iq O ky lb) (hb:∀e∈(lb.drop k).take (j - k),∀y∈la.take i,le O ky y e):HI O ky la lb ((lb.drop k).take (j - k)++R) i k:=by
 have st:iq O ky (lb.take j):=sb.sublist (List.take_sublist _ _);rw[f6 hk] at st;obtain⟨s1,s2,s3⟩:=List.pairwise_append.mp st;have m1:∀y∈(lb.drop k).take (j - k),y∈lb.take j:=λy hy=>by rw[f6 hk];exact PU _ hy
 have m2:∀y∈lb.take k,y∈lb.take j:=λy hy=>by rw[f6 hk];exact List.mem_append_left _ hy
 refine⟨?_,List.pairwise_append.mpr ⟨s2,h.s,λx hx y hy=>h.b x (m1 x hx) y hy⟩,λx hx y hy=>?_,λx hx y hy=>?_⟩
 ·refine(h.p.append_left _).trans ?_;rw[<-Pt];refine(List.Perm.append_right _ List.perm_append_comm).trans ?_;rw[Pt,<-j5 (l:=lb) hk]
 ·rcases PD.mp hy with hy | hy
  ·exact hb y hy x hx
  ·exact h.a x hx y hy
 ·rcases PD.mp hy with hy | hy
  ·exact s3 x hx y hy
  ·exact h.b x (m2 x hx) y hy
theorem HI.i4 {la lb R:List Keyed} {i j:Nat} (h:HI O ky la lb R i j) (sa:iq O ky la) (sb:iq O ky lb) (hf:∀x∈lb.take j,∀y∈la.take i,le O ky x y):qk O ky la lb (lb.take j++la.take i++R):=by
 refine⟨?_,?_⟩
 ·refine(h.p.append_left _).trans ?_;rw[Pt,<-Pt (la.take i),List.take_append_drop];refine(List.perm_append_comm).trans ?_;rw[Pt];refine List.Perm.append_left _ ((List.perm_append_comm).trans ?_);rw[List.take_append_drop]
 ·refine List.pairwise_append.mpr ⟨List.pairwise_append.mpr ⟨sb.sublist (List.take_sublist _ _),sa.sublist (List.take_sublist _ _),hf⟩,h.s,λx hx y hy=>?_⟩;rcases PD.mp hx with hx | hx
  ·exact h.b x hx y hy
  ·exact h.a x hx y hy
theorem HI.sr {la lb R:List Keyed} {j:Nat} (h:HI O ky la lb R 0 j) (sa:iq O ky la) (sb:iq O ky lb):qk O ky la lb (la.take 0++lb.take j++R):=by have:=h.i4 sa sb (λx hx y hy=>absurd hy (by simp));simpa using this
theorem HI.Cn {la lb R:List Keyed} {i:Nat} (h:HI O ky la lb R i 0) (sa:iq O ky la) (sb:iq O ky lb):qk O ky la lb (la.take i++lb.take 0++R):=by have:=h.i4 sa sb (λx hx y hy=>absurd hx (by simp));simpa using this
theorem HI.start {la lb:List Keyed}:HI O ky la lb [] la.length lb.length:=⟨by simp,List.Pairwise.nil,λx _ y hy=>absurd hy (by simp),λx _ y hy=>absurd hy (by simp)⟩
end
noncomputable def C9:Array Keyed->Array Keyed->StateT SortSt Sem (Array Keyed):=sortPriv% PySem.Builtin.mergeHi
noncomputable abbrev GH:=Option (Array Keyed)×Nat×Nat×Array Keyed×Nat×Nat×Nat
noncomputable abbrev SH:=Option (Array Keyed)×Nat×Nat×Array Keyed×Nat×Nat
noncomputable abbrev OH:=Option (Array Keyed)×Nat×Nat×Array Keyed×Nat
noncomputable def lC (x y o:Array Keyed) (i j:Nat):Array Keyed:=x.extract 0 i++y.extract 0 j++o.reverse
noncomputable def uB (x y o:Array Keyed) (i j:Nat):Array Keyed:=y.extract 0 j++x.extract 0 i++o.reverse
noncomputable def IL (x y o:Array Keyed) (i j mg ca cb:Nat):StateT SortSt Sem (ForInStep GH):=do
 let e<-elem' x (i - 1)
 if (i - 1==0)=true then pure (.done (some (lC x y (o.push e) (i - 1) j),i - 1,j,o.push e,mg,ca,cb))
 else if (decide (ca < 7)&&decide (cb < 7))=true then pure (.done (none,i - 1,j,o.push e,mg,ca,cb))
 else pure (.yield (none,i - 1,j,o.push e,mg,ca,cb))
noncomputable def eF (x y o:Array Keyed) (i j mg ca qd:Nat):StateT SortSt Sem (ForInStep GH):=do
 let e<-elem' y (j - 1)
 if (j - 1==1)=true then pure (.done (some (uB x y (o.push e) i (j - 1)),i,j - 1,o.push e,mg,ca,qd))
 else do
  let f<-elem' x (i - 1)
  let r<-Bj true f y 0 (j - 1) (j - 1 - 1)
  match r with
  | some k=>
   if j - 1 - k > 0 then
    if (k==1)=true then pure (.done (some (uB x y (o.push e++(y.extract k (j - 1)).reverse) i k),i,k,o.push e++(y.extract k (j - 1)).reverse,mg,ca,j - 1 - k))
    else if (k==0)=true then pure (.done (some (lC x y (o.push e++(y.extract k (j - 1)).reverse) i k),i,k,o.push e++(y.extract k (j - 1)).reverse,mg,ca,j - 1 - k))
    else IL x y (o.push e++(y.extract k (j - 1)).reverse) i k mg ca (j - 1 - k)
   else IL x y (o.push e) i (j - 1) mg ca (j - 1 - k)
  | _=>pure (.done (some (lC x y (o.push e) i (j - 1)),i,j - 1,o.push e,mg,ca,qd))
noncomputable def jC (x y o:Array Keyed) (i j mg JE qd:Nat):StateT SortSt Sem (ForInStep GH):=do
 setG mg
 let e<-elem' y (j - 1)
 let r<-Bj false e x 0 i (i - 1)
 match r with
 | some k=>
  if i - k > 0 then
   if (k==0)=true then pure (.done (some (lC x y (o++(x.extract k i).reverse) k j),k,j,o++(x.extract k i).reverse,mg,i - k,qd))
   else eF x y (o++(x.extract k i).reverse) k j mg (i - k) qd
  else eF x y o i j mg (i - k) qd
 | _=>pure (.done (some (lC x y o i j),i,j,o,mg,JE,qd))
noncomputable def Lm (x y:Array Keyed) (mg:Nat) (r:SH):StateT SortSt Sem (ForInStep SH):=do
 let e<-elem' y (r.2.2.1 - 1)
 let f<-elem' x (r.2.1 - 1)
 let c<-lt' e f
 match c with
 | some xw=>
  if xw=true then do
   let f<-elem' x (r.2.1 - 1)
   if (r.2.1 - 1==0)=true then pure (.done (some (lC x y (r.2.2.2.1.push f) (r.2.1 - 1) r.2.2.1),r.2.1 - 1,r.2.2.1,r.2.2.2.1.push f,r.2.2.2.2.1 + 1,0))
   else if r.2.2.2.2.1 + 1>=mg then pure (.done (none,r.2.1 - 1,r.2.2.1,r.2.2.2.1.push f,r.2.2.2.2.1 + 1,0))
   else pure (.yield (none,r.2.1 - 1,r.2.2.1,r.2.2.2.1.push f,r.2.2.2.2.1 + 1,0))
  else do
   let e<-elem' y (r.2.2.1 - 1)
   if (r.2.2.1 - 1==1)=true then pure (.done (some (uB x y (r.2.2.2.1.push e) r.2.1 (r.2.2.1 - 1)),r.2.1,r.2.2.1 - 1,r.2.2.2.1.push e,0,r.2.2.2.2.2 + 1))
   else if r.2.2.2.2.2 + 1>=mg then pure (.done (none,r.2.1,r.2.2.1 - 1,r.2.2.2.1.push e,0,r.2.2.2.2.2 + 1))
   else pure (.yield (none,r.2.1,r.2.2.1 - 1,r.2.2.2.1.push e,0,r.2.2.2.2.2 + 1))
 | _=>pure (.done (some (lC x y r.2.2.2.1 r.2.1 r.2.2.1),r.2.1,r.2.2.1,r.2.2.2.1,r.2.2.2.2.1,r.2.2.2.2.2))
noncomputable def Dy (x y:Array Keyed) (r:OH):StateT SortSt Sem (ForInStep OH):=do
 let a<-forIn [:x.size + y.size] ((none,r.2.1,r.2.2.1,r.2.2.2.1,0,0):SH) λ_ a=>Lm x y r.2.2.2.2 a
 match a.1 with
 | some v=>pure (.done (some v,a.2.1,a.2.2.1,a.2.2.2.1,r.2.2.2.2))
 | none=>do
  rule "list.sort.gallop"
  let b<-forIn [:x.size + y.size] ((none,a.2.1,a.2.2.1,a.2.2.2.1,r.2.2.2.2 + 1,a.2.2.2.2.1,a.2.2.2.2.2):GH) λ_ b=>
   if b.2.2.2.2.1 > 1 then jC x y b.2.2.2.1 b.2.1 b.2.2.1 (b.2.2.2.2.1 - 1) b.2.2.2.2.2.1 b.2.2.2.2.2.2 else jC x y b.2.2.2.1 b.2.1 b.2.2.1 b.2.2.2.2.1 b.2.2.2.2.2.1 b.2.2.2.2.2.2
  match b.1 with
  | some v=>pure (.done (some v,b.2.1,b.2.2.1,b.2.2.2.1,b.2.2.2.2.1))
  | none=>do
   setG (b.2.2.2.2.1 + 1)
   pure (.yield (none,b.2.1,b.2.2.1,b.2.2.2.1,b.2.2.2.2.1 + 1))
noncomputable def Md (x y:Array Keyed):StateT SortSt Sem (Array Keyed):=do
 rule "list.sort.merge-hi"
 let e<-elem' x (x.size - 1)
 if (x.size - 1==0)=true then pure (lC x y #[e] (x.size - 1) y.size)
 else if (y.size==1)=true then pure (uB x y #[e] (x.size - 1) y.size)
 else do
  let st<-get
  let r<-forIn [:x.size + y.size] ((none,x.size - 1,y.size,#[e],gallopOf st):OH) λ_ r=>Dy x y r
  match r.1 with
  | some a=>pure a
  | none=>unsupported "internal:list.sort.merge-bound"
theorem Ab (x y:Array Keyed):C9 x y=Md x y:=by kernel_rfl
theorem ng (x:Array Keyed) (i:Nat):(x.extract 0 i).toList=x.toList.take i:=by rw[Array.toList_extract];show (x.toList.drop 0).take (i - 0)=_;simp
theorem sD (x:Array Keyed) {k i:Nat}:(x.extract k i).toList=(x.toList.drop k).take (i - k):=by rw[Array.toList_extract]
theorem ez (x y o:Array Keyed) (i j:Nat):(lC x y o i j).toList=x.toList.take i++y.toList.take j++o.toList.reverse:=by unfold lC;rw[Array.toList_append,Array.toList_append,ng,ng,Array.toList_reverse]
theorem gh (x y o:Array Keyed) (i j:Nat):(uB x y o i j).toList=y.toList.take j++x.toList.take i++o.toList.reverse:=by unfold uB;rw[Array.toList_append,Array.toList_append,ng,ng,Array.toList_reverse]
theorem tL (x o:Array Keyed) (k i:Nat):(o++(x.extract k i).reverse).toList.reverse=(x.toList.drop k).take (i - k)++o.toList.reverse:=by rw[Array.toList_append,Array.toList_reverse,List.reverse_append,List.reverse_reverse,sD]
theorem iU {x o:Array Keyed} {i:Nat} (h1:1<=i) (h2:i<=x.size):(o.push (kas_item x (i - 1))).toList.reverse=(x.toList.drop (i - 1)).take (i - (i - 1))++o.toList.reverse:=by rw[show i - (i - 1)=1 by lia,take_one (by lia)];simp
section
variable {O:KeyOrd} {ky:Keyed->O.α} {Mem:Keyed->Prop}
variable {prog:Program} {w:World} {A:Around} {E:Value->Shared->Prop} {κ:SortKind} {s:Shared}
theorem fi {x:Array Keyed} {i:Nat} {e:Keyed} (h:e∈x.toList.take i):∃k,k < i/\k < x.size/\e=kas_item x k:=by
 have h':e∈(x.toList.drop 0).take i:=by simpa using h
 obtain⟨k,_,k1,k2,e⟩:=a6 h';exact⟨k,by lia,k2,e⟩
structure y8 (O:KeyOrd) (ky:Keyed->O.α) (x y o:Array Keyed) (i j:Nat):Prop where
 m:HI O ky x.toList y.toList o.toList.reverse i j
 i1:1<=i
 i2:i < x.size
 j1:2<=j
 j2:j<=y.size
theorem MP.fst {x y:Array Keyed} (h:MP O ky Mem x y) {i:Nat} (hi:i<=x.size):∀e∈y.toList.take 1,∀f∈x.toList.take i,le O ky e f:=λe he f hf=>by
 obtain⟨k,k1,k2,rfl⟩:=fi he;obtain⟨l,l1,l2,rfl⟩:=fi hf;have:k=0:=by lia
 subst this;exact PL (KeyOrd.kle_of_klt h.first) (cD h.sa (Nat.zero_le l) l2)
noncomputable def HP (O:KeyOrd) (ky:Keyed->O.α) (x y:Array Keyed) (n:Nat) (v:Option (Array Keyed)) (o:Array Keyed) (i j:Nat):Prop:=(∃a,v=some a/\qk O ky x.toList y.toList a.toList)\/(v=none/\y8 O ky x y o i j/\i + j + n<=x.size + y.size)
theorem HP.none {x y:Array Keyed} {n:Nat} {v:Option (Array Keyed)} {o:Array Keyed} {i j:Nat} (h:HP O ky x y n v o i j) (hv:v=none):y8 O ky x y o i j/\i + j + n<=x.size + y.size:=by
 rcases h with ⟨a,e,_⟩ | ⟨_,h⟩
 ·rw[hv] at e;cases e
 ·exact h
noncomputable def vw (O:KeyOrd) (ky:Keyed->O.α) (x y:Array Keyed) (n:Nat):ForInStep GH->Prop
 | .done r=>HP O ky x y n r.1 r.2.2.2.1 r.2.1 r.2.2.1
 | .yield r=>r.1=none/\HP O ky x y n r.1 r.2.2.2.1 r.2.1 r.2.2.1
theorem wU {x y o:Array Keyed} (M:MP O ky Mem x y) {i j mg ca cb n:Nat} (h:HI O ky x.toList y.toList o.toList.reverse i j) (hi:1<=i) (uF:i < x.size) (hj:2<=j) (zI:j<=y.size) (hk:∀l,l < j->le O ky (kas_item y l) (kas_item x (i - 1))) (hn:i - 1 + j + n<=x.size + y.size) {st:SortSt} {Q:ForInStep GH->SortSt->Shared->Prop}
  (q:∀r,vw O ky x y n r->Q r st s):kasC (model prog w) A E (IL x y o i j mg ca cb) Q st s:=by
 unfold IL;refine Pi (aQ (aC (by lia)) ?_);have m1:=h.oz (k:=i - 1) (by lia) M.sa (λe he f hf=>by
  obtain⟨a,a1,a2,a3,rfl⟩:=a6 he;obtain⟨b,b1,b2,rfl⟩:=fi hf;have:a=i - 1:=by lia
  subst this;exact hk b b1)
 rw[<-iU (x:=x) hi (by lia)] at m1;by_cases c:(i - 1==0)=true
 ·rw[if_pos c];have c':i - 1=0:=by simpa using c
  refine Pm (q _ (.inl ⟨_,rfl,?_⟩));rw[ez];rw[c'] at m1 ⊢;exact m1.sr M.sa M.sb
 ·rw[if_neg c];have c':¬i - 1=0:=by simpa using c
  have g:HP O ky x y n none (o.push (kas_item x (i - 1))) (i - 1) j:= .inr ⟨rfl,⟨m1,by lia,by lia,hj,zI⟩,by lia⟩;by_cases d:(decide (ca < 7)&&decide (cb < 7))=true
  ·rw[if_pos d];exact Pm (q _ g)
  ·rw[if_neg d];exact Pm (q _ ⟨rfl,g⟩)
theorem wR (T:Tells prog w A κ s O ky Mem) {x y o:Array Keyed} (M:MP O ky Mem x y) {i j mg ca cb n:Nat} (h:HI O ky x.toList y.toList o.toList.reverse i j) (hi:1<=i) (uF:i < x.size) (hj:2<=j) (zI:j<=y.size) (hk:∀l,l < i->le O ky (kas_item x l) (kas_item y (j - 1))) (hn:i + (j - 1) + n<=x.size + y.size) {st:SortSt} (hs:kindOf st=κ)
  {Q:ForInStep GH->SortSt->Shared->Prop} (q:∀r,vw O ky x y n r->Q r st s):kasC (model prog w) A E (eF x y o i j mg ca cb) Q st s:=by
 unfold eF;refine Pi (aQ (aC (by lia)) ?_);have m1:=h.oA (k:=j - 1) (by lia) M.sb (λe he f hf=>by
  obtain⟨a,a1,a2,a3,rfl⟩:=a6 he;obtain⟨b,b1,b2,rfl⟩:=fi hf;have:a=j - 1:=by lia
  subst this;exact hk b b1)
 rw[<-iU (x:=y) (by lia) zI] at m1;by_cases c:(j - 1==1)=true
 ·rw[if_pos c];have c':j - 1=1:=by simpa using c
  refine Pm (q _ (.inl ⟨_,rfl,?_⟩));rw[gh];rw[c'] at m1 ⊢;exact m1.i4 M.sa M.sb (M.fst (by lia))
 ·rw[if_neg c];have c':¬j - 1=1:=by simpa using c
  refine Pi (aQ (aC (by lia)) (Pi ?_));refine i5 T (λt=>kas_item y t) (λt ht=>by rw[Nat.zero_add];exact aC (by lia)) (λt ht=>M.mb _ (by lia)) (M.ma (i - 1) (by lia)) (by lia) (λa b gP hb oU=>?_) hs (λk hk1 cJ lj=>?_)
  ·unfold dR at oU ⊢;rw[if_pos rfl] at oU ⊢;have:=cD M.sb gP (by lia);exact KeyOrd.klt_of_kle_of_klt this oU
  ·have lo:∀t,t < k->le O ky (kas_item y t) (kas_item x (i - 1)):=λt ht=>by have z:=cJ t ht;unfold dR at z;rw[if_pos rfl] at z;exact KeyOrd.kle_of_klt z
   have up:∀t,k<=t->t < j - 1->le O ky (kas_item x (i - 1)) (kas_item y t):=λt h1 h2=>by have z:=lj t h1 h2;unfold dR at z;rw[if_pos rfl] at z;exact z
   dsimp only;by_cases k0:j - 1 - k > 0
   ·rw[if_pos k0];have m2:=m1.oA (k:=k) (by lia) M.sb (λe he f hf=>by
     obtain⟨a,a1,a2,a3,rfl⟩:=a6 he;obtain⟨b,b1,b2,rfl⟩:=fi hf;exact PL (cD M.sa (show b<=i - 1 by lia) (by lia)) (up a a1 (by lia)))
    rw[<-tL] at m2;by_cases d:(k==1)=true
    ·rw[if_pos d];have d':k=1:=by simpa using d
     subst d';refine Pm (q _ (.inl ⟨_,rfl,?_⟩));rw[gh];exact m2.i4 M.sa M.sb (M.fst (by lia))
    ·rw[if_neg d];have d':¬k=1:=by simpa using d
     by_cases e:(k==0)=true
     ·rw[if_pos e];have e':k=0:=by simpa using e
      subst e';refine Pm (q _ (.inl ⟨_,rfl,?_⟩));rw[ez];exact m2.Cn M.sa M.sb
     ·rw[if_neg e];have e':¬k=0:=by simpa using e
      exact wU M m2 hi uF (by lia) (by lia) lo (by lia) q
   ·rw[if_neg k0];exact wU M m1 hi uF (by lia) (by lia) (λl hl=>lo l (by lia)) (by lia) q
theorem wQ (T:Tells prog w A κ s O ky Mem) {x y o:Array Keyed} (M:MP O ky Mem x y) {i j mg ca cb n:Nat} (h:y8 O ky x y o i j) (hn:i + j + n<=x.size + y.size) {dy st:SortSt} (hs:kindOf st=κ) (o4:SI dy st)
  {Q:ForInStep GH->SortSt->Shared->Prop} (q:∀r ak,SI dy ak->vw O ky x y n r->Q r ak s):kasC (model prog w) A E (jC x y o i j mg ca cb) Q st s:=by
 unfold jC;have hi:=h.i1;have uF:=h.i2;have hj:=h.j1;have zI:=h.j2;refine Pi (jS λrg h1=>?_);have CN:kindOf rg=κ:=h1.1.trans hs;have q':=λr=>q r rg (o4.trans h1)
 refine Pi (aQ (aC (by lia)) (Pi ?_));refine i5 T (λt=>kas_item x t) (λt ht=>by rw[Nat.zero_add];exact aC (by lia)) (λt ht=>M.ma _ (by lia)) (M.mb (j - 1) (by lia)) (by lia) (λa b gP hb oU=>?_) CN (λk hk1 cJ lj=>?_)
 ·unfold dR at oU ⊢;rw[if_neg (by simp)] at oU ⊢;have:=cD M.sa gP (by lia);cases z:O.blt (ky (kas_item y (j - 1))) (ky (kas_item x a)) with
  | false=>rfl
  | true=>have z2:O.blt (ky (kas_item y (j - 1))) (ky (kas_item x b))=true:=KeyOrd.klt_of_klt_of_kle z this;have wL:(!O.blt (ky (kas_item y (j - 1))) (ky (kas_item x b)))=true:=oU;rw[z2] at wL;cases wL
 ·have lo:∀t,t < k->le O ky (kas_item x t) (kas_item y (j - 1)):=λt ht=>by have z:=cJ t ht;unfold dR at z;rw[if_neg (by simp)] at z;have z2:(!O.blt (ky (kas_item y (j - 1))) (ky (kas_item x t)))=true:=z;show O.blt (ky (kas_item y (j - 1))) (ky (kas_item x t))=false;simpa using z2
  have up:∀t,k<=t->t < i->le O ky (kas_item y (j - 1)) (kas_item x t):=λt h1 h2=>by
   have z:=lj t h1 h2;unfold dR at z;rw[if_neg (by simp)] at z;have z2:(!O.blt (ky (kas_item y (j - 1))) (ky (kas_item x t)))=false:=z;have z3:O.blt (ky (kas_item y (j - 1))) (ky (kas_item x t))=true:=by simpa using z2
   exact KeyOrd.kle_of_klt z3
  dsimp only;by_cases k0:i - k > 0
  ·rw[if_pos k0];have m2:=h.m.oz (k:=k) (by lia) M.sa (λe he f hf=>by
    obtain⟨a,a1,a2,a3,rfl⟩:=a6 he;obtain⟨b,b1,b2,rfl⟩:=fi hf;exact PL (cD M.sb (show b<=j - 1 by lia) (by lia)) (up a a1 (by lia)))
   rw[<-tL] at m2;by_cases e:(k==0)=true
   ·rw[if_pos e];have e':k=0:=by simpa using e
    subst e';refine Pm (q' _ (.inl ⟨_,rfl,?_⟩));rw[ez];exact m2.sr M.sa M.sb
   ·rw[if_neg e];have e':¬k=0:=by simpa using e
    exact wR T M m2 (by lia) (by lia) hj zI lo (by lia) CN q'
  ·rw[if_neg k0];exact wR T M h.m hi uF hj zI (λl hl=>lo l (by lia)) (by lia) CN q'
noncomputable def MU (O:KeyOrd) (ky:Keyed->O.α) (x y:Array Keyed) (n:Nat):ForInStep SH->Prop
 | .done r=>HP O ky x y n r.1 r.2.2.2.1 r.2.1 r.2.2.1
 | .yield r=>r.1=none/\HP O ky x y n r.1 r.2.2.2.1 r.2.1 r.2.2.1
theorem D7 (T:Tells prog w A κ s O ky Mem) {x y:Array Keyed} (M:MP O ky Mem x y) {mg:Nat} {r:SH} (h:y8 O ky x y r.2.2.2.1 r.2.1 r.2.2.1) {n:Nat} (hn:r.2.1 + r.2.2.1 + n<=x.size + y.size + 1) {st:SortSt} (hs:kindOf st=κ)
  {Q:ForInStep SH->SortSt->Shared->Prop} (q:∀r',MU O ky x y n r'->Q r' st s):kasC (model prog w) A E (Lm x y mg r) Q st s:=by
 obtain⟨v,i,j,o,ca,cb⟩:=r;have hi:1<=i:=h.i1;have uF:i < x.size:=h.i2;have hj:2<=j:=h.j1;have zI:j<=y.size:=h.j2;have hm:HI O ky x.toList y.toList o.toList.reverse i j:=h.m;dsimp only at hn;unfold Lm;dsimp only;refine Pi (aQ (aC (by lia)) (Pi (aQ (aC (by lia)) (Pi (px T (M.mb (j - 1) (by lia)) (M.ma (i - 1) (by lia)) hs ?_)))));dsimp only;cases c:O.blt (ky (kas_item y (j - 1))) (ky (kas_item x (i - 1))) with
 | true=>
  rw[if_pos rfl];refine Pi (aQ (aC (by lia)) ?_);have m1:=hm.oz (k:=i - 1) (by lia) M.sa (λe he f hf=>by
   obtain⟨a,a1,a2,a3,rfl⟩:=a6 he;obtain⟨b,b1,b2,rfl⟩:=fi hf;have:a=i - 1:=by lia
   subst this;exact PL (cD M.sb (show b<=j - 1 by lia) (by lia)) (KeyOrd.kle_of_klt c))
  rw[<-iU (x:=x) hi (by lia)] at m1;by_cases d:(i - 1==0)=true
  ·rw[if_pos d];have d':i - 1=0:=by simpa using d
   refine Pm (q _ (.inl ⟨_,rfl,?_⟩));rw[ez];rw[d'] at m1 ⊢;exact m1.sr M.sa M.sb
  ·rw[if_neg d];have d':¬i - 1=0:=by simpa using d
   have g:HP O ky x y n none (o.push (kas_item x (i - 1))) (i - 1) j:= .inr ⟨rfl,⟨m1,by lia,by lia,hj,zI⟩,by lia⟩;by_cases e:ca + 1>=mg
   ·rw[if_pos e];exact Pm (q _ g)
   ·rw[if_neg e];exact Pm (q _ ⟨rfl,g⟩)
 | false=>
  rw[if_neg (by simp)];refine Pi (aQ (aC (by lia)) ?_);have m1:=hm.oA (k:=j - 1) (by lia) M.sb (λe he f hf=>by
   obtain⟨a,a1,a2,a3,rfl⟩:=a6 he;obtain⟨b,b1,b2,rfl⟩:=fi hf;have:a=j - 1:=by lia
   subst this;exact PL (cD M.sa (show b<=i - 1 by lia) (by lia)) c)
  rw[<-iU (x:=y) (by lia) zI] at m1;by_cases d:(j - 1==1)=true
  ·rw[if_pos d];have d':j - 1=1:=by simpa using d
   refine Pm (q _ (.inl ⟨_,rfl,?_⟩));rw[gh];rw[d'] at m1 ⊢;exact m1.i4 M.sa M.sb (M.fst (by lia))
  ·rw[if_neg d];have d':¬j - 1=1:=by simpa using d
   have g:HP O ky x y n none (o.push (kas_item y (j - 1))) i (j - 1):= .inr ⟨rfl,⟨m1,hi,uF,by lia,by lia⟩,by lia⟩;by_cases e:cb + 1>=mg
   ·rw[if_pos e];exact Pm (q _ g)
   ·rw[if_neg e];exact Pm (q _ ⟨rfl,g⟩)
noncomputable def MS (O:KeyOrd) (ky:Keyed->O.α) (x y:Array Keyed) (n:Nat):ForInStep OH->Prop
 | .done r=>∃a,r.1=some a/\qk O ky x.toList y.toList a.toList
 | .yield r=>r.1=none/\y8 O ky x y r.2.2.2.1 r.2.1 r.2.2.1/\r.2.1 + r.2.2.1 + n<=x.size + y.size
theorem Ap (T:Tells prog w A κ s O ky Mem) {x y:Array Keyed} (M:MP O ky Mem x y) {r:OH} (h:y8 O ky x y r.2.2.2.1 r.2.1 r.2.2.1) {n:Nat} (hn:r.2.1 + r.2.2.1 + n<=x.size + y.size) {dy st:SortSt} (hs:kindOf st=κ) (o4:SI dy st)
  {Q:ForInStep OH->SortSt->Shared->Prop} (q:∀r' ak,SI dy ak->MS O ky x y (n + 1) r'->Q r' ak s):kasC (model prog w) A E (Dy x y r) Q st s:=by
 unfold Dy;have hp:=M.pa;refine Pi (bM (Q:=λa ak s'=>st=ak/\s=s'/\HP O ky x y (n + 1) a.1 a.2.2.2.1 a.2.1 a.2.2.1) (kasC_range (cW (λjj a ak=>st=ak/\a.1=none/\y8 O ky x y a.2.2.2.1 a.2.1 a.2.2.1/\a.2.1 + a.2.2.1 + n + jj<=x.size + y.size) ⟨rfl,rfl,h,by simpa using hn⟩ (λjj a ak z hj hI=>?_) (λa ak hI=>?_))) (λa ak s' hI=>?_))
 ·obtain⟨rfl,a0,BZ,an⟩:=hI;refine D7 T M BZ (n:=n + jj + 1) (by lia) hs (λr' hJ=>⟨rfl,?_⟩);cases r' with
  | done b=>
   refine⟨rfl,rfl,?_⟩;rcases hJ with ⟨v,e,m⟩ | ⟨e,ok,l⟩
   ·exact .inl ⟨v,e,m⟩
   ·exact .inr ⟨e,ok,by lia⟩
  | yield b=>obtain⟨b0,gb⟩:=hJ;obtain⟨ok,l⟩:=gb.none b0;exact⟨rfl,b0,ok,by lia⟩
 ·obtain⟨rfl,a0,BZ,an⟩:=hI;rw[List.length_range'] at an;exact⟨rfl,rfl,.inr ⟨a0,BZ,by lia⟩⟩
 obtain⟨rfl,rfl,ga⟩:=hI;rcases ga with ⟨v,e,m⟩ | ⟨e,ok,l⟩
 ·rw[e];exact Pm (q _ _ o4 ⟨v,rfl,m⟩)
 ·rw[e];refine Pi (kasC_lift (wpAny_rule ?_));refine Pi (bM (Q:=λb ak s'=>SI dy ak/\s=s'/\HP O ky x y (n + 1) b.1 b.2.2.2.1 b.2.1 b.2.2.1) (kasC_range (cW (λjj b ak=>SI dy ak/\kindOf ak=κ/\b.1=none/\y8 O ky x y b.2.2.2.1 b.2.1 b.2.2.1/\b.2.1 + b.2.2.1 + (n + 1)<=x.size + y.size) ⟨o4,hs,rfl,ok,l⟩ (λjj b ak z hj hI=>?_) (λb ak hI=>?_))) (λb ak s' hI=>?_))
  ·obtain⟨si,ks,b0,zt,bn⟩:=hI;have kk:∀dM,SI dy dM->kindOf dM=κ:=λdM h2=>(h2.1.trans si.1.symm).trans ks
   by_cases c:b.2.2.2.2.1 > 1
   ·rw[if_pos c];refine wQ T M zt bn ks si (λr' dM h2 hJ=>⟨rfl,?_⟩);cases r' with
    | done b'=>exact⟨h2,rfl,hJ⟩
    | yield b'=>obtain⟨c0,gc⟩:=hJ;obtain⟨Dj,l'⟩:=gc.none c0;exact⟨h2,kk dM h2,c0,Dj,l'⟩
   ·rw[if_neg c];refine wQ T M zt bn ks si (λr' dM h2 hJ=>⟨rfl,?_⟩);cases r' with
    | done b'=>exact⟨h2,rfl,hJ⟩
    | yield b'=>obtain⟨c0,gc⟩:=hJ;obtain⟨Dj,l'⟩:=gc.none c0;exact⟨h2,kk dM h2,c0,Dj,l'⟩
  ·obtain⟨si,ks,b0,zt,bn⟩:=hI;exact⟨si,rfl,.inr ⟨b0,zt,bn⟩⟩
  obtain⟨si,rfl,gb⟩:=hI;rcases gb with ⟨v,e2,m⟩ | ⟨e2,KS,l2⟩
  ·rw[e2];exact Pm (q _ _ si ⟨v,rfl,m⟩)
  ·rw[e2];exact Pi (jS λdM h2=>Pm (q _ _ (si.trans h2) ⟨rfl,KS,l2⟩))
theorem Ac (T:Tells prog w A κ s O ky Mem) {x y:Array Keyed} (M:MP O ky Mem x y) {st:SortSt} (hs:kindOf st=κ) {Q:Array Keyed->SortSt->Shared->Prop} (q:∀v ak,SI st ak->qk O ky x.toList y.toList v.toList->Q v ak s):kasC (model prog w) A E (C9 x y) Q st s:=by
 rw[Ab];unfold Md;have hp:=M.pa;have hq:=M.pb;refine Pi (kasC_lift (wpAny_rule ?_));refine Pi (aQ (aC (by lia)) ?_);have m0:=HI.start (O:=O) (ky:=ky) (la:=x.toList) (lb:=y.toList);have lx:x.toList.length=x.size:=by simp
 have ly:y.toList.length=y.size:=by simp
 rw[lx,ly] at m0;have m1:=m0.oz (k:=x.size - 1) (by lia) M.sa (λe he f hf=>by
  obtain⟨a,a1,a2,a3,rfl⟩:=a6 he;obtain⟨b,b1,b2,rfl⟩:=fi hf;have:a=x.size - 1:=by lia
  subst this;exact KeyOrd.kle_of_klt (M.last b b2))
 have e0:(#[kas_item x (x.size - 1)]:Array Keyed).toList.reverse=(x.toList.drop (x.size - 1)).take (x.size - (x.size - 1))++[]:=by rw[show x.size - (x.size - 1)=1 by lia,take_one (by lia)];rfl
 rw[<-e0] at m1;by_cases c:(x.size - 1==0)=true
 ·rw[if_pos c];have c':x.size - 1=0:=by simpa using c
  refine Pm (q _ _ (SI.refl _) ?_);rw[ez];rw[c'] at m1 ⊢;exact m1.sr M.sa M.sb
 ·rw[if_neg c];have c':¬x.size - 1=0:=by simpa using c
  by_cases d:(y.size==1)=true
  ·rw[if_pos d];have d':y.size=1:=by simpa using d
   refine Pm (q _ _ (SI.refl _) ?_);rw[gh];rw[d'] at m1 ⊢;exact m1.i4 M.sa M.sb (M.fst (by lia))
  ·rw[if_neg d];have d':¬y.size=1:=by simpa using d
   refine Pi (kasC_get ?_);refine Pi (bM (Q:=λr ak s'=>SI st ak/\s=s'/\∃a,r.1=some a/\qk O ky x.toList y.toList a.toList) (kasC_range (cW (λjj r ak=>SI st ak/\r.1=none/\y8 O ky x y r.2.2.2.1 r.2.1 r.2.2.1/\r.2.1 + r.2.2.1 + (jj + 1)<=x.size + y.size) ⟨SI.refl _,rfl,⟨m1,(show 1<=x.size - 1 by lia),(show x.size - 1 < x.size by lia),(show 2<=y.size by lia),Pj _⟩,(show x.size - 1 + y.size + (0 + 1)<=x.size + y.size by lia)⟩ (λjj r ak z hj hI=>?_) (λr ak hI=>?_))) (λr ak s' hI=>?_))
   ·obtain⟨si,r0,AL,rn⟩:=hI;refine Ap T M AL rn (si.1.trans hs) si (λr' dM h2 hJ=>⟨rfl,?_⟩);cases r' with
    | done b=>exact⟨h2,rfl,hJ⟩
    | yield b=>exact⟨h2,hJ.1,hJ.2.1,hJ.2.2⟩
   ·obtain⟨si,r0,AL,rn⟩:=hI;rw[List.length_range'] at rn;have h1:=AL.i1;have h2:=AL.j1
    lia
   obtain⟨si,rfl,a,e,m⟩:=hI;rw[e];exact Pm (q _ _ si m)
end
noncomputable def GD:Nat->StateT SortSt Sem Bool:=sortPriv% PySem.Builtin.mergeAt
noncomputable def back (M:Array Keyed) (p:Nat) (a:Array Keyed):Array Keyed:=M.toList.zipIdx.foldl (λb (q,j)=>b.setIfInBounds (p + j) q) a
theorem C7 (i:Nat):GD i=(do
 let t<-get
 let (some (p,n,pw),some (q,m,_)):=((pendingOf t)[i]?,(pendingOf t)[i + 1]?) | unsupported "internal:list.sort.pending"
 set (SortSt.mk' (kindOf t) (arrOf t) (((pendingOf t).setIfInBounds i (p,n + m,pw)).eraseIdxIfInBounds (i + 1)) (gallopOf t) (failedOf t))
 let some k<-Bj false (<-elem' (arrOf t) q) (arrOf t) p n 0 | return false
 let (p,n):=(p + k,n - k)
 if n==0 then return true
 let some m<-Bj true (<-elem' (arrOf t) (p + n - 1)) (arrOf t) q m (m - 1) | return false
 if m==0 then return true
 let x:=(arrOf t).extract p q
 let y:=(arrOf t).extract q (q + m)
 let M<-if n<=m then Da x y else C9 x y
 modify λt=>SortSt.mk' (kindOf t) (back M p (arrOf t)) (pendingOf t) (gallopOf t) (failedOf t)
 return (failedOf (<-get)).isNone):=by kernel_rfl
theorem lR:∀(M:List Keyed) (p c:Nat) (a:Array Keyed),p + c + M.length<=a.size->((M.zipIdx c).foldl (λb (q:Keyed×Nat)=>b.setIfInBounds (p + q.2) q.1) a).toList=a.toList.take (p + c)++M++a.toList.drop (p + c + M.length)
 | [],p,c,a,h=>by simp
 | e::M,p,c,a,h=>by
  rw[List.zipIdx_cons,List.foldl_cons];simp only[Px] at h;have ih:=lR M p (c + 1) (a.setIfInBounds (p + c) e) (by rw[Array.size_setIfInBounds];lia);rw[ih];have hs:(a.setIfInBounds (p + c) e).toList=a.toList.take (p + c)++[e]++a.toList.drop (p + c + 1):=by rw[Array.toList_setIfInBounds];rw[List.set_eq_take_append_cons_drop];rw[if_pos (by simp;lia)];simp
  have hl:(a.toList.take (p + c)++[e]).length=p + c + 1:=by simp;lia
  rw[hs];have e1:(a.toList.take (p + c)++[e]++a.toList.drop (p + c + 1)).take (p + (c + 1))=a.toList.take (p + c)++[e]:=by rw[show p + (c + 1)=(a.toList.take (p + c)++[e]).length by lia,List.take_left]
  have e2:(a.toList.take (p + c)++[e]++a.toList.drop (p + c + 1)).drop (p + (c + 1) + M.length)=a.toList.drop (p + c + (e::M).length):=by
   rw[show p + (c + 1) + M.length=(a.toList.take (p + c)++[e]).length + M.length by lia,List.drop_append,List.drop_of_length_le (Nat.le_add_right _ _),List.nil_append,Nat.add_sub_cancel_left,List.drop_drop];congr 1;simp only[Px]
   lia
  rw[e1,e2];simp
section
variable {O:KeyOrd} {ky:Keyed->O.α} {Mem:Keyed->Prop}
variable {prog:Program} {w:World} {A:Around} {E:Value->Shared->Prop} {κ:SortKind} {s:Shared}
theorem xf {t st:SortSt} {Q:PUnit->SortSt->Shared->Prop} (h:Q ⟨⟩ t s):kasC (model prog w) A E (set t:StateT SortSt Sem PUnit) Q st s:=by unfold kasC;rw[StateT.run_set];exact Pc h
theorem er (n1 n2 pw z:Nat):((#[(0,n1,pw),(n1,n2,z)]:Array (Nat×Nat×Nat)).setIfInBounds 0 (0,n1 + n2,pw)).eraseIdxIfInBounds (0 + 1)=#[(0,n1 + n2,pw)]:=by simp[Array.eraseIdxIfInBounds]
end
noncomputable def aL (lo n m:Nat):StateT SortSt Sem AscSt:=
 forIn [n:m] ((none,n):AscSt) λ_ r=>do
  let x<-ltAt' (lo + r.2) (lo + r.2 - 1)
  match x with
  | some c=>if c=true then pure (.done (none,r.2)) else pure (.yield (none,r.2 + 1))
  | _=>pure (.done (some none,r.2))
noncomputable def t3 (lo n m:Nat):StateT SortSt Sem (Option Nat):=do
 reverseSlice' lo (lo + n)
 let r<-aL lo n m
 match r.1 with
 | some v=>pure v
 | none=>pure (some r.2)
noncomputable def dL (lo n m:Nat):StateT SortSt Sem DescSt:=
 forIn [n:m] ((none,n,0):DescSt) λ_ r=>do
  let x<-ltAt' (lo + r.2.1) (lo + r.2.1 - 1)
  match x with
  | some c=>
   if c=true then
    if r.2.2 > 0 then do
     reverseSlice' (lo + r.2.1 - (r.2.2 + 1)) (lo + r.2.1)
     pure (.yield (none,r.2.1 + 1,0))
    else pure (.yield (none,r.2.1 + 1,0))
   else do
    let y<-ltAt' (lo + r.2.1 - 1) (lo + r.2.1)
    match y with
    | some d=>if d=true then pure (.done (none,r.2.1,r.2.2)) else pure (.yield (none,r.2.1 + 1,r.2.2 + 1))
    | _=>pure (.done (some none,r.2.1,r.2.2))
  | _=>pure (.done (some none,r.2.1,r.2.2))
noncomputable def dP (lo n m:Nat):StateT SortSt Sem (Option Nat):=do
 rule "list.sort.descending-run"
 let r<-dL lo (n + 1) m
 match r.1 with
 | some v=>pure v
 | none=>
  if r.2.2 > 0 then do
   reverseSlice' (lo + r.2.1 - (r.2.2 + 1)) (lo + r.2.1)
   t3 lo r.2.1 m
  else t3 lo r.2.1 m
noncomputable def cR (lo m:Nat):StateT SortSt Sem (Option Nat):=do
 let r<-aL lo 1 m
 match r.1 with
 | some v=>pure v
 | none=>
  if (r.2==m)=true then pure (some r.2)
  else if r.2 > 1 then do
   let x<-ltAt' lo (lo + r.2 - 1)
   match x with
   | some c=>if c=true then pure (some r.2) else do
     reverseSlice' lo (lo + r.2)
     dP lo r.2 m
   | _=>pure none
  else dP lo r.2 m
theorem Fp (lo m:Nat):countRun' lo m=cR lo m:=by kernel_rfl
noncomputable def pL (lo k:Nat):StateT SortSt Sem (Option Bool×Nat×Nat):=
 forIn [:k] ((none,0,k):Option Bool×Nat×Nat) λ_ r=>
  if r.2.1>=r.2.2 then pure (.done (none,r.2.1,r.2.2)) else do
   let x<-ltAt' (lo + k) (lo + (r.2.1 + r.2.2) / 2)
   match x with
   | some c=>if c=true then pure (.yield (none,r.2.1,(r.2.1 + r.2.2) / 2)) else pure (.yield (none,(r.2.1 + r.2.2) / 2 + 1,r.2.2))
   | _=>pure (.done (some false,r.2.1,r.2.2))
noncomputable def bS (lo n ok:Nat):StateT SortSt Sem Bool:=do
 let r<-forIn [max ok 1:n] ((none,()):Option Bool×Unit) λk _=>do
  let r<-pL lo k
  match r.1 with
  | some v=>pure (.done (some v,()))
  | none=>do
   moveDown' (lo + k) (lo + r.2.1)
   pure (.yield (none,()))
 match r.1 with
 | some v=>pure v
 | none=>pure true
theorem Fg (lo n ok:Nat):binarySort' lo n ok=bS lo n ok:=by kernel_rfl
section
variable {O:KeyOrd} {ky:Keyed->O.α} {Mem:Keyed->Prop}
variable {prog:Program} {w:World} {A:Around} {E:Value->Shared->Prop} {κ:SortKind} {s:Shared}
theorem dF {β:Type} {a b:Nat} {b0:β} {f:Nat->β->StateT SortSt Sem (ForInStep β)} {Q:β->SortSt->Shared->Prop} (Inv:Nat->β->SortSt->Prop) {dy:SortSt} (h0:Inv a b0 dy)
  (step:∀x c st,a<=x->x < b->Inv x c st->kasC (model prog w) A E (f x c) (λr ak s'=>s'=s/\match r with | .done b'=>Q b' ak s | .yield b'=>Inv (x + 1) b' ak) st s)
  (fin:∀c st,Inv (max a b) c st->Q c st s):kasC (model prog w) A E (forIn [a:b] b0 f) Q dy s:=by
 have go:∀(n x:Nat) (c:β) (st:SortSt),x + n=max a b->a<=x->Inv x c st->kasC (model prog w) A E (forIn (List.range' x n) c f) Q st s:=by
  intro n
  induction n with
  | zero=>
   intro x c st hx hax hI;have e:x=max a b:=by lia
   subst e;exact kasC_nil (fin c st hI)
  | succ n ih=>
   intro x c st hx hax hI;rw[List.range'_succ];refine kasC_cons (wpAny_mono (step x c st hax (by lia) hI) (λr s' h'=>?_) λ_ _ e=>e);obtain⟨r,ak⟩:=r;obtain⟨rfl,h'⟩:=h';cases r with
   | done b'=>exact h'
   | yield b'=>exact ih (x + 1) b' ak (by lia) (by lia) h'
 exact kasC_range (go (b - a) a b0 dy (by lia) (Pj _) h0)
structure Bs (κ:SortKind) (P:Array (Nat×Nat×Nat)) (lo:Nat) (b:Array Keyed) (st:SortSt):Prop where
 k:kindOf st=κ
 f:failedOf st=none
 p:pendingOf st=P
 pm:(arrOf st).toList.Perm b.toList
 lw:∀i,i < lo->kas_item (arrOf st) i=kas_item b i
variable {P:Array (Nat×Nat×Nat)} {lo:Nat} {b:Array Keyed}
theorem Bs.size {st:SortSt} (h:Bs κ P lo b st):(arrOf st).size=b.size:=by have:=h.pm.length_eq;simpa using this
theorem Bs.mem {st:SortSt} (h:Bs κ P lo b st) (hb:∀x∈b.toList,Mem x) {i:Nat} (hi:i < b.size):Mem (kas_item (arrOf st) i):=by
 have ES:i < (arrOf st).size:=by rw[h.size];exact hi
 refine hb _ (h.pm.mem_iff.mp ?_);have e:kas_item (arrOf st) i=(arrOf st)[i]:=by unfold kas_item;simp[Array.getD,ES]
 rw[e];simp
theorem iG {p q:Array Keyed} {i j:Nat} (h:p[i]?=q[j]?):kas_item p i=kas_item q j:=by unfold kas_item;rw[Array.getD_eq_getD_getElem?,Array.getD_eq_getD_getElem?,h]
theorem iH {a:Array Keyed} {i j:Nat} (hj:j<=a.size) (k:Nat):kas_item (mirror a i j ((j - i) / 2)) k=if i<=k/\k < j then kas_item a (i + j - 1 - k) else kas_item a k:=by
 have e:=getElem?_mirror_all (i:=i) hj k;by_cases h1:i<=k/\k < j
 ·rw[if_pos h1] at e ⊢;exact iG e
 ·rw[if_neg h1] at e ⊢;exact iG e
theorem kz {a:Array Keyed} {src d:Nat} (hs:src < a.size) (hd:d<=src) (k:Nat):
  kas_item (bubble a src d) k=if k=src - d then kas_item a src else if src - d < k/\k<=src then kas_item a (k - 1) else kas_item a k:=by
 have e:=getElem?_bubble hs d hd k;by_cases h1:k=src - d
 ·rw[if_pos h1] at e ⊢;exact iG e
 ·rw[if_neg h1] at e ⊢;by_cases h2:src - d < k/\k<=src
  ·rw[if_pos h2] at e ⊢;exact iG e
  ·rw[if_neg h2] at e ⊢;exact iG e
theorem Bs.rev {st:SortSt} (h:Bs κ P lo b st) {i j:Nat} (hi:lo<=i) (hj:j<=b.size):Bs κ P lo b (setArr st (mirror (arrOf st) i j ((j - i) / 2))):=
 ⟨h.k,h.f,h.p,(Array.perm_iff_toList_perm.mp (mirror_perm _ _ _ _)).trans h.pm,λk hk=>by
  have:=iH (a:=arrOf st) (i:=i) (j:=j) (by rw[h.size];exact hj) k;rw[if_neg (by lia)] at this;exact this.trans (h.lw k hk)⟩
theorem Bs.M5 {st:SortSt} (h:Bs κ P lo b st) {c d:Nat} (hs:c < b.size) (hd:lo + d<=c):Bs κ P lo b (setArr st (bubble (arrOf st) c d)):=
 ⟨h.k,h.f,h.p,(Array.perm_iff_toList_perm.mp (bubble_perm _ _ _)).trans h.pm,λk hk=>by
  have:=kz (a:=arrOf st) (src:=c) (d:=d) (by rw[h.size];exact hs) (by lia) k;rw[if_neg (by lia),if_neg (by lia)] at this;exact this.trans (h.lw k hk)⟩
theorem iJ (T:Tells prog w A κ s O ky Mem) (hb:∀x∈b.toList,Mem x) {st:SortSt} (h:Bs κ P lo b st) {i j:Nat} (hi:i < b.size) (hj:j < b.size) {Q:Option Bool->SortSt->Shared->Prop}
  (q:Q (some (O.blt (ky (kas_item (arrOf st) i)) (ky (kas_item (arrOf st) j)))) st s):kasC (model prog w) A E (ltAt' i j) Q st s:=by
 rw[ltAt'_eq];refine Pi (kasC_get ?_);dsimp only;exact Pi (aQ (aC (by rw[h.size];exact hi)) (Pi (aQ (aC (by rw[h.size];exact hj)) (px T (h.mem hb hi) (h.mem hb hj) h.k q))))
noncomputable def Up (O:KeyOrd) (ky:Keyed->O.α) (lo:Nat) (a:Array Keyed) (n:Nat):Prop:=∀i j,lo<=i->i<=j->j < lo + n->O.kle (ky (kas_item a i)) (ky (kas_item a j))
noncomputable def Dn (O:KeyOrd) (ky:Keyed->O.α) (lo:Nat) (a:Array Keyed) (n:Nat):Prop:=∀i j,lo<=i->i<=j->j < lo + n->O.kle (ky (kas_item a j)) (ky (kas_item a i))
noncomputable def Jn (O:KeyOrd) (ky:Keyed->O.α) (lo:Nat) (a:Array Keyed) (n q:Nat):Prop:=∀k,lo + n - (q + 1)<=k->k < lo + n->ky (kas_item a k)=ky (kas_item a (lo + n - 1))
theorem Up.succ {a:Array Keyed} {n:Nat} (h:Up O ky lo a n) (h1:1<=n) (h2:O.kle (ky (kas_item a (lo + n - 1))) (ky (kas_item a (lo + n)))):Up O ky lo a (n + 1):=λi j hi fE hj=>by
 by_cases e:j=lo + n
 ·subst e;by_cases e2:i=lo + n
  ·subst e2;exact KeyOrd.kle_refl _
  ·exact PL (h i (lo + n - 1) hi (by lia) (by lia)) h2
 ·exact h i j hi fE (by lia)
theorem Dn.succ {a:Array Keyed} {n:Nat} (h:Dn O ky lo a n) (h1:1<=n) (h2:O.kle (ky (kas_item a (lo + n))) (ky (kas_item a (lo + n - 1)))):Dn O ky lo a (n + 1):=λi j hi fE hj=>by
 by_cases e:j=lo + n
 ·subst e;by_cases e2:i=lo + n
  ·subst e2;exact KeyOrd.kle_refl _
  ·exact PL h2 (h i (lo + n - 1) hi (by lia) (by lia))
 ·exact h i j hi fE (by lia)
theorem Dn.of {a c:Array Keyed} {n:Nat} (e:∀k,ky (kas_item c k)=ky (kas_item a k)) (h:Dn O ky lo a n):Dn O ky lo c n:=λi j x y z=>by rw[e,e];exact h i j x y z
theorem Up.one (a:Array Keyed):Up O ky lo a 1:=λi j x y z=>by rw[show i=j by lia];exact KeyOrd.kle_refl _
theorem Dn.one (a:Array Keyed):Dn O ky lo a 1:=λi j x y z=>by rw[show i=j by lia];exact KeyOrd.kle_refl _
theorem wb {a:Array Keyed} {i j:Nat} (hj:j<=a.size) (he:∀k,i<=k->k < j->ky (kas_item a k)=ky (kas_item a (j - 1))) (k:Nat):ky (kas_item (mirror a i j ((j - i) / 2)) k)=ky (kas_item a k):=by
 rw[iH hj];split
 ·rename_i h;rw[he (i + j - 1 - k) (by lia) (by lia),he k h.1 h.2]
 ·rfl
theorem yx {a:Array Keyed} {n:Nat} (hn:lo + n<=a.size) (h:Dn O ky lo a n):Up O ky lo (mirror a lo (lo + n) ((lo + n - lo) / 2)) n:=λi j hi fE hj=>by rw[iH hn,iH hn,if_pos (by lia),if_pos (by lia)];exact h _ _ (by lia) (by lia) (by lia)
theorem A7 (T:Tells prog w A κ s O ky Mem) (hb:∀x∈b.toList,Mem x) {st:SortSt} (h:Bs κ P lo b st) {n m:Nat} (hz:lo + m<=b.size) (h1:1<=n) (hn:n<=m) (hu:Up O ky lo (arrOf st) n) {Q:AscSt->SortSt->Shared->Prop}
  (q:∀k,n<=k->k<=m->Up O ky lo (arrOf st) k->(k < m->O.blt (ky (kas_item (arrOf st) (lo + k))) (ky (kas_item (arrOf st) (lo + k - 1)))=true)->Q (none,k) st s):kasC (model prog w) A E (aL lo n m) Q st s:=by
 unfold aL;refine dF (λx r ak=>st=ak/\r=(none,x)/\Up O ky lo (arrOf st) x) ⟨rfl,rfl,hu⟩ (λx r ak hx1 w5 hI=>?_) (λr ak hI=>?_)
 ·obtain⟨rfl,rfl,hu⟩:=hI;dsimp only;refine Pi (iJ T hb h (by lia) (by lia) ?_);dsimp only;cases c:O.blt (ky (kas_item (arrOf st) (lo + x))) (ky (kas_item (arrOf st) (lo + x - 1))) with
  | true=>rw[if_pos rfl];exact Pm ⟨rfl,q x hx1 (by lia) hu λ_=>c⟩
  | false=>rw[if_neg (by simp)];exact Pm ⟨rfl,rfl,rfl,hu.succ (by lia) c⟩
 ·obtain⟨rfl,rfl,hu⟩:=hI;rw[show max n m=m by lia] at hu ⊢;exact q m hn (Pj _) hu λz=>absurd z (by lia)
theorem nO {i j:Nat} {st:SortSt} {Q:Unit->SortSt->Shared->Prop} (q:Q () (setArr st (mirror (arrOf st) i j ((j - i) / 2))) s):kasC (model prog w) A E (reverseSlice' i j) Q st s:=by rw[reverseSlice'_eq];exact kasC_modify q
theorem Fv (T:Tells prog w A κ s O ky Mem) (hb:∀x∈b.toList,Mem x) {st:SortSt} (h:Bs κ P lo b st) {n m:Nat} (hz:lo + m<=b.size) (h1:1<=n) (hn:n<=m) (hd:Dn O ky lo (arrOf st) n) {Q:DescSt->SortSt->Shared->Prop}
  (q:∀ak k e,Bs κ P lo b ak->n<=k->k<=m->e + 1<=k->Dn O ky lo (arrOf ak) k->Jn O ky lo (arrOf ak) k e->Q (none,k,e) ak s):kasC (model prog w) A E (dL lo n m) Q st s:=by
 unfold dL;have one:∀(a:Array Keyed) (k:Nat),1<=k->Jn O ky lo a k 0:=λa k hk j x y=>by rw[show j=lo + k - 1 by lia]
 refine dF (λx r ak=>∃e,r=(none,x,e)/\Bs κ P lo b ak/\e + 1<=x/\Dn O ky lo (arrOf ak) x/\Jn O ky lo (arrOf ak) x e) ⟨0,rfl,h,by lia,hd,one _ _ h1⟩ (λx r ak hx1 w5 hI=>?_) (λr ak hI=>?_)
 ·obtain⟨e,rfl,h,he,hd,hq⟩:=hI;have l9:=h.size;dsimp only;refine Pi (iJ T hb h (by lia) (by lia) ?_);dsimp only;cases c:O.blt (ky (kas_item (arrOf ak) (lo + x))) (ky (kas_item (arrOf ak) (lo + x - 1))) with
  | true=>
   rw[if_pos rfl];have qf:=hd.succ (by lia) (KeyOrd.kle_of_klt c);by_cases d:e > 0
   ·rw[if_pos d];refine Pi (nO (Pm ⟨rfl,0,rfl,h.rev (by lia) (by lia),by lia,?_,one _ _ (by lia)⟩));exact Dn.of (wb (by lia) hq) qf
   ·rw[if_neg d];exact Pm ⟨rfl,0,rfl,h,by lia,qf,one _ _ (by lia)⟩
  | false=>
   rw[if_neg (by simp)];refine Pi (iJ T hb h (by lia) (by lia) ?_);dsimp only;cases d:O.blt (ky (kas_item (arrOf ak) (lo + x - 1))) (ky (kas_item (arrOf ak) (lo + x))) with
   | true=>rw[if_pos rfl];exact Pm ⟨rfl,q ak x e h hx1 (by lia) he hd hq⟩
   | false=>
    rw[if_neg (by simp)];have heq:ky (kas_item (arrOf ak) (lo + x))=ky (kas_item (arrOf ak) (lo + x - 1)):=O.total _ _ c d;refine Pm ⟨rfl,e + 1,rfl,h,by lia,hd.succ (by lia) (by rw[heq];exact KeyOrd.kle_refl _),λk k1 k2=>?_⟩;rw[show lo + (x + 1) - 1=lo + x by lia];by_cases z:k=lo + x
    ·rw[z]
    ·rw[hq k (by lia) (by lia),heq]
 ·obtain⟨e,rfl,h,he,hd,hq⟩:=hI;rw[show max n m=m by lia] at hd hq he ⊢;exact q ak m e h hn (Pj _) he hd hq
theorem BF (T:Tells prog w A κ s O ky Mem) (hb:∀x∈b.toList,Mem x) {st:SortSt} (h:Bs κ P lo b st) {n m:Nat} (hz:lo + m<=b.size) (h1:1<=n) (hn:n<=m) (hd:Dn O ky lo (arrOf st) n) {Q:Option Nat->SortSt->Shared->Prop}
  (q:∀ak k,Bs κ P lo b ak->1<=k->k<=m->Up O ky lo (arrOf ak) k->Q (some k) ak s):kasC (model prog w) A E (t3 lo n m) Q st s:=by
 unfold t3;have l9:=h.size;refine Pi (nO (Pi (A7 T hb (h.rev (Pj _) (by lia)) hz h1 hn (yx (by lia) hd) λk k1 k2 ku _=>?_)));exact Pm (q _ k (h.rev (Pj _) (by lia)) (by lia) k2 ku)
theorem Bg (T:Tells prog w A κ s O ky Mem) (hb:∀x∈b.toList,Mem x) {st:SortSt} (h:Bs κ P lo b st) {n m:Nat} (hz:lo + m<=b.size) (h1:1<=n) (hn:n + 1<=m) (hd:Dn O ky lo (arrOf st) (n + 1)) {Q:Option Nat->SortSt->Shared->Prop}
  (q:∀ak k,Bs κ P lo b ak->1<=k->k<=m->Up O ky lo (arrOf ak) k->Q (some k) ak s):kasC (model prog w) A E (dP lo n m) Q st s:=by
 unfold dP;refine Pi (kasC_lift (wpAny_rule ?_));refine Pi (Fv T hb h hz (by lia) hn hd λak k e h' k1 k2 ke kd kq=>?_);dsimp only;have l9:=h'.size;by_cases d:e > 0
 ·rw[if_pos d];exact Pi (nO (BF T hb (h'.rev (by lia) (by lia)) hz (by lia) k2 (Dn.of (wb (by lia) kq) kd) q))
 ·rw[if_neg d];exact BF T hb h' hz (by lia) k2 kd q
theorem Fq (T:Tells prog w A κ s O ky Mem) (hb:∀x∈b.toList,Mem x) {st:SortSt} (h:Bs κ P lo b st) {m:Nat} (hz:lo + m<=b.size) (h1:1<=m) {Q:Option Nat->SortSt->Shared->Prop}
  (q:∀ak k,Bs κ P lo b ak->1<=k->k<=m->Up O ky lo (arrOf ak) k->Q (some k) ak s):kasC (model prog w) A E (countRun' lo m) Q st s:=by
 rw[Fp];unfold cR;have l9:=h.size;refine Pi (A7 T hb h hz (Pj _) h1 (Up.one _) λn n1 n2 nu nl=>?_);dsimp only;by_cases e:(n==m)=true
 ·rw[if_pos e];exact Pm (q _ n h n1 n2 nu)
 ·rw[if_neg e];have e':n≠m:=by simpa using e
  have cJ:=nl (by lia);by_cases hn:n > 1
  ·rw[if_pos hn];refine Pi (iJ T hb h (by lia) (by lia) ?_);dsimp only;cases c:O.blt (ky (kas_item (arrOf st) lo)) (ky (kas_item (arrOf st) (lo + n - 1))) with
   | true=>rw[if_pos rfl];exact Pm (q _ n h n1 n2 nu)
   | false=>
    rw[if_neg (by simp)];have all:∀k,lo<=k->k < lo + n->ky (kas_item (arrOf st) k)=ky (kas_item (arrOf st) (lo + n - 1)):=λk k1 k2=>by refine KeyOrd.kle_antisymm (nu k (lo + n - 1) k1 (by lia) (by lia)) (PL (show O.kle (ky (kas_item (arrOf st) (lo + n - 1))) (ky (kas_item (arrOf st) lo)) from c) (nu lo k (Pj _) k1 k2))
    refine Pi (nO (Bg T hb (h.rev (Pj _) (by lia)) hz n1 (by lia) (Dn.of (wb (by lia) all) (Dn.succ (λi j hi fE hj=>?_) n1 (KeyOrd.kle_of_klt cJ))) q));rw[all i hi (by lia),all j (by lia) hj];exact KeyOrd.kle_refl _
  ·rw[if_neg hn];have e1:n=1:=by lia
   subst e1;exact Bg T hb h hz n1 (by lia) (Dn.succ (Dn.one _) n1 (KeyOrd.kle_of_klt cJ)) q
theorem G1 (T:Tells prog w A κ s O ky Mem) (hb:∀x∈b.toList,Mem x) {st:SortSt} (h:Bs κ P lo b st) {k:Nat} (hz:lo + k < b.size) (hu:Up O ky lo (arrOf st) k) {Q:Option Bool×Nat×Nat->SortSt->Shared->Prop}
  (q:∀l r,l<=k->(∀i,lo<=i->i < lo + l->O.kle (ky (kas_item (arrOf st) i)) (ky (kas_item (arrOf st) (lo + k))))->(∀i,lo + l<=i->i < lo + k->O.klt (ky (kas_item (arrOf st) (lo + k))) (ky (kas_item (arrOf st) i)))->Q (none,l,r) st s):kasC (model prog w) A E (pL lo k) Q st s:=by
 unfold pL;refine dF (λx c ak=>st=ak/\∃l r,c=(none,l,r)/\l<=r/\r<=k/\r - l<=k - x/\(∀i,lo<=i->i < lo + l->O.kle (ky (kas_item (arrOf st) i)) (ky (kas_item (arrOf st) (lo + k))))/\(∀i,lo + r<=i->i < lo + k->O.klt (ky (kas_item (arrOf st) (lo + k))) (ky (kas_item (arrOf st) i))))
  ⟨rfl,0,k,rfl,by lia,by lia,by lia,λi a c=>absurd a (by lia),λi a c=>absurd a (by lia)⟩ (λx r ak hx1 w5 hI=>?_) (λr ak hI=>?_)
 ·obtain⟨rfl,l,r,rfl,lr,rk,rl,ny,yQ⟩:=hI;dsimp only;by_cases c:l>=r
  ·rw[if_pos c];have e:l=r:=by lia
   subst e;exact Pm ⟨rfl,q l l rk ny yQ⟩
  ·rw[if_neg c];refine Pi (iJ T hb h (by lia) (by lia) ?_);dsimp only;cases d:O.blt (ky (kas_item (arrOf st) (lo + k))) (ky (kas_item (arrOf st) (lo + (l + r) / 2))) with
   | true=>rw[if_pos rfl];exact Pm ⟨rfl,rfl,l,(l + r) / 2,rfl,by lia,by lia,by lia,ny,λi i1 i2=>KeyOrd.klt_of_klt_of_kle d (hu _ _ (by lia) i1 i2)⟩
   | false=>rw[if_neg (by simp)];exact Pm ⟨rfl,rfl,(l + r) / 2 + 1,r,rfl,by lia,by lia,by lia,λi i1 i2=>PL (hu i (lo + (l + r) / 2) i1 (by lia) (by lia)) d,yQ⟩
 ·obtain⟨rfl,l,r,rfl,lr,rk,rl,ny,yQ⟩:=hI;have e:l=r:=by lia
  subst e;exact q l l rk ny yQ
theorem Fh (T:Tells prog w A κ s O ky Mem) (hb:∀x∈b.toList,Mem x) {st:SortSt} (h:Bs κ P lo b st) {n k:Nat} (hz:lo + n<=b.size) (h1:1<=k) (hk:k<=n) (hu:Up O ky lo (arrOf st) k) {Q:Bool->SortSt->Shared->Prop}
  (q:∀ak,Bs κ P lo b ak->Up O ky lo (arrOf ak) n->Q true ak s):kasC (model prog w) A E (binarySort' lo n k) Q st s:=by
 rw[Fg];unfold bS;refine Pi (dF (λx c ak=>c=(none,())/\Bs κ P lo b ak/\Up O ky lo (arrOf ak) x) ⟨rfl,h,by rw[show max k 1=k by lia];exact hu⟩ (λx r ak hx1 w5 hI=>?_) (λr ak hI=>?_))
 ·obtain⟨rfl,h,hu⟩:=hI;have l9:=h.size;refine Pi (G1 T hb h (by lia) hu λl r hl ny yQ=>?_);dsimp only;rw[moveDown'_eq];refine Pi (kasC_modify (Pm ⟨rfl,rfl,h.M5 (by lia) (by lia),λi j hi fE hj=>?_⟩));show O.kle (ky (kas_item (bubble (arrOf ak) (lo + x) (lo + x - (lo + l))) i)) (ky (kas_item (bubble (arrOf ak) (lo + x) (lo + x - (lo + l))) j));rw[kz (by lia) (by lia),kz (by lia) (by lia),show lo + x - (lo + x - (lo + l))=lo + l by lia]
  repeat' split
  all_goals first
   | (exfalso;lia)
   | exact KeyOrd.kle_refl _
   | exact ny _ (by lia) (by lia)
   | exact KeyOrd.kle_of_klt (yQ _ (by lia) (by lia))
   | exact hu _ _ (by lia) (by lia) (by lia)
 ·obtain⟨rfl,h,hu⟩:=hI;rw[show max (max k 1) n=n by lia] at hu;exact Pm (q _ h hu)
end
noncomputable def KZ (size pw:Nat):StateT SortSt Sem (Option Unit×Unit):=
 forIn [:size] ((none,()):Option Unit×Unit) λ_ _=>do
  let st<-get
  match (if (pendingOf st).size > 1 then(pendingOf st)[(pendingOf st).size - 2]? else none) with
  | some (_,_,older)=>
   if older<=pw then pure (.done (none,())) else do
    let ok<-GD ((pendingOf st).size - 2)
    if (!ok)=true then pure (.done (some (),())) else pure (.yield (none,()))
  | _=>pure (.done (none,()))
noncomputable def Iq (size lo n:Nat):StateT SortSt Sem (ForInStep (Option Unit×Nat)):=do
 let st<-get
 match (pendingOf st).back? with
 | some (s1,n1,_)=>do
  let r<-KZ size (power' size (2 * s1 + n1) (2 * s1 + n1 + n1 + n) size)
  match r.1 with
  | some v=>pure (.done (some v,lo))
  | none=>do
   modify λs=>setPending s ((pendingOf s).modify ((pendingOf s).size - 1) λ(st,len,_)=>(st,len,power' size (2 * s1 + n1) (2 * s1 + n1 + n1 + n) size))
   modify λs=>setPending s ((pendingOf s).push (lo,n,0))
   pure (.yield (none,lo + n))
 | _=>do
  modify λs=>setPending s ((pendingOf s).push (lo,n,0))
  pure (.yield (none,lo + n))
noncomputable def HC (size mr lo:Nat):StateT SortSt Sem (ForInStep (Option Unit×Nat)):=
 if lo>=size then pure (.done (none,lo)) else do
  let f<-countRun' lo (size - lo)
  match f with
  | some n=>
   if n < mr then do
    rule "list.sort.binary-insertion"
    let ok<-binarySort' lo (min (size - lo) mr) n
    if (!ok)=true then pure (.done (some (),lo)) else Iq size lo (min (size - lo) mr)
   else Iq size lo n
  | _=>pure (.done (some (),lo))
noncomputable def ix (p:Array (Nat×Nat×Nat)):Nat:=if (if p.size - 2 > 0 then p[p.size - 2 - 1]?.map (·.2.1) else none).any (· < (p[p.size - 2 + 1]?.elim 0 (·.2.1))) then p.size - 2 - 1 else p.size - 2
noncomputable def IV (size:Nat):StateT SortSt Sem (Option Unit×Unit):=
 forIn [:size] ((none,()):Option Unit×Unit) λ_ _=>do
  let st<-get
  if (pendingOf st).size<=1 then pure (.done (none,())) else do
   let ok<-GD (ix (pendingOf st))
   if (!ok)=true then pure (.done (some (),())) else pure (.yield (none,()))
noncomputable def sR:StateT SortSt Sem Unit:=do
 let st<-get
 let r<-forIn [:(arrOf st).size] ((none,0):Option Unit×Nat) λ_ r=>HC (arrOf st).size (minRun' (arrOf st).size (arrOf st).size 0) r.2
 match r.1 with
 | some v=>pure v
 | none=>do
  let r<-IV (arrOf st).size
  match r.1 with
  | some v=>pure v
  | none=>pure ()
theorem Hf:sortRuns'=sR:=by kernel_rfl
section
variable {O:KeyOrd} {ky:Keyed->O.α} {Mem:Keyed->Prop}
variable {prog:Program} {w:World} {A:Around} {E:Value->Shared->Prop} {κ:SortKind} {s:Shared} {a:Array Keyed}
theorem Up.HA {b:Array Keyed} {n:Nat} (hn:b.size=n) (h:Up O ky 0 b n):iq O ky b.toList:=by
 refine List.pairwise_iff_getElem.mpr λi j hi hj fE=>?_
 have e:∀k,(h:k < b.size)->kas_item b k=b.toList[k]'(by simpa using h):=λk h=>by unfold kas_item;simp[Array.getD,h]
 have uH:j < b.size:=by simpa using hj
 rw[<-e i (by lia),<-e j uH];exact h i j (by lia) (by lia) (by lia)
end
section
variable {O:KeyOrd} {ky:Keyed->O.α} {Mem:Keyed->Prop}
variable {prog:Program} {w:World} {A:Around} {E:Value->Shared->Prop} {κ:SortKind} {s:Shared}
theorem item_list (b:Array Keyed) (t:Nat):kas_item b t=b.toList.getD t (Value.none,Value.none):=by unfold kas_item;simp[Array.getD,List.getD];split <;> simp_all
theorem Ed {l:List Keyed} (h:iq O ky l) {i j:Nat} (fE:i<=j) (hj:j < l.length):le O ky (l.getD i (Value.none,Value.none)) (l.getD j (Value.none,Value.none)):=by
 rcases Nat.lt_or_ge i j with c | c
 ·have:=List.pairwise_iff_getElem.mp h i j (by lia) hj c;rw[List.getD_eq_getElem?_getD,List.getD_eq_getElem?_getD,PH hj,PH (by lia)];exact this
 ·have e:i=j:=by lia
  subst e;exact KeyOrd.kle_refl _
theorem wy {l m:List Keyed} {d:Keyed} {i:Nat} (h:i < l.length):(l++m).getD i d=l.getD i d:=by rw[List.getD_eq_getElem?_getD,List.getD_eq_getElem?_getD,P8 h]
theorem wz {l m:List Keyed} {d:Keyed} {i:Nat} (h:l.length<=i):(l++m).getD i d=m.getD (i - l.length) d:=by rw[List.getD_eq_getElem?_getD,List.getD_eq_getElem?_getD,P9 h]
theorem KJ (T:Tells prog w A κ s O ky Mem) {a:Array Keyed} {P:Array (Nat×Nat×Nat)} {i p n1 n2 pw z g:Nat} (Ny:P[i]?=some (p,n1,pw)) (J7:P[i + 1]?=some (p + n1,n2,z)) (l9:p + n1 + n2<=a.size) (h1:1<=n1) (h2:1<=n2) (hm:∀i,i < a.size->Mem (kas_item a i))
  (sA:∀i j,p<=i->i<=j->j < p + n1->le O ky (kas_item a i) (kas_item a j)) (sB:∀i j,p + n1<=i->i<=j->j < p + n1 + n2->le O ky (kas_item a i) (kas_item a j))
  {Q:Bool->SortSt->Shared->Prop} (q:∀ak:SortSt,kindOf ak=κ->pendingOf ak=(P.setIfInBounds i (p,n1 + n2,pw)).eraseIdxIfInBounds (i + 1)->failedOf ak=none->(arrOf ak).toList.Perm a.toList->Up O ky p (arrOf ak) (n1 + n2)->
   (∀t,t < p\/p + n1 + n2<=t->kas_item (arrOf ak) t=kas_item a t)->Q true ak s):
  kasC (model prog w) A E (GD i) Q (SortSt.mk' κ a P g none) s:=by
 rw[C7];refine Pi (kasC_get ?_);dsimp only;have e0:(pendingOf (SortSt.mk' κ a P g none))[i]?=some (p,n1,pw):=Ny;have e1:(pendingOf (SortSt.mk' κ a P g none))[i + 1]?=some (p + n1,n2,z):=J7;rw[e0,e1];dsimp only;refine Pi (xf ?_);refine Pi (aQ (aC (x:=a) (show p + n1 < a.size by lia)) (Pi ?_));refine i5 T (λt=>kas_item a (p + t)) (λt ht=>aC (x:=a) (by lia)) (λt ht=>hm _ (by lia)) (hm (p + n1) (by lia)) (by lia) (λi j fE hj hb=>?_) rfl (λk hk1 cJ lj=>?_)
 ·unfold dR at hb ⊢;rw[if_neg (by simp)] at hb ⊢;have:=sA (p + i) (p + j) (by lia) (by lia) (by lia);cases zz:O.blt (ky (kas_item a (p + n1))) (ky (kas_item a (p + i))) with
  | false=>rfl
  | true=>have z2:O.blt (ky (kas_item a (p + n1))) (ky (kas_item a (p + j)))=true:=KeyOrd.klt_of_klt_of_kle zz this;have lh:(!O.blt (ky (kas_item a (p + n1))) (ky (kas_item a (p + j))))=true:=hb;rw[z2] at lh;cases lh
 have lo:∀t,p<=t->t < p + k->le O ky (kas_item a t) (kas_item a (p + n1)):=λt h0 ht=>by have zz:=cJ (t - p) (by lia);unfold dR at zz;rw[if_neg (by simp)] at zz;have z2:(!O.blt (ky (kas_item a (p + n1))) (ky (kas_item a (p + (t - p)))))=true:=zz;rw[show p + (t - p)=t by lia] at z2;show O.blt (ky (kas_item a (p + n1))) (ky (kas_item a t))=false;simpa using z2
 have up:∀t,p + k<=t->t < p + n1->O.blt (ky (kas_item a (p + n1))) (ky (kas_item a t))=true:=λt h1 h2=>by have zz:=lj (t - p) (by lia) (by lia);unfold dR at zz;rw[if_neg (by simp)] at zz;have z2:(!O.blt (ky (kas_item a (p + n1))) (ky (kas_item a (p + (t - p)))))=false:=zz;rw[show p + (t - p)=t by lia] at z2;simpa using z2
 have yj:∀b:Array Keyed,(∀i j,i < j->j < b.size->le O ky (kas_item b i) (kas_item b j))->iq O ky b.toList:=λb hb=>by
  refine List.pairwise_iff_getElem.mpr λi j hi hj fE=>?_
  have e:∀k,(h:k < b.size)->kas_item b k=b.toList[k]'(by simpa using h):=λk h=>by unfold kas_item;simp[Array.getD,h]
  rw[<-e i (by simpa using hi),<-e j (by simpa using hj)];exact hb i j fE (by simpa using hj)
 dsimp only;by_cases c:(n1 - k==0)=true
 ·rw[if_pos c];have c':n1 - k=0:=by simpa using c
  refine Pm (q _ rfl rfl rfl (List.Perm.refl _) (λi j hi fE hj=>?_) λt _=>rfl);by_cases ci:j < p + n1
  ·exact sA i j hi fE ci
  ·by_cases cj:i < p + n1
   ·exact PL (lo i hi (by lia)) (sB (p + n1) j (Pj _) (by lia) (by lia))
   ·exact sB i j (by lia) (by lia) (by lia)
 ·rw[if_neg c];have c':¬n1 - k=0:=by simpa using c
  refine Pi (aQ (aC (x:=a) (show p + k + (n1 - k) - 1 < a.size by lia)) (Pi ?_));have el:p + k + (n1 - k) - 1=p + n1 - 1:=by lia
  refine i5 T (λt=>kas_item a (p + n1 + t)) (λt ht=>aC (x:=a) (by lia)) (λt ht=>hm _ (by lia)) (hm _ (by lia)) (by lia) (λi j fE hj hb=>?_) rfl (λm hm1 hmlt hmge=>?_)
  ·unfold dR at hb ⊢;rw[if_pos rfl] at hb ⊢;exact KeyOrd.klt_of_kle_of_klt (sB (p + n1 + i) (p + n1 + j) (by lia) (by lia) (by lia)) hb
  have M0:∀t,p + n1<=t->t < p + n1 + m->O.blt (ky (kas_item a t)) (ky (kas_item a (p + n1 - 1)))=true:=λt h1 h2=>by have zz:=hmlt (t - (p + n1)) (by lia);unfold dR at zz;rw[if_pos rfl,el] at zz;have z2:O.blt (ky (kas_item a (p + n1 + (t - (p + n1))))) (ky (kas_item a (p + n1 - 1)))=true:=zz;rw[show p + n1 + (t - (p + n1))=t by lia] at z2;exact z2
  have LN:∀t,p + n1 + m<=t->t < p + n1 + n2->le O ky (kas_item a (p + n1 - 1)) (kas_item a t):=λt h1 h2=>by have zz:=hmge (t - (p + n1)) (by lia) (by lia);unfold dR at zz;rw[if_pos rfl,el] at zz;have z2:O.blt (ky (kas_item a (p + n1 + (t - (p + n1))))) (ky (kas_item a (p + n1 - 1)))=false:=zz;rw[show p + n1 + (t - (p + n1))=t by lia] at z2;exact z2
  have m0:m≠0:=λe=>by have z1:=LN (p + n1) (by lia) (by lia);have z2:=up (p + n1 - 1) (by lia) (by lia);exact KeyOrd.not_klt_of_kle z1 z2
  dsimp only;rw[if_neg (by simpa using m0)];have gx:∀t,t < n1 - k->kas_item (a.extract (p + k) (p + n1)) t=kas_item a (p + k + t):=λt ht=>by unfold kas_item;simp[Array.getD,show t < p + n1 - (p + k) by lia,show p + k + t < a.size by lia,show min (p + n1) a.size=p + n1 by lia]
  have gy:∀t,t < m->kas_item (a.extract (p + n1) (p + n1 + m)) t=kas_item a (p + n1 + t):=λt ht=>by unfold kas_item;simp[Array.getD,show p + n1 + t < a.size by lia,show min (p + n1 + m) a.size=p + n1 + m by lia,ht]
  have sx:(a.extract (p + k) (p + n1)).size=n1 - k:=by simp;lia
  have sy:(a.extract (p + n1) (p + n1 + m)).size=m:=by simp;lia
  have MM:MP O ky Mem (a.extract (p + k) (p + n1)) (a.extract (p + n1) (p + n1 + m)):=by
   refine⟨yj _ λi j fE hj=>?_,yj _ λi j fE hj=>?_,λi hi=>?_,λi hi=>?_,by lia,by lia,?_,λj hj=>?_⟩
   ·rw[gx i (by lia),gx j (by lia)];exact sA _ _ (by lia) (by lia) (by lia)
   ·rw[gy i (by lia),gy j (by lia)];exact sB _ _ (by lia) (by lia) (by lia)
   ·rw[gx i (by lia)];exact hm _ (by lia)
   ·rw[gy i (by lia)];exact hm _ (by lia)
   ·rw[gx 0 (by lia),gy 0 (by lia)];exact up (p + k) (Pj _) (by lia)
   ·rw[sx,gx (n1 - k - 1) (by lia),gy j (by lia),show p + k + (n1 - k - 1)=p + n1 - 1 by lia];exact M0 _ (by lia) (by lia)
  have lx:(a.extract (p + k) (p + n1)).toList=(a.toList.drop (p + k)).take (n1 - k):=by have:=sD a (k:=p + k) (i:=p + n1);rw[show p + n1 - (p + k)=n1 - k by lia] at this;exact this
  have ly:(a.extract (p + n1) (p + n1 + m)).toList=(a.toList.drop (p + n1)).take m:=kh a (p + n1) m;have fin:∀(v:Array Keyed) (ak:SortSt),kindOf ak=κ->arrOf ak=a->pendingOf ak=(P.setIfInBounds i (p,n1 + n2,pw)).eraseIdxIfInBounds (i + 1)->failedOf ak=none->qk O ky (a.extract (p + k) (p + n1)).toList (a.extract (p + n1) (p + n1 + m)).toList v.toList->
    kasC (model prog w) A E (do
     modify λt=>SortSt.mk' (kindOf t) (back v (p + k) (arrOf t)) (pendingOf t) (gallopOf t) (failedOf t)
     let t<-get
     pure (failedOf t).isNone) Q ak s:=λv ak k1 k2 k3 k4 hv=>by
   refine Pi (kasC_modify (Pi (kasC_get (Pm ?_))));obtain⟨vp,vs⟩:=hv;have vl:v.toList.length=n1 - k + m:=by
    rw[vp.length_eq,Pv];simp only[Pz]
    lia
   have bl:(back v (p + k) a).toList=a.toList.take (p + k)++v.toList++a.toList.drop (p + n1 + m):=by
    have:=lR v.toList (p + k) 0 a (by lia);unfold back;refine Eq.trans ?_ (this.trans ?_)
    ·rfl
    ·rw[Nat.add_zero,vl,show p + k + (n1 - k + m)=p + n1 + m by lia]
   have al:a.toList.length=a.size:=Pz;have Ou:a.toList=a.toList.take (p + k)++((a.toList.drop (p + k)).take (n1 - k)++(a.toList.drop (p + n1)).take m)++a.toList.drop (p + n1 + m):=by have b1:=j5 (l:=a.toList) (i:=p + n1) (k:=p + k) (by lia);rw[show p + n1 - (p + k)=n1 - k by lia] at b1;rw[Pt,Pt,<-cL (l:=a.toList) (i:=p + n1) (k:=m),<-b1,List.take_append_drop]
   have pm:(back v (p + k) a).toList.Perm a.toList:=by
    rw[bl]
    conv=>rhs;rw[Ou]
    rw[lx,ly] at vp;exact((List.Perm.refl _).append vp).append (List.Perm.refl _)
   have KM:∀e∈v.toList,(∃t,p + k<=t/\t < p + n1/\e=kas_item a t)\/(∃t,p + n1<=t/\t < p + n1 + m/\e=kas_item a t):=λe he=>by
    rw[lx,ly] at vp;rcases PD.mp (vp.mem_iff.mp he) with he | he
    ·obtain⟨t,t1,t2,t3,rfl⟩:=a6 he;exact .inl ⟨t,t1,by lia,rfl⟩
    ·obtain⟨t,t1,t2,t3,rfl⟩:=a6 he;exact .inr ⟨t,t1,by lia,rfl⟩
   have yJ:∀t,t < p + k->kas_item (back v (p + k) a) t=kas_item a t:=λt ht=>by rw[item_list,item_list,bl,Pt,wy (by rw[List.length_take];lia)];rw[List.getD_eq_getElem?_getD,List.getD_eq_getElem?_getD,List.getElem?_take_of_lt ht]
   have at2:∀t,p + k<=t->t < p + n1 + m->kas_item (back v (p + k) a) t=v.toList.getD (t - (p + k)) (Value.none,Value.none):=λt h1 h2=>by
    have hl:(a.toList.take (p + k)).length=p + k:=by rw[List.length_take];lia
    rw[item_list,bl,Pt,wz (by lia),hl,wy (by lia)]
   have Jy:∀t,p + n1 + m<=t->kas_item (back v (p + k) a) t=kas_item a t:=λt h1=>by
    have hl:(a.toList.take (p + k)++v.toList).length=p + n1 + m:=by rw[Pv,List.length_take];lia
    rw[item_list,item_list,bl,wz (by lia),hl];rw[List.getD_eq_getElem?_getD,List.getD_eq_getElem?_getD,List.getElem?_drop];congr 2
    lia
   have uQ:∀t,p + k<=t->t < p + n1 + m->(∃u,p + k<=u/\u < p + n1/\kas_item (back v (p + k) a) t=kas_item a u)\/(∃u,p + n1<=u/\u < p + n1 + m/\kas_item (back v (p + k) a) t=kas_item a u):=λt h1 h2=>by rw[at2 t h1 h2];refine KM _ ?_;rw[List.getD_eq_getElem?_getD,PH (by lia)];exact List.getElem_mem _
   have ss:Up O ky p (back v (p + k) a) (n1 + n2):=λi j hi fE hj=>by
    show le O ky (kas_item (back v (p + k) a) i) (kas_item (back v (p + k) a) j);by_cases c1:j < p + k
    ·rw[yJ i (by lia),yJ j c1];exact sA i j hi fE (by lia)
    by_cases c2:j < p + n1 + m
    ·by_cases c3:i < p + k
     ·rw[yJ i c3];rcases uQ j (by lia) c2 with ⟨u,u1,u2,e⟩ | ⟨u,u1,u2,e⟩
      ·rw[e];exact sA i u hi (by lia) u2
      ·rw[e];exact PL (lo i hi c3) (sB (p + n1) u (Pj _) u1 (by lia))
     ·rw[at2 i (by lia) (by lia),at2 j (by lia) c2];exact Ed vs (by lia) (by lia)
    ·rw[Jy j (by lia)];by_cases c3:i < p + k
     ·rw[yJ i c3];exact PL (lo i hi c3) (sB (p + n1) j (Pj _) (by lia) (by lia))
     by_cases c4:i < p + n1 + m
     ·rcases uQ i (by lia) c4 with ⟨u,u1,u2,e⟩ | ⟨u,u1,u2,e⟩
      ·rw[e];exact PL (sA u (p + n1 - 1) (by lia) (by lia) (by lia)) (LN j (by lia) (by lia))
      ·rw[e];exact sB u j u1 (by lia) (by lia)
     ·rw[Jy i (by lia)];exact sB i j (by lia) fE (by lia)
   have qq:=q (SortSt.mk' (kindOf ak) (back v (p + k) (arrOf ak)) (pendingOf ak) (gallopOf ak) (failedOf ak)) k1 k3 k4 (by rw[k2];exact pm) (by rw[k2];exact ss) (λt ht=>by
    show kas_item (back v (p + k) (arrOf ak)) t=_;rw[k2];rcases ht with ht | ht
    ·exact yJ t (by lia)
    ·exact Jy t (by lia))
   have e:(failedOf ak).isNone=true:=by rw[k4];rfl
   show Q (failedOf ak).isNone _ s;rw[e];exact qq
  by_cases d:n1 - k<=m
  ·rw[if_pos d];refine Pi (Ae T MM rfl λv ak si hv=>?_);exact fin v ak si.1 si.2.1 si.2.2.1 si.2.2.2 hv
  ·rw[if_neg d];refine Pi (Ac T MM rfl λv ak si hv=>?_);exact fin v ak si.1 si.2.1 si.2.2.1 si.2.2.2 hv
end
section
variable {O:KeyOrd} {ky:Keyed->O.α} {Mem:Keyed->Prop}
variable {prog:Program} {w:World} {A:Around} {E:Value->Shared->Prop} {κ:SortKind} {s:Shared} {a:Array Keyed}
noncomputable def Rn (O:KeyOrd) (ky:Keyed->O.α) (b:Array Keyed):List (Nat×Nat×Nat)->Nat->Nat->Prop
 | [],lo,hi=>lo=hi
 | x::r,lo,hi=>x.1=lo/\1<=x.2.1/\Up O ky lo b x.2.1/\Rn O ky b r (lo + x.2.1) hi
theorem Rn.le {b:Array Keyed}:∀{l:List (Nat×Nat×Nat)} {lo hi:Nat},Rn O ky b l lo hi->lo + l.length<=hi
 | [],lo,hi,h=>by have h:lo=hi:=h;simp;lia
 | x::r,lo,hi,h=>by
  obtain⟨_,h2,_,h4⟩:=h;have:=Rn.le h4;simp only[Px]
  lia
theorem Rn.app {b:Array Keyed}:∀{l m:List (Nat×Nat×Nat)} {lo hi:Nat},Rn O ky b (l++m) lo hi↔∃k,Rn O ky b l lo k/\Rn O ky b m k hi
 | [],m,lo,hi=>⟨λh=>⟨lo,rfl,h⟩,λ⟨k,h1,h2⟩=>by have h1:lo=k:=h1;subst h1;exact h2⟩
 | x::r,m,lo,hi=>by
  constructor
  ·rintro⟨h1,h2,h3,h4⟩;obtain⟨k,k1,k2⟩:=Rn.app.mp h4;exact⟨k,⟨h1,h2,h3,k1⟩,k2⟩
  ·rintro⟨k,⟨h1,h2,h3,h4⟩,k2⟩;exact⟨h1,h2,h3,Rn.app.mpr ⟨k,h4,k2⟩⟩
theorem Rn.congr {b c:Array Keyed}:∀{l:List (Nat×Nat×Nat)} {lo hi:Nat},Rn O ky b l lo hi->(∀t,lo<=t->t < hi->kas_item c t=kas_item b t)->Rn O ky c l lo hi
 | [],lo,hi,h,_=>h
 | x::r,lo,hi,⟨h1,h2,h3,h4⟩,e=>by have hl:=Rn.le h4;refine⟨h1,h2,λi j hi fE hj=>?_,Rn.congr h4 λt a b=>e t (by lia) b⟩;rw[e i (by lia) (by lia),e j (by lia) (by lia)];exact h3 i j hi fE hj
structure Ru (O:KeyOrd) (ky:Keyed->O.α) (κ:SortKind) (a:Array Keyed) (lo:Nat) (st:SortSt):Prop where
 k:kindOf st=κ
 f:failedOf st=none
 pm:(arrOf st).toList.Perm a.toList
 rn:Rn O ky (arrOf st) (pendingOf st).toList 0 lo
theorem Ru.size {lo:Nat} {st:SortSt} (h:Ru O ky κ a lo st):(arrOf st).size=a.size:=by have:=h.pm.length_eq;simpa using this
theorem Ru.mem {lo:Nat} {st:SortSt} (h:Ru O ky κ a lo st) (hb:∀x∈a.toList,Mem x) {i:Nat} (hi:i < (arrOf st).size):Mem (kas_item (arrOf st) i):=by refine hb _ (h.pm.mem_iff.mp ?_);unfold kas_item;simp[Array.getD,hi]
theorem Ec {α:Type} {l:List α} {i:Nat} (h:i + 1 < l.length):∃l1 x y l2,l=l1++x::y::l2/\l1.length=i:=by refine⟨l.take i,l[i],l[i + 1],l.drop (i + 2),?_,by rw[List.length_take];lia⟩;rw[<-List.drop_eq_getElem_cons h,<-List.drop_eq_getElem_cons (by lia),List.take_append_drop]
theorem qD {P:Array (Nat×Nat×Nat)} {l1 l2:List (Nat×Nat×Nat)} {x y v:Nat×Nat×Nat} {i:Nat} (h:P.toList=l1++x::y::l2) (hi:l1.length=i):((P.setIfInBounds i v).eraseIdxIfInBounds (i + 1)).toList=l1++v::l2:=by
 have l9:P.size=l1.length + (l2.length + 2):=by
  have:=congrArg List.length h;simp at this
  lia
 have e1:(P.setIfInBounds i v).toList=l1++v::y::l2:=by rw[Array.toList_setIfInBounds,h,<-hi,List.set_append_right _ _ (Pj _)];simp
 unfold Array.eraseIdxIfInBounds;rw[dif_pos (by rw[Array.size_setIfInBounds];lia),Array.toList_eraseIdx,e1,<-hi];rw[List.eraseIdx_append_of_length_le (by lia)];simp
theorem pS (T:Tells prog w A κ s O ky Mem) (hb:∀x∈a.toList,Mem x) {lo i:Nat} {st:SortSt} (h:Ru O ky κ a lo st) (ny:lo<=a.size) (hi:i + 1 < (pendingOf st).size) {Q:Bool->SortSt->Shared->Prop}
  (q:∀ak,Ru O ky κ a lo ak->(pendingOf ak).size + 1=(pendingOf st).size->(∀t,lo<=t->kas_item (arrOf ak) t=kas_item (arrOf st) t)->Q true ak s):kasC (model prog w) A E (GD i) Q st s:=by
 obtain⟨l1,x,y,l2,hl,hlen⟩:=Ec (l:=(pendingOf st).toList) (i:=i) (by simpa using hi);have l9:=h.size;have rn:=h.rn;rw[hl] at rn;obtain⟨p,r1,r2⟩:=Rn.app.mp rn;obtain⟨xp,xn,xw⟩:=x;obtain⟨yp,yn,yw⟩:=y;obtain⟨e1,x1,x2,e2,y1,y2,r3⟩:=r2;have e1:xp=p:=e1;have e2:yp=p + xn:=e2;subst e1 e2;have h3:=r3.le;simp only at x1 x2 y1 y2 r3 h3;have eP:∀j,(pendingOf st)[j]?=(l1++(xp,xn,xw)::(xp + xn,yn,yw)::l2)[j]?:=λj=>by rw[<-hl,Array.getElem?_toList]
 have g1:(pendingOf st)[i]?=some (xp,xn,xw):=by rw[eP,P9 (by lia),show i - l1.length=0 by lia];rfl
 have g2:(pendingOf st)[i + 1]?=some (xp + xn,yn,yw):=by rw[eP,P9 (by lia),show i + 1 - l1.length=1 by lia];rfl
 have Iz:st=SortSt.mk' κ (arrOf st) (pendingOf st) (gallopOf st) none:=by have e:st=SortSt.mk' (kindOf st) (arrOf st) (pendingOf st) (gallopOf st) (failedOf st):=rfl;rw[h.k,h.f] at e;exact e
 have z:=KJ (E:=E) T (a:=arrOf st) (P:=pendingOf st) (g:=gallopOf st) g1 g2 (by lia) x1 y1 (λi hi=>h.mem hb hi) (λi j a b c=>x2 i j a b c) (λi j a b c=>y2 i j a b c) (Q:=Q) λak k1 k2 k3 k4 k5 k6=>?_
 ·rw[<-Iz] at z;exact z
 ·have ee:=qD (v:=(xp,xn + yn,xw)) hl hlen;refine q ak ⟨k1,k3,k4.trans h.pm,?_⟩ ?_ λt ht=>k6 t (.inr (by lia))
  ·rw[k2,ee];refine Rn.app.mpr ⟨xp,r1.congr λt _ ht=>k6 t (.inl ht),rfl,by show 1<=xn + yn;lia,k5,?_⟩;have:Rn O ky (arrOf ak) l2 (xp + xn + yn) lo:=r3.congr λt ht _=>k6 t (.inr ht)
   rw[Nat.add_assoc] at this;exact this
  ·rw[k2,<-Pz,ee,<-Pz,hl];simp
   lia
theorem DS (T:Tells prog w A κ s O ky Mem) (hb:∀x∈a.toList,Mem x) {lo size pw:Nat} {st:SortSt} (h:Ru O ky κ a lo st) (ny:lo<=a.size) (hp:1<=(pendingOf st).size) {Q:Option Unit×Unit->SortSt->Shared->Prop}
  (q:∀ak,Ru O ky κ a lo ak->1<=(pendingOf ak).size->(∀t,lo<=t->kas_item (arrOf ak) t=kas_item (arrOf st) t)->Q (none,()) ak s):kasC (model prog w) A E (KZ size pw) Q st s:=by
 unfold KZ;refine dF (λ_ c ak=>c=(none,())/\Ru O ky κ a lo ak/\1<=(pendingOf ak).size/\∀t,lo<=t->kas_item (arrOf ak) t=kas_item (arrOf st) t) ⟨rfl,h,hp,λ_ _=>rfl⟩ (λx c ak _ _ hI=>?_) (λc ak hI=>?_)
 ·obtain⟨rfl,h',zK,he⟩:=hI;refine Pi (kasC_get ?_);by_cases c1:(pendingOf ak).size > 1
  ·rw[if_pos c1];have:(pendingOf ak)[(pendingOf ak).size - 2]?=some (pendingOf ak)[(pendingOf ak).size - 2]:=by simp
   rw[this];dsimp only;by_cases c2:(pendingOf ak)[(pendingOf ak).size - 2].2.2<=pw
   ·rw[if_pos c2];exact Pm ⟨rfl,q _ h' zK he⟩
   ·rw[if_neg c2];refine Pi (pS T hb h' ny (by lia) λdM h2 s2 e2=>?_);rw[if_neg (by simp)];exact Pm ⟨rfl,rfl,h2,by lia,λt ht=>(e2 t ht).trans (he t ht)⟩
  ·rw[if_neg c1];exact Pm ⟨rfl,q _ h' zK he⟩
 ·obtain⟨rfl,h',zK,he⟩:=hI;exact q _ h' zK he
theorem Rn.KY {b:Array Keyed} {l:List (Nat×Nat×Nat)} {x y:Nat×Nat×Nat} {lo hi:Nat} (h:Rn O ky b (l++[x]) lo hi) (e1:y.1=x.1) (e2:y.2.1=x.2.1):Rn O ky b (l++[y]) lo hi:=by obtain⟨k,k1,h1,h2,h3,h4⟩:=Rn.app.mp h;exact Rn.app.mpr ⟨k,k1,e1.trans h1,by rw[e2];exact h2,by rw[e2];exact h3,by rw[e2];exact h4⟩
theorem snoc {α:Type} {P:Array α} (h:1<=P.size):∃l x,P.toList=l++[x]/\P.back?=some x:=by
 have dD:P.toList≠[]:=λz=>by have:=congrArg List.length z;simp at this;rw[this] at h;simp at h
 refine⟨P.toList.dropLast,P.toList.getLast dD,(List.dropLast_concat_getLast dD).symm,?_⟩;rw[<-Array.getLast?_toList,List.getLast?_eq_some_getLast dD]
theorem jr {α:Type} (f:α->α):∀(l:List α) (x:α),(l++[x]).modify l.length f=l++[f x]
 | [],x=>rfl
 | y::l,x=>by show y::(l++[x]).modify l.length f=y::(l++[f x]);rw[jr f l x]
theorem vB (T:Tells prog w A κ s O ky Mem) (hb:∀x∈a.toList,Mem x) {size lo n:Nat} {st:SortSt} (h:Ru O ky κ a lo st) (ny:lo<=a.size) (hn:1<=n) (hu:Up O ky lo (arrOf st) n) (h0:1<=(pendingOf st).size\/lo=0) {Q:ForInStep (Option Unit×Nat)->SortSt->Shared->Prop}
  (q:∀ak,Ru O ky κ a (lo + n) ak->1<=(pendingOf ak).size->Q (.yield (none,lo + n)) ak s):kasC (model prog w) A E (Iq size lo n) Q st s:=by
 unfold Iq;refine Pi (kasC_get ?_);by_cases hp:1<=(pendingOf st).size
 ·obtain⟨l,x,hl,NK⟩:=snoc hp;rw[NK];obtain⟨s1,n1,w1⟩:=x;dsimp only;refine Pi (DS T hb h ny hp λdM h2 p2 e2=>?_);dsimp only;obtain⟨l2,x2,eF,NL⟩:=snoc p2;have Of:(pendingOf dM).size=l2.length + 1:=by
   have:=congrArg List.length eF;simp at this
   lia
  refine Pi (kasC_modify (Pi (kasC_modify (Pm (q _ ⟨h2.k,h2.f,h2.pm,?_⟩ ?_)))))
  ·show Rn O ky (arrOf dM) (((pendingOf dM).modify ((pendingOf dM).size - 1) _).push (lo,n,0)).toList 0 (lo + n);rw[Array.toList_push,Array.toList_modify,eF,Of];have em:(l2++[x2]).modify (l2.length + 1 - 1) (λ(x:Nat×Nat×Nat)=>(x.1,x.2.1,power' size (2 * s1 + n1) (2 * s1 + n1 + n1 + n) size))=l2++[(x2.1,x2.2.1,power' size (2 * s1 + n1) (2 * s1 + n1 + n1 + n) size)]:=by rw[Nat.add_sub_cancel];exact jr _ _ _
   rw[show (λ(x:Nat×Nat×Nat)=>match x with | (st,len,_)=>(st,len,power' size (2 * s1 + n1) (2 * s1 + n1 + n1 + n) size))=λ(x:Nat×Nat×Nat)=>(x.1,x.2.1,power' size (2 * s1 + n1) (2 * s1 + n1 + n1 + n) size) from rfl,em];have rn:=h2.rn;rw[eF] at rn;refine Rn.app.mpr ⟨lo,rn.KY rfl rfl,rfl,hn,λi j hi fE hj=>?_,rfl⟩;rw[e2 i hi,e2 j (by lia)];exact hu i j hi fE hj
  ·show 1<=(((pendingOf dM).modify ((pendingOf dM).size - 1) _).push (lo,n,0)).size;rw[Array.size_push]
   lia
 ·have hz:(pendingOf st).size=0:=by lia
  have e:(pendingOf st).back?=none:=by rw[Array.back?_eq_none_iff];exact Array.eq_empty_of_size_eq_zero hz
  rw[e];have Ki:lo=0:=h0.resolve_left hp;subst Ki;refine Pi (kasC_modify (Pm (q _ ⟨h.k,h.f,h.pm,?_⟩ ?_)))
  ·show Rn O ky (arrOf st) ((pendingOf st).push (0,n,0)).toList 0 (0 + n);rw[Array.toList_push,Array.eq_empty_of_size_eq_zero hz];exact⟨rfl,hn,hu,rfl⟩
  ·show 1<=((pendingOf st).push (0,n,0)).size;rw[Array.size_push]
   lia
theorem Ef (T:Tells prog w A κ s O ky Mem) (hb:∀x∈a.toList,Mem x) {mr lo:Nat} {st:SortSt} (h:Ru O ky κ a lo st) (ny:lo < a.size) (hm:1<=mr) (h0:1<=(pendingOf st).size\/lo=0) {Q:ForInStep (Option Unit×Nat)->SortSt->Shared->Prop}
  (q:∀ak n,1<=n->lo + n<=a.size->Ru O ky κ a (lo + n) ak->1<=(pendingOf ak).size->Q (.yield (none,lo + n)) ak s):kasC (model prog w) A E (HC a.size mr lo) Q st s:=by
 unfold HC;rw[if_neg (by lia)];have l9:=h.size;have lh:∀x∈(arrOf st).toList,Mem x:=λx hx=>hb x (h.pm.mem_iff.mp hx)
 have b0:Bs κ (pendingOf st) lo (arrOf st) st:=⟨h.k,h.f,rfl,List.Perm.refl _,λ_ _=>rfl⟩;have MH:∀{ak:SortSt},Bs κ (pendingOf st) lo (arrOf st) ak->Ru O ky κ a lo ak:=λb=>⟨b.k,b.f,b.pm.trans h.pm,by rw[b.p];exact h.rn.congr λt _ ht=>b.lw t ht⟩
 refine Pi (Fq T lh b0 (m:=a.size - lo) (by lia) (by lia) λak k b' k1 k2 ku=>?_);dsimp only;by_cases c:k < mr
 ·rw[if_pos c];refine Pi (kasC_lift (wpAny_rule ?_));refine Pi (Fh T lh b' (n:=min (a.size - lo) mr) (by lia) k1 (by lia) ku λdM b2 u2=>?_);rw[if_neg (by simp)];exact vB T hb (MH b2) (by lia) (by lia) u2 (by rw[b2.p];exact h0) λEX h3 p3=>q EX _ (by lia) (by lia) h3 p3
 ·rw[if_neg c];exact vB T hb (MH b') (by lia) (by lia) ku (by rw[b'.p];exact h0) λEX h3 p3=>q EX _ (by lia) (by lia) h3 p3
theorem Gv {P:Array (Nat×Nat×Nat)} (h:1 < P.size):ix P + 1 < P.size:=by
 have key:ix P=P.size - 2 - 1\/ix P=P.size - 2:=by
  unfold ix;generalize Option.any _ _=b;cases b
  ·exact .inr rfl
  ·exact .inl rfl
 rcases key with e | e <;> lia
theorem Dc (T:Tells prog w A κ s O ky Mem) (hb:∀x∈a.toList,Mem x) {st:SortSt} (h:Ru O ky κ a a.size st) {Q:Option Unit×Unit->SortSt->Shared->Prop}
  (q:∀ak,Ru O ky κ a a.size ak->(pendingOf ak).size<=1->Q (none,()) ak s):kasC (model prog w) A E (IV a.size) Q st s:=by
 unfold IV;have hle:=h.rn.le;simp at hle;refine dF (λx c ak=>c=(none,())/\Ru O ky κ a a.size ak/\(pendingOf ak).size<=max 1 (a.size - x)) ⟨rfl,h,by lia⟩ (λx c ak _ hx hI=>?_) (λc ak hI=>?_)
 ·obtain⟨rfl,h',hp⟩:=hI;refine Pi (kasC_get ?_);by_cases c1:(pendingOf ak).size<=1
  ·rw[if_pos c1];exact Pm ⟨rfl,q _ h' c1⟩
  ·rw[if_neg c1];refine Pi (pS T hb h' (Pj _) (Gv (by lia)) λdM h2 s2 _=>?_);rw[if_neg (by simp)];exact Pm ⟨rfl,rfl,h2,by lia⟩
 ·obtain⟨rfl,h',hp⟩:=hI;exact q _ h' (by lia)
theorem kF:∀(f n r:Nat),1<=n->1<=minRun' f n r
 | 0,n,r,h=>by
  have e:minRun' 0 n r=n + r:=by kernel_rfl
  rw[e];lia
 | f + 1,n,r,h=>by
  rw[minRun'_succ];split
  ·lia
  ·exact kF f (n / 2) _ (by lia)
theorem D0 (T:Tells prog w A κ s O ky Mem) (hb:∀x∈a.toList,Mem x) (h2:2<=a.size) {g:Nat} {Q:Unit->SortSt->Shared->Prop}
  (q:∀ak:SortSt,failedOf ak=none->(arrOf ak).toList.Perm a.toList->iq O ky (arrOf ak).toList->Q () ak s):kasC (model prog w) A E sortRuns' Q (SortSt.mk' κ a #[] g none) s:=by
 rw[Hf];unfold sR;refine Pi (kasC_get ?_);have Mt:=kF a.size a.size 0 (by lia);show kasC _ _ _ (do
  let r<-forIn [:a.size] ((none,0):Option Unit×Nat) λ_ r=>HC a.size (minRun' a.size a.size 0) r.2
  match r.1 with
  | some v=>pure v
  | none=>do
   let r<-IV a.size
   match r.1 with
   | some v=>pure v
   | none=>pure ()) _ _ _
 generalize minRun' a.size a.size 0=mr at Mt ⊢;refine Pi (bM (Q:=λr ak s'=>s=s'/\r.1=none/\Ru O ky κ a a.size ak) (dF (λx c ak=>∃lo,c=(none,lo)/\x<=lo/\lo<=a.size/\Ru O ky κ a lo ak/\(1<=(pendingOf ak).size\/lo=0)) ⟨0,rfl,Pj _,by lia,⟨rfl,rfl,List.Perm.refl _,rfl⟩,.inr rfl⟩ (λx c ak _ hx hI=>?_) (λc ak hI=>?_)) (λr ak s' hI=>?_))
 ·obtain⟨lo,rfl,Oc,ny,h,h0⟩:=hI;by_cases c:lo < a.size
  ·exact Ef T hb h c Mt h0 λdM n n1 n2 h2 p2=>⟨rfl,lo + n,rfl,by lia,n2,h2,.inl p2⟩
  ·have e:lo=a.size:=by lia
   subst e;unfold HC;rw[if_pos (Pj _)];exact Pm ⟨rfl,rfl,rfl,h⟩
 ·obtain⟨lo,rfl,Oc,ny,h,h0⟩:=hI;have e:lo=a.size:=by lia
  subst e;exact⟨rfl,rfl,h⟩
 ·obtain⟨rfl,e,h⟩:=hI;obtain⟨r1,r2⟩:=r;cases e;refine Pi (Dc T hb h λdM g1 g2=>Pm (q dM g1.f g1.pm ?_));have rn:=g1.rn
  match hl:(pendingOf dM).toList,rn with
  | [],rn=>have rn:0=a.size:=rn;lia
  | [x],rn=>obtain⟨_,_,u,e⟩:=rn;have e:0 + x.2.1=a.size:=e;exact Up.HA (g1.size.trans (by lia)) u
  | x::y::r,_=>
   exfalso;have:=congrArg List.length hl;simp at this
   lia
end
end MxTim
end
section
namespace Mx
open PySem PySem.W PySem.Spec PyProof.Rows L2 PySem.SeqAt MxSort
theorem pK {α β:Type} {f:α->β} {l l':List β} (h:l.Perm l'):∀r:List α,l=r.map f->∃p:List α,p.Perm r/\l'=p.map f:=by
 induction h with
 | nil=>intro r e;exact⟨r,List.Perm.refl _,e⟩
 | cons x h ih=>
  intro r e;cases r with
  | nil=>cases e
  | cons y r=>rw[Qa] at e;injection e with e1 e2;obtain⟨p,p1,p2⟩:=ih r e2;exact⟨y::p,p1.cons y,by rw[Qa,e1,p2]⟩
 | swap x y l=>
  intro r e;cases r with
  | nil=>cases e
  | cons a r=>
   cases r with
   | nil=>rw[Qa] at e;injection e with e1 e2;cases e2
   | cons b r=>rw[Qa,Qa] at e;injection e with e1 e2;injection e2 with e3 e4;exact⟨b::a::r,List.Perm.swap a b r,by rw[Qa,Qa,e1,e3,e4]⟩
 | trans h1 h2 ih1 ih2=>intro r e;obtain⟨p,p1,p2⟩:=ih1 r e;obtain⟨q,q1,q2⟩:=ih2 p p2;exact⟨q,q1.trans p1,q2⟩
section
variable {prog:Program} {w:World} {A:Around} {E:Value->Shared->Prop} {s:Shared}
noncomputable def BQ {O:KeyOrd} (vs:List Value) (key:Nat->O.α):Prop:=∀i j,i < vs.length->j < vs.length->vs.getD i Value.none=vs.getD j Value.none->key i=key j
open Classical in
noncomputable def C2 {O:KeyOrd} (vs:List Value) (key:Nat->O.α) (k:Keyed):O.α:=if h:∃i,i < vs.length/\vs.getD i Value.none=k.1 then key (Classical.choose h) else key 0
theorem jO {O:KeyOrd} {vs:List Value} {key:Nat->O.α} (hi:BQ vs key) {i:Nat} (h:i < vs.length) (v:Value):C2 vs key (vs.getD i Value.none,v)=key i:=by unfold C2;have ex:∃j,j < vs.length/\vs.getD j Value.none=((vs.getD i Value.none,v):Keyed).1:=⟨i,h,rfl⟩;rw[dif_pos ex];have z:=Classical.choose_spec ex;exact hi _ _ z.1 h z.2
theorem qc (vs:List Value):(vs.toArray.zip vs.toArray).toList=(List.range vs.length).map λi=>(vs.getD i Value.none,vs.getD i Value.none):=by
 refine List.ext_getElem (by simp) λi h1 h2=>?_
 simp at h1;simp[h1]
theorem DX {κ:SortKind} {vs:List Value} {O:KeyOrd} {key:Nat->O.α} (T:Tells O key (kas_ask prog w A κ vs) vs.length s) (hi:BQ vs key) (h2:2<=vs.length) (Nk:vs.length < 1000000) {Q:SortSt->Shared->Prop}
  (hG:∀(p:Array Nat) (ak:SortSt),Ord vs.length p->Up key p vs.length->(arrOf ak).map (·.2)=(p.toList.map λi=>vs.getD i Value.none).toArray->failedOf ak=none->Q ak s):
  wpAny (model prog w) A ((sortRuns').run (SortSt.mk' κ (vs.toArray.zip vs.toArray) #[] 7 none)) (λr s'=>Q r.2 s') E s:=by
 have hz:(vs.toArray.zip vs.toArray).size=vs.length:=by simp
 have T':MxTim.Tells prog w A κ s O (C2 vs key) (λk=>∃i,i < vs.length/\k=(vs.getD i Value.none,vs.getD i Value.none)):=by rintro x y ⟨i,ES,rfl⟩ ⟨j,uH,rfl⟩ C hC;rw[jO hi ES,jO hi uH] at hC;exact T i j ES uH C hC
 have run:=MxTim.D0 (E:=E) T' (a:=vs.toArray.zip vs.toArray) (λx hx=>by
   rw[qc] at hx;obtain⟨i,i1,i2⟩:=PY.mp hx;exact⟨i,Qd.mp i1,i2.symm⟩) (by lia) (g:=7) (Q:=λ_ ak s'=>Q ak s') (λak f pm HA=>?_)
 ·exact run
 ·rw[qc] at pm;obtain⟨p,p1,p2⟩:=pK pm.symm (List.range vs.length) rfl;have hl:p.length=vs.length:=by rw[p1.length_eq,List.length_range]
  have cJ:∀i∈p,i < vs.length:=λi hi=>Qd.mp (p1.mem_iff.mp hi)
  refine hG p.toArray ak (by unfold MxSort.Ord;exact p1) (λi j fE hj=>?_) ?_ f
  ·by_cases e:i=j
   ·subst e;exact KeyOrd.kle_refl _
   ·unfold MxTim.iq at HA;rw[p2,List.pairwise_map,List.pairwise_iff_getElem] at HA;have z:=HA i j (by lia) (by lia) (by lia);unfold MxTim.le at z;rw[jO hi (cJ _ (List.getElem_mem _)),jO hi (cJ _ (List.getElem_mem _))] at z;unfold qI;rw[show p.toArray.getD i 0=p[i] by simp[Array.getD,show i < p.length by lia],show p.toArray.getD j 0=p[j] by simp[Array.getD,show j < p.length by lia]];exact z
  ·apply Array.toList_inj.mp;rw[Array.toList_map,p2,List.map_map];rfl
theorem yi {a:Addr} {vs:List Value} {n:Nat} {P:PySem.Fin->Shared->Prop} (ho:s.heap.get? a=some (seqObj "list" vs.toArray n)) (Nm:vs.length < 1000000) {O:KeyOrd} {key:Nat->O.α}
  (hk:2<=vs.length->∀h',(∀b o,b≠a->s.heap.get? b=some o->h'.get? b=some o)->∃κ:SortKind,(∀(Q:SortKind->Shared->Prop) (E:Value->Shared->Prop),Q κ {s with heap:=h'}->wpAny (model prog w) A (keyKind' vs.toArray) Q E {s with heap:=h'})/\
   Tells O key (kas_ask prog w A κ vs) vs.length {s with heap:=h'}/\BQ vs key)
  (h:∀(p:Array Nat) (h':Heap) (e:Nat),Ord vs.length p->Up key p vs.length->(∀b o,b≠a->s.heap.get? b=some o->h'.get? b=some o)->h'.get? a=some (seqObj "list" (p.toList.map λi=>vs.getD i Value.none).toArray e)->
   P (.done (.ret .none)) {s with heap:=h'}):wpAny (model prog w) A (Builtin.«list.sort» ⟨[.ref a],[]⟩) P E s:=by
 have ha:a < s.heap.objs.size:=Po ho;have Bq:vs.length<=sizeLine:=by rw[sizeLine_eq];lia
 rw[list_sort_plain];refine O9 (listItems_at ho rfl (O9 (listUpdate_at ho rfl ?_ (by rw[Pe];exact Bq) (Nat.zero_le _))));obtain⟨e1,Mh⟩:∃e1,(s.heap.update a (Obj.mapSeq λ_=>(#[]:Array Value))).get? a=some (seqObj "list" #[] e1):=⟨_,get?_update_seq ho λ_=>#[]⟩;refine O9 (seqEpoch_at Mh rfl (O9 (wpAny_newTuple ?_ Bq)));refine O9 (wpAny_newList (wpAny_holding ?_) (Nat.zero_le _));show wpAny (model prog w) A _ P E {s with heap:=((s.heap.update a (Obj.mapSeq λ_=>(#[]:Array Value))).push (seqObj "tuple" vs.toArray 0)).push (seqObj "list" #[] 0)};generalize hh:((s.heap.update a (Obj.mapSeq λ_=>(#[]:Array Value))).push (seqObj "tuple" vs.toArray 0)).push (seqObj "list" #[] 0)=h1;have k1:∀b o,b≠a->s.heap.get? b=some o->h1.get? b=some o:=λb o hb e=>by rw[<-hh];exact Pb _ (Pb _ ((PM s.heap _ (Ne.symm hb)).trans e))
 have Kc:h1.get? a=some (seqObj "list" #[] e1):=by rw[<-hh];exact Pb _ (Pb _ Mh)
 dsimp only;have fin:∀(ak:SortSt) (p:Array Nat),Ord vs.length p->Up key p vs.length->(arrOf ak).map (·.2)=(p.toList.map λi=>vs.getD i Value.none).toArray->failedOf ak=none->
   wpAny (model prog w) A (do
    let touched:=(<-seqEpoch a) != e1
    Builtin.List.listUpdate (.ref a) λ_=>(arrOf ak).map (·.2)
    if let some e:=failedOf ak then rule "list.sort.comparison-raised";throw e
    if touched then rule "list.sort.modified";raiseError "ValueError" "list modified during sort"
    ret .none) P E {s with heap:=h1}:=λak p hp hu CK hf=>by
  refine O9 (seqEpoch_at (s:={s with heap:=h1}) Kc rfl ?_);have l9:(p.toList.map λi=>vs.getD i Value.none).toArray.size=vs.length:=by rw[Pe,Pn,Pz,hp.size]
  rw[CK];refine O9 (listUpdate_at (s:={s with heap:=h1}) Kc rfl ?_ (Nat.zero_le _) (by rw[l9];lia));rw[hf];simp only[bne_self_eq_false,Bool.false_eq_true,if_false];obtain⟨c2,qe⟩:∃c2,(h1.update a (Obj.mapSeq λ_=>(p.toList.map λi=>vs.getD i Value.none).toArray)).get? a=some (seqObj "list" (p.toList.map λi=>vs.getD i Value.none).toArray c2):=⟨_,get?_update_seq Kc λ_=>_⟩;exact Pc (h p _ c2 hp hu (λb o hb e=>(PM h1 _ (Ne.symm hb)).trans (k1 b o hb e)) qe)
 by_cases h2:2<=vs.length
 ·have oW:¬vs.toArray.size < 2:=by rw[Pe];lia
  rw[if_neg oW,if_neg oW];obtain⟨κ,NT,T,hi⟩:=hk h2 h1 k1;refine O9 (NT _ _ ?_);refine O9 (wpAny_mono (DX (s:={s with heap:=h1}) (Q:=λak s'=>s'={s with heap:=h1}/\∃p:Array Nat,Ord vs.length p/\Up key p vs.length/\(arrOf ak).map (·.2)=(p.toList.map λi=>vs.getD i Value.none).toArray/\failedOf ak=none) T hi h2 Nm
   (λp ak hp hu ho hf=>⟨rfl,p,hp,hu,ho,hf⟩)) ?_ λ_ _ e=>e)
  rintro⟨⟨⟩,ak⟩ s' ⟨rfl,p,hp,hu,CK,hf⟩;exact fin ak p hp hu CK hf
 ·have oW:vs.toArray.size < 2:=by rw[Pe];lia
  rw[if_pos oW,if_pos oW];refine O9 (Pc ?_);rw[StateT.run_pure];refine O9 (Pc ?_);refine fin (SortSt.mk' general' (vs.toArray.zip vs.toArray) #[] 7 none) (List.range vs.length).toArray (by unfold MxSort.Ord;simp) (λi j fE hj=>?_) ?_ rfl
  ·rw[show i=j by lia];exact KeyOrd.kle_refl _
  ·apply Array.toList_inj.mp;show (((vs.toArray.zip vs.toArray)).map (·.2)).toList=_
   match vs,h2 with
   | [],_=>simp
   | [v],_=>simp
   | _::_::_,h2=>exact absurd (by simp) h2
end
inductive SK where
 | tt | ts | ti | s | i
 deriving DecidableEq
noncomputable def SK.ok:SK->D->Prop
 | .tt,d=>∃f r,d= .tup (.tup f::r)
 | .ts,d=>∃f r,d= .tup (.str f::r)
 | .ti,d=>∃f r,d= .tup (.int f::r)
 | .s,d=>∃x,d= .str x
 | .i,d=>∃x,d= .int x
noncomputable def SK.κ:SK->SortKind
 | .tt=>tuples' false
 | .ts=>tuples' true
 | .ti=>tuples' true
 | .s=>oneType'
 | .i=>oneType'
noncomputable def SK.f:SK->String
 | .tt=>"tuple"
 | .ts=>"str"
 | .s=>"str"
 | _=>"int"
section
variable {P:Program} {w:World} {H:Hp} {prog:Program} {s:Shared} {A:Around}
theorem zW {b:Bool} {n m:Nat} {Q:Bool->Shared->Prop} {v wv:Value} {us vs:List Value} {d e:D} {ds es:List D} (z:Zp A s (v::us) (wv::vs) (d::ds) (e::es))
  (hs:b=true->∀{E:Value->Shared->Prop},wpAny (model prog w) A (oneLt' true v wv) (λr s'=>r=D.lt d e/\s'=s) E s)
  (hlen:ds.length + m=es.length + n) (q:Q (D.dc (d::ds) (e::es)) s):KatLex prog w A b (decide (n < m)) Q ((v::us).zip (wv::vs)) 0 s:=by
 cases z with
 | cons he hl z'=>
  rw[List.zip_cons_cons];rw[D.c7] at q;refine kat_cons (he prog w _ _ ?_);by_cases hde:d=e
  ·rw[(D.cq d e).mpr hde];rw[if_pos hde] at q;exact kat_yes (zV z' 1 (by lia) hlen q)
  ·rw[show D.jH d e=false by rw[D.jI];exact PJ hde];rw[if_neg hde] at q;refine kat_no ?_;cases b with
   | false=>rw[show (false&&0==0)=false by rfl];exact kat_one v wv (hl hde prog w _ _ q)
   | true=>rw[show (true&&0==0)=true by rfl];exact wpAny_mono (hs rfl) (λr s' ⟨e1,e2⟩=>by subst e1 e2;exact q) λ_ _ x=>x
theorem nF (hok:eX P w H s.heap) {n:Nat} (hu:A.units + n < cLine) {b:Bool} {d0 e0:D} {dr er:List D} {x y:V} {u v:Value} (hd:D.dep (.tup (d0::dr))<=n + 1) (hl:D.cG (.tup (d0::dr)) (.tup (e0::er)))
  (hs:b=true->(∃p q,d0= .str p/\e0= .str q)\/∃p q,d0= .int p/\e0= .int q) (hx:DV H x (.tup (d0::dr))) (hy:DV H y (.tup (e0::er))) (rx:RelV x u) (ry:RelV y v) {Q:Bool->Shared->Prop} {E:Value->Shared->Prop}
  (q:Q (D.lt (.tup (d0::dr)) (.tup (e0::er))) s):wpAny (model prog w) A (keyLt' (tuples' b) u v) Q E s:=by
 obtain⟨a,xs,q1,e1,e2⟩:=hx.ab;subst q1;cases rx;obtain⟨b',ys,q1,f1,f2⟩:=hy.ab;subst q1;cases ry;obtain⟨its,r1,o,ho,hc,k,vm⟩:=ar hok e1;obtain⟨aJ,r2,o2,oY,qe,k2,lD⟩:=ar hok f1;obtain⟨x0,xr,rfl,EJ,LZ⟩:=e2.cons_inv;obtain⟨y0,yr,rfl,L4,Nj⟩:=f2.cons_inv;cases r1 with
 | cons r10 r1r=>
  cases r2 with
  | cons r20 r2r=>
   rename_i u0 ur v0 vr;have qf:D.dh (d0::dr)<=n:=by unfold D.dep at hd;lia
   have CD:D.eI (d0::dr) (e0::er):=by unfold D.cG at hl;exact hl
   have zz:Zp A s (u0::ur) (v0::vr) (d0::dr) (e0::er):=yI hok hu (λd e x y u v hd2 eF w5 hy2 rx2 ry2=>zZ hok n d e x y u v A hd2 hu eF w5 hy2 rx2 ry2) qf CD e2 f2 (.cons r10 r1r) (.cons r20 r2r);refine kat_lt ho vm oY lD ?_;have l1:(u0::ur).toArray.size=(d0::dr).length:=by rw[Pe,Px,Px,<-r1r.length,LZ.length]
   have l2:(v0::vr).toArray.size=(e0::er).length:=by rw[Pe,Px,Px,<-r2r.length,Nj.length]
   have q':Q (D.dc (d0::dr) (e0::er)) s:=by have z:=q;unfold D.lt at z;exact z
   refine zW zz (λhb=>?_) (by rw[l1,l2];simp only[Px];lia) q';intro E';rcases hs hb with ⟨p,q2,rfl,rfl⟩ | ⟨p,q2,rfl,rfl⟩
   ·have z1:=EJ.str_inv;have z2:=L4.str_inv;subst z1 z2;obtain⟨t,rfl⟩:=r10;obtain⟨t',rfl⟩:=r20;exact oneLt_str ⟨by unfold D.lt;rfl,rfl⟩
   ·have z1:=EJ.int_inv;have z2:=L4.int_inv;subst z1 z2;obtain⟨t,rfl⟩:=r10;obtain⟨t',rfl⟩:=r20;exact oneLt_int ⟨by unfold D.lt;rfl,rfl⟩
theorem mh (x y:Value):keyLt' oneType' x y=oneLt' true x y:=rfl
theorem zX (hok:eX P w H s.heap) {n:Nat} (hu:A.units + n < cLine) (k:SK) {d e:D} {x y:V} {u v:Value} (hd:D.dep d<=n + 1) (hl:D.cG d e) (fd:k.ok d) (fe:k.ok e) (hx:DV H x d) (hy:DV H y e) (rx:RelV x u) (ry:RelV y v) {Q:Bool->Shared->Prop} {E:Value->Shared->Prop}
  (q:Q (D.lt d e) s):wpAny (model prog w) A (keyLt' k.κ u v) Q E s:=by
 cases k with
 | tt=>obtain⟨f,r,rfl⟩:=fd;obtain⟨f',r',rfl⟩:=fe;exact nF (b:=false) hok hu hd hl (λz=>nomatch z) hx hy rx ry q
 | ts=>obtain⟨f,r,rfl⟩:=fd;obtain⟨f',r',rfl⟩:=fe;exact nF hok hu hd hl (λ_=> .inl ⟨_,_,rfl,rfl⟩) hx hy rx ry q
 | ti=>obtain⟨f,r,rfl⟩:=fd;obtain⟨f',r',rfl⟩:=fe;exact nF hok hu hd hl (λ_=> .inr ⟨_,_,rfl,rfl⟩) hx hy rx ry q
 | s=>obtain⟨f,rfl⟩:=fd;obtain⟨f',rfl⟩:=fe;have z1:=hx.str_inv;have z2:=hy.str_inv;subst z1 z2;obtain⟨t,rfl⟩:=rx;obtain⟨t',rfl⟩:=ry;show wpAny _ _ (keyLt' oneType' _ _) _ _ _;rw[mh];unfold D.lt at q;exact oneLt_str q
 | i=>obtain⟨f,rfl⟩:=fd;obtain⟨f',rfl⟩:=fe;have z1:=hx.int_inv;have z2:=hy.int_inv;subst z1 z2;obtain⟨t,rfl⟩:=rx;obtain⟨t',rfl⟩:=ry;show wpAny _ _ (keyLt' oneType' _ _) _ _ _;rw[mh];unfold D.lt at q;exact oneLt_int q
theorem sX (hok:eX P w H s.heap) {k:SK} (hk:k= .tt\/k= .ts\/k= .ti):∀{xs:List V} {us:List Value} {ds:List D},a9 H xs ds->au xs us->(∀d∈ds,k.ok d)->
  ∃fs,KatTups s.heap us fs/\fs.length=us.length/\∀v∈fs,Looks (model prog w) s.heap (typeOf v) (.type k.f)
 | [],us,ds,_,r,_=>by cases r;exact⟨[],KatTups.nil,rfl,λv hv=>absurd hv (by simp)⟩
 | x::xs,us,ds,h,r,hf=>by
  cases r with
  | cons r0 rr=>
   cases ds with
   | nil=>unfold a9 at h;exact h.elim
   | cons d ds=>
    unfold a9 at h;obtain⟨fs,t,l,lk⟩:=sX hok hk h.2 rr λd hd=>hf d (Ph _ hd)
    have sh:∃d0 dr,d= .tup (d0::dr)/\((k= .ts/\∃p,d0= .str p)\/(k= .ti/\∃p,d0= .int p)\/(k= .tt/\∃p,d0= .tup p)):=by
     have z:=hf d Pk;rcases hk with rfl | rfl | rfl
     ·obtain⟨f,r,rfl⟩:=z;exact⟨_,_,rfl,.inr (.inr ⟨rfl,_,rfl⟩)⟩
     ·obtain⟨f,r,rfl⟩:=z;exact⟨_,_,rfl,.inl ⟨rfl,_,rfl⟩⟩
     ·obtain⟨f,r,rfl⟩:=z;exact⟨_,_,rfl,.inr (.inl ⟨rfl,_,rfl⟩)⟩
    obtain⟨d0,dr,rfl,yO⟩:=sh;obtain⟨a,ys,q1,e1,e2⟩:=h.1.ab;subst q1;cases r0;obtain⟨its,r1,o,ho,hc,kk,vm⟩:=ar hok e1;obtain⟨x0,xr,rfl,EJ,LZ⟩:=e2.cons_inv;cases r1 with
    | cons r10 r1r=>
     rename_i u0 ur;refine⟨u0::fs,KatTups.cons ho hc vm (by simp) t,by simp[l],λv hv=>?_⟩;rcases Pq.mp hv with rfl | hv
     ·rcases yO with ⟨hb,p,rfl⟩ | ⟨hb,p,rfl⟩ | ⟨hb,p,rfl⟩
      ·have z1:=EJ.str_inv;subst z1;obtain⟨t',rfl⟩:=r10;rw[hb];exact Looks.of_pure rfl
      ·have z1:=EJ.int_inv;subst z1;obtain⟨t',rfl⟩:=r10;rw[hb];exact Looks.of_pure rfl
      ·obtain⟨a2,y2,q2,g1,g2⟩:=EJ.ab;subst q2;cases r10;obtain⟨aJ,_,o2,oY,qe,_⟩:=ar hok g1;rw[hb];show Looks (model prog w) _ _ (Value.type "tuple");rw[<-qe];exact(Looks.ld oY).andThen .now
     ·exact lk v hv
theorem tT:∀{xs:List V} {us:List Value} {ds:List D},a9 H xs ds->au xs us->(∀d∈ds,SK.s.ok d)->∃ss,StrsAre us ss
 | [],us,ds,_,r,_=>by cases r;exact⟨[],.nil⟩
 | x::xs,us,ds,h,r,hf=>by
  cases r with
  | cons r0 rr=>
   cases ds with
   | nil=>unfold a9 at h;exact h.elim
   | cons d ds=>
    unfold a9 at h;obtain⟨ss,q⟩:=tT h.2 rr λd hd=>hf d (Ph _ hd)
    obtain⟨y,rfl⟩:=hf d Pk;have z1:=h.1.str_inv;subst z1;obtain⟨t,rfl⟩:=r0;exact⟨y::ss,.cons y t q⟩
theorem sP:∀{xs:List V} {us:List Value} {ds:List D},a9 H xs ds->au xs us->(∀d∈ds,SK.i.ok d)->∃ss,IntsAre us ss
 | [],us,ds,_,r,_=>by cases r;exact⟨[],.nil⟩
 | x::xs,us,ds,h,r,hf=>by
  cases r with
  | cons r0 rr=>
   cases ds with
   | nil=>unfold a9 at h;exact h.elim
   | cons d ds=>
    unfold a9 at h;obtain⟨ss,q⟩:=sP h.2 rr λd hd=>hf d (Ph _ hd)
    obtain⟨y,rfl⟩:=hf d Pk;have z1:=h.1.int_inv;subst z1;obtain⟨t,rfl⟩:=r0;exact⟨y::ss,.cons y t q⟩
theorem Gy (hok:eX P w H s.heap) (k:SK) {xs:List V} {us:List Value} {ds:List D} (hd:a9 H xs ds) (r:au xs us) (hf:∀d∈ds,k.ok d) (h2:2<=us.length) {Q:SortKind->Shared->Prop} {E:Value->Shared->Prop} (q:Q k.κ s):
  wpAny (model prog w) A (keyKind' us.toArray) Q E s:=by
 have tup:k= .tt\/k= .ts\/k= .ti->wpAny (model prog w) A (keyKind' us.toArray) Q E s:=λhk=>by obtain⟨fs,t,l,lk⟩:=sX (prog:=prog) hok hk hd r hf;refine kat_kind t (by lia) lk (by rcases hk with rfl | rfl | rfl <;> rfl) ?_;rcases hk with rfl | rfl | rfl <;> exact q
 cases k with
 | tt=>exact tup (.inl rfl)
 | ts=>exact tup (.inr (.inl rfl))
 | ti=>exact tup (.inr (.inr rfl))
 | s=>
  obtain⟨ss,hs⟩:=tT hd r hf
  match us,h2,hs with
  | v1::v2::vs,_,hs=>rw[keyKind_strs hs];exact Pc q
 | i=>
  obtain⟨ss,hs⟩:=sP hd r hf
  match us,h2,hs with
  | v1::v2::vs,_,hs=>rw[keyKind_ints hs];exact Pc q
end
noncomputable def jZ (ds:List D):Prop:=ds.length < 1000000/\(2<=ds.length->D.dh ds<=100/\(∃k:SK,∀d∈ds,k.ok d)/\∀d∈ds,∀e∈ds,D.cG d e)
section
variable {X:Cx} {pins:List (Addr×Obj)} {σ:L2.St} {H:Hp}
theorem va {s:Shared} {A:Around} {Q:PySem.Fin->Shared->Prop} {E:Value->Shared->Prop} (hu:A.units + 148 < cLine) (I:Inv X pins σ H s) {ys:List V} {its:List Value} {ds:List D} (rv:au ys its) (jo:a9 H ys ds) (hc:jZ ds)
  (q:∀(l:Addr) (zs:List V) (es:List D) (s':Shared),H l=none->a9 H zs es->j4 ds es->Inv X pins σ (upd H l (.lst zs)) s'->Q (.done (.ret (.ref l))) s'):
  wpAny (model X.prog X.w) A (do let l<-newList its;let _<-holding [l] (call (.builtin "list.sort") [l] []);ret l) Q E s:=by
 obtain⟨hlen,hc⟩:=hc;have hl:=rv.length;have eF:=jo.length;have Bq:its.length<=sizeLine:=by rw[sizeLine_eq];lia
 refine O9 (wpAny_newList ?_ (by simpa using Bq));have IQ:(s.heap.push (seqObj "list" its.toArray 0)).get? s.heap.objs.size=some (seqObj "list" its.toArray 0):=Pl _ rfl;show wpAny _ _ _ _ _ {s with heap:=s.heap.push (seqObj "list" its.toArray 0)};have ne:∀b o,s.heap.get? b=some o->b≠s.heap.objs.size:=λb o e=>PQ (Po e)
 refine O9 (wpAny_holding (wpAny_call_entry slot_list_sort (s:={s with heap:=s.heap.push (seqObj "list" its.toArray 0)}) ⟨_,IQ,rfl⟩ entry_list_sort
  (yi (s:={s with heap:=s.heap.push (seqObj "list" its.toArray 0)}) (O:=Fw) (key:=λi=>ds.getD i (.int 0)) IQ (by lia) (λh2 h' kk=>?_) λp h' e hp hup kk hD=>?_) (args_list_sort _)))
 ·obtain⟨NM,⟨k,hf⟩,yS⟩:=hc (by lia);have zJ:eX X.prog X.w H h':=I.hok.kept λb o e=>kk b o (ne b o e) (Pb _ e)
  refine⟨k.κ,λQ' E' q'=>Gy (s:={s with heap:=h'}) zJ k jo rv hf (by lia) q',λi j hi hj C hC=>?_,λi j hi hj eij=>?_⟩
  ·obtain⟨di,FC,Iv⟩:=jo.get (i:=i) (x:=ys[i]'(by lia)) (by simp);obtain⟨dj,Iw,JM⟩:=jo.get (i:=j) (x:=ys[j]'(by lia)) (by simp);obtain⟨ui,Kt,Lc⟩:=rv.get (i:=i) (x:=ys[i]'(by lia)) (by simp);obtain⟨uj,Ku,Ld⟩:=rv.get (i:=j) (x:=ys[j]'(by lia)) (by simp);unfold kas_ask;rw[show its.getD i Value.none=ui by simp[Kt],show its.getD j Value.none=uj by simp[Ku]];have ki:ds.getD i (.int 0)=di:=by simp[FC]
   have kj:ds.getD j (.int 0)=dj:=by simp[Iw]
   have mi:di∈ds:=List.mem_of_getElem? FC;have mj:dj∈ds:=List.mem_of_getElem? Iw;refine zX (s:={s with heap:=h'}) zJ (n:=100) (by show A.units + 1 + 100 < cLine;lia) k (Pp (m9 FC) (by lia)) (yS di mi dj mj) (hf di mi) (hf dj mj) Iv JM Lc Ld ?_;have L6:C (D.lt (ds.getD i (.int 0)) (ds.getD j (.int 0))) {s with heap:=h'}:=hC;rw[ki,kj] at L6;exact L6
  ·obtain⟨di,FC,Iv⟩:=jo.get (i:=i) (x:=ys[i]'(by lia)) (by simp);obtain⟨dj,Iw,JM⟩:=jo.get (i:=j) (x:=ys[j]'(by lia)) (by simp);obtain⟨ui,Kt,Lc⟩:=rv.get (i:=i) (x:=ys[i]'(by lia)) (by simp);obtain⟨uj,Ku,Ld⟩:=rv.get (i:=j) (x:=ys[j]'(by lia)) (by simp);rw[show its.getD i Value.none=ui by simp[Kt],show its.getD j Value.none=uj by simp[Ku]] at eij;subst eij;have ki:ds.getD i (.int 0)=di:=by simp[FC]
   have kj:ds.getD j (.int 0)=dj:=by simp[Iw]
   show ds.getD i (.int 0)=ds.getD j (.int 0);rw[ki,kj];rw[Lc.inj Ld] at Iv;exact Iv.inj JM
 ·refine⟨_,rfl,Pc ?_⟩;have zK:p.toList.Perm (List.range its.length):=hp;have CB:∀i∈p.toList,i < ys.length:=λi hi=>by
   have:=Qd.mp (zK.mem_iff.mp hi)
   lia
  have new:bH X.prog X.w (upd H s.heap.objs.size (.lst (p.toList.map λi=>ys.getD i .aT))) h' s.heap.objs.size (.lst (p.toList.map λi=>ys.getD i .aT)):=
   ⟨by rw[Pn,zK.length_eq,List.length_range];rw[sizeLine_eq];lia,_,e,qa rv CB,hD⟩
  have I2:=I.laid (t':=s.toks) (a:=s.heap.objs.size) (λb o q=>kk b o (ne b o q) (Pb _ q)) (Pj _) new;refine q _ _ (p.toList.map λi=>ds.getD i (.int 0)) _ (I.hok.fresh (Pj _)) (jo.map CB) ⟨?_,?_⟩ I2
  ·have e1:=zK.map (λi=>ds.getD i (.int 0));rw[show its.length=ds.length by lia] at e1;rw[fU] at e1;exact e1
  ·have Kv:∀i j,i<=j->j < its.length->D.lt (ds.getD (p.getD j 0) (.int 0)) (ds.getD (p.getD i 0) (.int 0))=false:=hup;have l9:p.toList.length=its.length:=by rw[zK.length_eq,List.length_range]
   rw[List.pairwise_map,List.pairwise_iff_getElem];intro i j hi hj fE;have:=Kv i j (by lia) (by lia);rw[show p.getD i 0=p.toList[i] by simp at hi;simp[Array.getD,hi],show p.getD j 0=p.toList[j] by simp at hj;simp[Array.getD,hj]] at this;exact this
end
noncomputable def DT (K:PySem.W.Frag):List V->Hp->VK->Prop:=λxs H Q=>∃a ys ds,xs=[.ref a]/\(dB K H a ys\/e9 K H a ys)/\a9 H ys ds/\jZ ds/\∀l zs es,H l=none->a9 H zs es->j4 ds es->Q (.ref l) (upd H l (.lst zs))
theorem mU {X:Cx} (hu:X.A.units + 150 < cLine):cX X (.builtin "sorted") (DT X.K):=by
 intro pins s σ H xs us Q I r h;obtain⟨a,ys,ds,rfl,hq,jo,hc,q⟩:=h;obtain⟨u,rfl,ru⟩:=r.one;cases ru;have sh:∃(its:List Value) (T:String) (o:Obj) (n:Nat),au ys its/\(T="list"\/T="tuple")/\s.heap.get? a=some o/\o.cls= .type T/\o.data= .seq its.toArray n:=by
  rcases hq with hq | hq
  ·obtain⟨its,rv,⟨o,n,ho,hc,_,hd⟩,_⟩:=I.list hq;exact⟨its,"list",o,n,rv,.inl rfl,ho,hc,hd⟩
  ·obtain⟨its,rv,⟨o,ho,hc,n,hd⟩,_⟩:=I.tuple hq;exact⟨its,"tuple",o,n,rv,.inr rfl,ho,hc,hd⟩
 obtain⟨its,T,o,n,rv,hT,ho,Bo,hd⟩:=sh;have Bq:its.length<=sizeLine:=by rw[sizeLine_eq,<-rv.length,jo.length];have:=hc.1;lia
 refine Calls.call_function_entry kind_sorted plain_sorted entry_sorted (args_sorted1 _) ?_;unfold Builtin.«sorted»;refine O9 (m:=checkCount "sorted" 1 1 _) (Pc (O9 (wpAny_collect_seq a hT ho Bo hd (λh1 k1=>?_) (by rw[Pe];exact Bq))));have I1:Inv X pins σ H {s with heap:=h1}:=I.kept (t':=s.toks) k1;exact va (A:=X.A.in1) (by show X.A.units + 1 + 148 < cLine;lia) I1 rv jo hc λl zs es s' hl hz hso I2=>⟨_,rfl,.ref l,_,I2,rfl,q l zs es hl hz hso⟩
end Mx
end
section
namespace Mx
open PySem PySem.W PySem.Spec PyProof.Rows L2
theorem any_range (bs:List Bool):((List.range bs.length).any λi=>bs.getD i false)=bs.any id:=by
 have h:=fU bs false;have e:((List.range bs.length).map λi=>bs.getD i false).any id=bs.any id:=by rw[h]
 rw[List.any_map] at e;exact e
theorem nM (ns:List Int):∀j,preSum (λi=>ns.getD i 0) j=(ns.take j).sum
 | 0=>by simp[preSum]
 | j + 1=>by
  rw[preSum,nM ns j];by_cases h:j < ns.length
  ·have e:ns.take (j + 1)=ns.take j++[ns[j]]:=by rw[List.take_append_getElem h]
   rw[e,List.sum_append];simp[h]
  ·rw[List.take_of_length_le (by lia),List.take_of_length_le (by lia)];simp[show ns.length<=j by lia]
theorem Fj {bs:List Bool} {its:List Value} (r:au (bs.map V.bl) its) {i:Nat} {v:Value} (h:its[i]?=some v):v= .bool (bs.getD i false):=by
 have hl:=r.length;have hi:i < bs.length:=by
  have:=(Pg.mp h).1;simp at hl
  lia
 obtain⟨u,hu,ru⟩:=r.get (i:=i) (x:=V.bl (bs.getD i false)) (by simp[hi]);rw[h] at hu;cases hu;exact ru
theorem int_at {ns:List Int} {its:List Value} (r:au (ns.map V.int) its) {i:Nat} {v:Value} (h:its[i]?=some v):∃t,v= .int (ns.getD i 0) t:=by
 have hl:=r.length;have hi:i < ns.length:=by
  have:=(Pg.mp h).1;simp at hl
  lia
 obtain⟨u,hu,ru⟩:=r.get (i:=i) (x:=V.int (ns.getD i 0)) (by simp[hi]);rw[h] at hu;cases hu;exact ru
section
variable {X:Cx}
theorem o9 {prog:Program} {w:World} {A:Around} {E:Value->Shared->Prop} {s:Shared} {l:Addr} {items:Array Value} {Q:Value->Shared->Prop} (hl:s.heap.IsList l items)
  (h:∀s2:Shared,s2={s with heap:=s.heap.push {cls:= .type "list_iterator",data:= .fields #[.ref l,.int 0 0]}}->(s2.heap.IsListIter s.heap.objs.size l 0/\s2.heap.IsList l items)->(∀b∈[s.heap.objs.size,l],b < s2.heap.objs.size)->l≠s.heap.objs.size->
   (∀(b:Addr) (o:Obj),s.heap.get? b=some o->b∉[s.heap.objs.size]/\s2.heap.get? b=some o)->Q (.ref s.heap.objs.size) s2):wpAny (model prog w) A (pyIter (.ref l)) Q E s:=by
 have lt:l < s.heap.objs.size:=by obtain⟨_,e,_⟩:=hl;exact Po e
 refine wpAny_pyIter_list hl (h _ rfl ⟨⟨_,Pl _ rfl,rfl,rfl⟩,hl.push _⟩ (λb hb=>?_) (PQ lt) λb o e=>⟨?_,Pb _ e⟩)
 ·show b < (s.heap.push _).objs.size;rw[PP];simp only[Pq,Pr,or_false] at hb;have lt':l < s.heap.objs.size:=lt;rcases hb with rfl | rfl
  ·exact Nat.lt_succ_self _
  ·exact Nat.lt_succ_of_lt lt'
 ·intro hb;have:=Po e;rw[PX.mp hb] at this;exact Nat.lt_irrefl _ this
noncomputable def K0 (K:PySem.W.Frag):List V->Hp->VK->Prop:=λxs H Q=>∃(l:Addr) (bs:List Bool),xs=[.ref l]/\dB K H l (bs.map V.bl)/\Q (.bl (bs.any id)) H
noncomputable def La (K:PySem.W.Frag):List V->Hp->VK->Prop:=λxs H Q=>∃(l:Addr) (ns:List Int),xs=[.ref l]/\dB K H l (ns.map V.int)/\Q (.int ns.sum) H
theorem vS (hc:X.calm=true):cX X (.builtin "any") (K0 X.K):=by
 intro pins s σ H xs us Q I r h;obtain⟨l,bs,rfl,hq,q⟩:=h;obtain⟨u,rfl,ru⟩:=r.one;cases ru;obtain⟨its,rv,pl,hz⟩:=I.list hq;have hl:its.length=bs.length:=by rw[<-rv.length];simp
 refine call_any_walk (o9 pl.isList λs2 e st fp ne old=>?_);refine⟨_,_,_,_,_,_,λi=>bs.getD i false,rfl,Walks.list (A:=X.A.in1) (I.ok.hd hc) _ l ne its.toArray,st,λi v s' Q' E' hv hQ=>?_,λh' tk hk=>?_⟩
 ·have CQ:its.toArray[i]?=some v:=hv;rw[Fj rv (show its[i]?=some v by simpa using CQ)];exact wpAny_truthy_bool hQ
 ·subst e;refine⟨.bl _,H,I.kept λb o e=>hk b o (old b o e).1 (old b o e).2,rfl,?_⟩;rw[show its.toArray.size=bs.length by simp[hl],any_range];exact q
theorem vU (hc:X.calm=true):cX X (.builtin "sum") (La X.K):=by
 intro pins s σ H xs us Q I r h;obtain⟨l,ns,rfl,hq,q⟩:=h;obtain⟨u,rfl,ru⟩:=r.one;cases ru;obtain⟨its,rv,pl,hz⟩:=I.list hq;have hl:its.length=ns.length:=by rw[<-rv.length];simp
 refine call_sum_walkG (o9 pl.isList λs2 e st fp ne old=>?_);refine⟨_,_,_,_,_,_,λi=>ns.getD i 0,rfl,Walks.list (A:=X.A.in1) (I.ok.hd hc) _ l ne its.toArray,st,fp,λi v hv=>?_,λh' tk t' hk=>?_⟩
 ·have CQ:its.toArray[i]?=some v:=hv;exact int_at rv (by simpa using CQ)
 ·subst e;refine⟨.int _,H,I.kept λb o e=>hk b o (old b o e).1 (old b o e).2,⟨t',rfl⟩,?_⟩;rw[show its.toArray.size=ns.length by simp[hl],nM,List.take_length];exact q
end
theorem gn {i:Nat} {v:V} {σ:L2.St} {H:Hp} {k:L2.St->Hp->Prop} (h:k (σ.set i (some v)) H):eD i v σ H k:=h
end Mx
end
section
namespace Mx
open PySem PySem.W PySem.Spec PyProof.Rows L2 HT
open PySem.AutoSeq1 (wpAny_loadPart')
theorem tuple_addW0 (l b:Addr) (items cc:Array Value) (n n2:Nat) (dd sj:Option Addr) (sl tO:Array (Option Value)) (OQ:items.isEmpty=true):
  Meets (Builtin.«tuple.__add__» ⟨[.ref l,.ref b],[]⟩) (λ_ R s=>s.heap.get? l=some {cls:= .type "tuple",dict:=dd,data:= .seq items n,slots:=sl}/\s.heap.get? b=some {cls:= .type "tuple",dict:=sj,data:= .seq cc n2,slots:=tO}/\R (.ok (.ret (Value.ref b))) s):=
 .of_wp λprog w A R s h=>by
  obtain⟨hp,g,d,tk,os⟩:=s;obtain⟨hl,hb,h⟩:=h;have f2:=sub_tuple_tuple
  wp_walk using wpAny_loadPart' hl,wpAny_loadPart' hb
  exact⟨_,rfl,h⟩
theorem xc {α:Type} (pre:List α) (x:α):ot (pre++[x]).length (-1)=some pre.length:=by
 unfold ot;rw[if_neg (by decide),if_pos (by simp;lia)];simp
 lia
theorem oB {α:Type} (pre:List α) (x:α):lQ (pre++[x]) (-1)=some x:=by unfold lQ;rw[xc];simp
end Mx
end
section
namespace Mx
open PySem PySem.W PySem.Spec PyProof.Rows L2
noncomputable def K6 (K:PySem.W.Frag):List V->Hp->VK->Prop:=λxs H Q=>∃(l:Addr) (ns:List Int),xs=[.ref l]/\dB K H l (ns.map V.int)/\ns≠[]/\∀m,m∈ns->(∀a∈ns,m<=a)->Q (.int m) H
theorem EG {X:Cx} (hc:X.calm=true):cX X (.builtin "min") (K6 X.K):=by
 intro pins s σ H xs us Q I r h;obtain⟨l,ns,rfl,hq,dD,q⟩:=h;obtain⟨u,rfl,ru⟩:=r.one;cases ru;obtain⟨its,rv,pl,hz⟩:=I.list hq;have i1:IntsAre its ns:=intsAre_of rv;have CF:=i1.numsOf;have vk:=i1.allInts;have hl:=pl.isList;obtain⟨xs,Gk⟩:=vk.items;have oW:numsOf (intItems xs).toList=ns:=by rw[<-Gk];exact CF
 rw[nums_intItems] at oW;rw[Gk] at hl;have hlen:ns.length=xs.size:=by rw[<-oW,Pn,Pz]
 have wW:0 < xs.size:=by rw[<-hlen];exact List.length_pos_iff.mpr dD
 refine min_intList (I.ok.hd hc) hl wW λv h' tk hv hk=>?_
 obtain⟨t,rfl⟩:=intItems_at hv;obtain⟨h1,h2⟩:=argBest_lt (numAt xs) (xs.size - 1);refine⟨.int _,H,I.kept hk,⟨t,rfl⟩,q _ ?_ λa ha=>?_⟩
 ·rw[numAt_eq,oW];exact getD_mem (by lia)
 ·obtain⟨j,hj,rfl⟩:=mem_getD ha;rw[<-oW,<-numAt_eq];exact h2 j (by lia)
noncomputable def K5 (K:PySem.W.Frag):List V->Hp->VK->Prop:=λxs H Q=>∃(l:Addr) (ns:List Int),xs=[.ref l]/\dB K H l (ns.map V.int)/\ns≠[]/\∀m,m∈ns->(∀a∈ns,a<=m)->Q (.int m) H
theorem uk {X:Cx} (hc:X.calm=true):cX X (.builtin "max") (K5 X.K):=by
 intro pins s σ H xs us Q I r h;obtain⟨l,ns,rfl,hq,dD,q⟩:=h;obtain⟨u,rfl,ru⟩:=r.one;cases ru;obtain⟨its,rv,pl,hz⟩:=I.list hq;have i1:IntsAre its ns:=intsAre_of rv;have CF:=i1.numsOf;have vk:=i1.allInts;have hl:=pl.isList;obtain⟨xs,Gk⟩:=vk.items;have oW:numsOf (intItems xs).toList=ns:=by rw[<-Gk];exact CF
 rw[nums_intItems] at oW;rw[Gk] at hl;have hlen:ns.length=xs.size:=by rw[<-oW,Pn,Pz]
 have wW:0 < xs.size:=by rw[<-hlen];exact List.length_pos_iff.mpr dD
 refine max_intList (I.ok.hd hc) hl wW λv h' tk hv hk=>?_
 obtain⟨t,rfl⟩:=intItems_at hv;obtain⟨h1,h2⟩:=argBest_gt (numAt xs) (xs.size - 1);refine⟨.int _,H,I.kept hk,⟨t,rfl⟩,q _ ?_ λa ha=>?_⟩
 ·rw[numAt_eq,oW];exact getD_mem (by lia)
 ·obtain⟨j,hj,rfl⟩:=mem_getD ha;rw[<-oW,<-numAt_eq];exact h2 j (by lia)
end Mx
end
section
namespace L2
open PySem PySem.Spec PyProof.Rows
noncomputable def eh (e:Expr) (d:Nat) (it acc:Value) (env:Env) (target:Expr) (ifs:List Expr) (p:Pos) (body:Sem Unit):Sem PySem.Fin:=do
 standAt p
 match<-pyNext it with
 | none=>pure (.done .next)
 | some v=>
  letOwnedTupleGo target it v
  assign target env v
  let mut ok:=true
  for c in ifs do
   if ok then ok<-isTrue c env (eval c env)
  if ok then body
  again (.compLoop e d it acc env)
theorem mX {prog:Program} {w:World} {A:Around} {R:Result->Shared->Prop} {s:Shared} {elt target:Expr} {gens:List Comprehension} {scope:Scope} {pos:Pos} {d:Nat} {ifs:List Expr} {p:Pos} {it acc:Value} {env:Env} {body:Sem Unit} (heq:compTurn (.ListComp elt gens scope pos) d it acc env=eh (.ListComp elt gens scope pos) d it acc env target ifs p body) {EE:Value->Shared->Prop}
  (FQ:∀x s',EE x s'->notedBy (model prog w) A env (λx s'=>R (.error x) s') x s') (I:Nat->Shared->Prop)
  (turn:∀n s,I n s->wpAny (model prog w) A (pyNext it) (λr s₁=>match r with
   | none=>R (.ok .next) s₁
   | some v=>wpAny (model prog w) A (letOwnedTupleGo target it v) (λ_ s₁'=>wpAny (model prog w) A (assign target env v) (λ_ s₂=>
     wpAny (model prog w) A (forIn ifs true λc r=>if r=true then do let ok<-isTrue c env (eval c env);pure (ForInStep.yield ok) else pure (ForInStep.yield r)) (λok s₃=>
      if ok=true then wpAny (model prog w) A body (λ_ s₄=>∃m,m < n/\I m s₄) EE s₃
      else∃m,m < n/\I m s₃) EE s₂) EE s₁') EE s₁) EE s)
  (n:Nat) (h:I n s):codeAny (model prog w) A (.compLoop (.ListComp elt gens scope pos) d it acc env) R s:=by
 refine codeAny_loop rfl I (λn s hI=>?_) n h;show wpAny _ A ((compTurn (.ListComp elt gens scope pos) d it acc env).onRaise (λx=>do noteFrame x env;theTreesLotGoes x)) _ _ s;refine wpAny_noted ?_;rw[heq];unfold eh;refine O9 (wpAny_standAt (O9 (wpAny_mono (turn n s hI) (λr s₁ h₁=>?_) FQ)));cases r with
 | none=>exact Pc h₁
 | some v=>
  refine O9 (wpAny_mono h₁ (λ_ s₁' h₁'=>?_) FQ);refine O9 (wpAny_mono h₁' (λ_ s₂ h₂=>O9 (wpAny_mono h₂ (λok s₃ h₃=>?_) FQ)) FQ);cases ok with
  | false=>exact Pc ⟨rfl,h₃⟩
  | true=>exact O9 (wpAny_mono h₃ (λ_ s₄ h₄=>Pc ⟨rfl,h₄⟩) FQ)
noncomputable def gM (elt:Expr) (acc:Value) (env:Env):Sem Unit:=do let _<-call (.builtin "list.append") [acc,<-eval elt env]
noncomputable def nextOf (e:Expr) (d:Nat) (iter:Expr) (acc:Value) (env:Env):Sem Unit:=do
 let x<-eval iter env
 standAt iter.pos
 let x<-foldedSetIterable iter env x
 let _<-runOwn (.compStart e d (<-holding [x] (pyIter x)) acc env) env
theorem p6 (elt target iter:Expr) (ifs:List Expr) (scope:Scope) (pos:Pos) (it acc:Value) (env:Env):
  compTurn (.ListComp elt [⟨target,iter,ifs,0⟩] scope pos) 0 it acc env=eh (.ListComp elt [⟨target,iter,ifs,0⟩] scope pos) 0 it acc env target ifs iter.pos (gM elt acc env):=by rfl
theorem p7 (elt target iter bj bX:Expr) (ifs cv:List Expr) (scope:Scope) (pos:Pos) (it acc:Value) (env:Env):
  compTurn (.ListComp elt [⟨target,iter,ifs,0⟩,⟨bj,bX,cv,0⟩] scope pos) 0 it acc env=
   eh (.ListComp elt [⟨target,iter,ifs,0⟩,⟨bj,bX,cv,0⟩] scope pos) 0 it acc env target ifs iter.pos (nextOf (.ListComp elt [⟨target,iter,ifs,0⟩,⟨bj,bX,cv,0⟩] scope pos) 1 bX acc env):=by
 unfold eh nextOf;simp only[bind_assoc,pure_bind];rfl
theorem AY (elt target iter bj bX:Expr) (ifs cv:List Expr) (scope:Scope) (pos:Pos) (it acc:Value) (env:Env):
  compTurn (.ListComp elt [⟨target,iter,ifs,0⟩,⟨bj,bX,cv,0⟩] scope pos) 1 it acc env=
   eh (.ListComp elt [⟨target,iter,ifs,0⟩,⟨bj,bX,cv,0⟩] scope pos) 1 it acc env bj cv bX.pos (gM elt acc env):=by rfl
noncomputable def Le (σ σ2:St):Prop:=σ2.length=σ.length/\∀(j:Nat) (v:V),σ[j]?=some (some v)->σ2[j]?=some (some v)
theorem Le.refl (σ:St):Le σ σ:=⟨rfl,λ_ _ h=>h⟩
noncomputable def GL (σ0:St) (g:TG):Prop:=∀x σ H (Q:St->Hp->Prop),Le σ0 σ->g x σ H Q->g x σ H λσ2 H2=>Le σ0 σ2/\Q σ2 H2
noncomputable def E3 (σ0:St) (g:vz):Prop:=∀x σ H (Q:St->Hp->Prop),Le σ0 σ->g x σ H Q->g x σ H λσ2 H2=>Le σ0 σ2/\Q σ2 H2
theorem Le.set {k:Nat} {σ0 σ:St} {v:Option V} (h:σ0[k]?=some none) (q:Le σ0 σ):Le σ0 (σ.set k v):=⟨by simpa using q.1,λj w hj=>by
 rw[Pw (by rintro rfl;rw[h] at hj;cases hj)];exact q.2 j w hj⟩
theorem zB {σ0:St} {k:Nat} (h:σ0[k]?=some none):GL σ0 (eD k):=λx σ H Q p q=>⟨p.set h,q⟩
theorem zC {σ0:St}:E3 σ0 Cw:=λx σ H Q p q=>⟨q.1,p,q.2⟩
theorem wF {σ0:St} {k:Nat} {u:vz} (h:σ0[k]?=some none) (hu:E3 σ0 u):E3 σ0 (wx (eD k) u):=λx σ H Q p q=>by obtain⟨v,r,e,q⟩:=q;exact⟨v,r,e,hu r _ H Q (p.set h) q⟩
theorem CA {σ0:St} {K:PySem.W.Frag} {n:Nat} {u:vz} (hu:E3 σ0 u):GL σ0 (Cy K n u):=λx σ H Q p q=>by obtain⟨a,xs,e,h1,h2,q⟩:=q;exact⟨a,xs,e,h1,h2,hu xs σ H Q p q⟩
theorem Inv.le {X:Cx} {pins:List (Addr×Obj)} {σ σ2:St} {H:Hp} {s:Shared} (I:Inv X pins σ2 H s) (h:Le σ σ2):Inv X pins σ H s:=I.weak h.1.symm h.2
noncomputable abbrev TB:=St->Hp->(Hp->Prop)->Prop
noncomputable def PB (X:Cx) (body:Sem Unit) (tb:TB):Prop:=∀(pins:List (Addr×Obj)) (s:Shared) (σ:St) (H:Hp) (Q:Hp->Prop),Inv X pins σ H s->tb σ H Q->wpAny (model X.prog X.w) X.A body (λ_ s'=>∃H',Inv X pins σ H' s'/\Q H') X.xe s
noncomputable def ox (J:It) (g:TG) (tt:TT) (tb:TB) (σ0:St) (F:Hp->Prop) (H1:Hp):Prop:=
 ∃W:Nat->Nat->Hp->Prop,(∃m,W 0 m H1)/\∀i m H,W i m H->
  (J.stop i H/\F H)\/(J.go i H/\∀x H',J.yld i H x H'->g x σ0 H' λσ2 H2=>tt σ2 H2 λb H3=>if b=true then tb σ2 H3 λH4=>∃m',m' < m/\W (i + 1) m' H4 else∃m',m' < m/\W (i + 1) m' H3)
section
variable {X:Cx} {g:TG} {tt:TT} {tb:TB}
theorem lY (hc:X.calm=true) {elt target:Expr} {gens:List Comprehension} {scope:Scope} {pos:Pos} {d:Nat} {ifs:List Expr} {p:Pos} {acc:Value} {body:Sem Unit} {R:Result->Shared->Prop} {pins:List (Addr×Obj)} {σ0:St} {H0:Hp} {s0:Shared} {it:Addr} {fp:List Addr} {tn:Nat->Heap->Prop} {J:It} {F:Hp->Prop}
  (heq:compTurn (.ListComp elt gens scope pos) d (.ref it) acc X.env=eh (.ListComp elt gens scope pos) d (.ref it) acc X.env target ifs p body) (hx:∀x s',X.xe x s'->notedBy (model X.prog X.w) X.A X.env (λx s'=>R (.error x) s') x s')
  (hg:PG X target g) (lj:GL σ0 g) (ht:A5 X ifs tt) (hb:PB X body tb) (I0:Inv X pins σ0 H0 s0) (T:Turn X.prog X.w X.K target J fp it tn) (dy:tn 0 s0.heap) (f0:∀b∈fp,ib X pins H0 b)
  (hW:ox J g tt tb σ0 F H0) (fin:∀s' H',Inv X pins σ0 H' s'->F H'->R (.ok .next) s'):codeAny (model X.prog X.w) X.A (.compLoop (.ListComp elt gens scope pos) d (.ref it) acc X.env) R s0:=by
 obtain⟨W,⟨m0,w0⟩,turn⟩:=hW;have nU:∀{H':Hp},(∀b∈fp,H' b=none)->∀b∈fp,ib X pins H' b:=λhn b hb=>⟨hn b hb,(f0 b hb).2⟩
 refine mX heq hx (λn s'=>∃i H',Inv X pins σ0 H' s'/\tn i s'.heap/\(∀b∈fp,H' b=none)/\W i n H') ?_ m0 ⟨0,H0,I0,dy,λb hb=>(f0 b hb).1,w0⟩;rintro n s4 ⟨i,H4,I4,MD,LY,w4⟩;rcases turn i n H4 w4 with ⟨stop,qn⟩ | ⟨go,step⟩
 ·refine bV (T.done X rfl rfl rfl hc i pins s4 _ H4 X.xe I4 (nU LY) MD stop) λr s5 ⟨hr,I5⟩=>?_
  subst hr;exact fin s5 H4 I5 qn
 ·refine bV (T.item X rfl rfl rfl hc i pins s4 _ H4 X.xe I4 (nU LY) MD go) λr s5 ⟨u,hr,h5⟩=>?_
  subst hr;refine bV h5 λ_ s6 ⟨x,H6,I6,r6,y6,Ls,Nh⟩=>?_
  have MX:=I6.pinned (nU Nh) (T.obj _ _ Ls);have again:∀{s7:Shared} {σ7:St} {H7:Hp} {m7:Nat},Inv X (pins++kM fp s6.heap) σ7 H7 s7->Le σ0 σ7->m7 < n->W (i + 1) m7 H7->
    ∃m,m < n/\∃i H',Inv X pins σ0 H' s7/\tn i s7.heap/\(∀b∈fp,H' b=none)/\W i m H':=λ {s7 σ7 H7 m7} I7 hσ hm w7=>by
   refine⟨m7,hm,i + 1,H7,I7.iY.le hσ,T.keep _ _ _ Ls λb hb o e=>(I7.pin (b,o) (PU _ (PU _ (fh hb e)))).1,λb hb=>?_,w7⟩;obtain⟨o,e,d⟩:=T.obj _ _ Ls b hb;exact(I7.pin (b,o) (PU _ (PU _ (fh hb e)))).2.1
  refine bV (hg _ s6 _ H6 x u _ MX r6 (lj x _ H6 _ (Le.refl _) (step x H6 y6))) λ_ s7 ⟨σ7,H7,I7,Mr,q7⟩=>?_
  refine bV (ht _ s7 σ7 H7 _ I7 q7) λb s8 ⟨H8,I8,q8⟩=>?_
  cases b with
  | false=>rw[if_neg (by simp)] at q8 ⊢;obtain⟨m',hm,w8⟩:=q8;exact again I8 Mr hm w8
  | true=>
   rw[if_pos rfl] at q8 ⊢;refine bV (hb _ s8 σ7 H8 _ I8 q8) λ_ s9 ⟨H9,I9,m',hm,w9⟩=>?_
   exact again I9 Mr hm w9
noncomputable def tV (D:Addr) (te:TE):TB:=λσ H Q=>te σ H λv H4=>∃gv,H4 D=some (.lst gv)/\gv.length < sizeLine/\Q (upd H4 D (.lst (gv++[v])))
theorem jQ {elt:Expr} {te:TE} {D:Addr} (he:PE X elt te):PB X (gM elt (.ref D) X.env) (tV D te):=by intro pins s σ H Q I h;unfold gM;refine O9 (bV (he pins s σ H _ I h) λy s9 ⟨v,H9,I9,r9,gv,Nu,hz,q⟩=>?_);refine O9 (bV (my _ s9 σ H9 (.ref D) [v] (.ref D) [y] (λ_ H'=>H'=upd H9 D (.lst (gv++[v]))) I9 rfl (.cons r9 .nil) ⟨D,gv,v,rfl,rfl,Nu,hz,rfl⟩) λ_ s10 ⟨_,OE,MV,_,M9⟩=>?_);subst M9;exact Pc ⟨_,MV,q⟩
theorem mY {prog:Program} {w:World} {A:Around} {R:Result->Shared->Prop} {s:Shared} {elt target iter bj bX:Expr} {ifs cv:List Expr} {scope:Scope} {pos:Pos} {it acc:Value} {env:Env}
  (h0:codeAny (model prog w) A (.compLoop (.ListComp elt [⟨target,iter,ifs,0⟩,⟨bj,bX,cv,0⟩] scope pos) 1 it acc env) R s)
  (h:wpAny (model prog w) A (pyIter it) (λjN s'=>codeAny (model prog w) A (.compLoop (.ListComp elt [⟨target,iter,ifs,0⟩,⟨bj,bX,cv,0⟩] scope pos) 1 jN acc env) R s')
   (notedBy (model prog w) A env λx s'=>R (.error x) s') s):
  codeAny (model prog w) A (.compStart (.ListComp elt [⟨target,iter,ifs,0⟩,⟨bj,bX,cv,0⟩] scope pos) 1 it acc env) R s:=by
 refine codeAny_of_tree ?_;show wpAny _ _ ((compStart (.ListComp elt [⟨target,iter,ifs,0⟩,⟨bj,bX,cv,0⟩] scope pos) 1 it acc env).onRaise (λx=>do noteFrame x env;standAt theWindowsPlace)) _ _ s;refine wpAny_notedAt ?_;unfold compStart;show wpAny _ _ (ask >>=_) _ _ s;refine O9 (wpAny_askSetting (wpAny_ite ?_));split
 ·first
   | exact O9 (Pc (Pc (And.intro rfl h0)))
   | exact Pc (And.intro rfl h0)
 ·first
   | exact O9 (wpAny_rule (O9 (wpAny_standAt (O9 (wpAny_mono h (λjN s' h'=>Pc (And.intro rfl h')) λ_ _ x=>x)))))
   | (refine O9 (wpAny_rule ?_);show wpAny _ _ (standAt bX.pos >>=_) _ _ s;exact O9 (wpAny_standAt (O9 (wpAny_mono h (λjN s' h'=>Pc (And.intro rfl h')) λ_ _ x=>x))))
noncomputable def HM (wi:TI) (g:TG) (tt:TT) (tb:TB):TB:=λσ H Q=>GL σ g/\wi σ H λJ H1=>ox J g tt tb σ Q H1
theorem tv {elt target iter bj bX:Expr} {ifs cv:List Expr} {scope:Scope} {pos:Pos} {acc:Value} {wi:TI} {te:TB} (hc:X.calm=true) (hp:PassesOwn (model X.prog X.w) X.A X.env X.xe) (hi:PI X bj bX wi) (hg:PG X bj g) (ht:A5 X cv tt) (he:PB X (gM elt acc X.env) te)
  (hs:∀x,foldedSetIterable bX X.env x=pure x:=by intro _;rfl):PB X (nextOf (.ListComp elt [⟨target,iter,ifs,0⟩,⟨bj,bX,cv,0⟩] scope pos) 1 bX acc X.env) (HM wi g tt te):=by
 intro pins s σ H Q I ⟨lj,h⟩;unfold nextOf;refine O9 (bV (hi pins s σ H _ I h) λx s₁ h₁=>?_);refine O9 (wpAny_standAt (O9 (wpAny_of_eq (hs x) (O9 (wpAny_holding (bV h₁ λoq s₂ h₂=>?_))))));obtain⟨it,fp,tn,J,H2,e,I2,T,dM,f2,hW⟩:=h₂;subst e;have loop:codeAny (model X.prog X.w) X.A (.compLoop (.ListComp elt [⟨target,iter,ifs,0⟩,⟨bj,bX,cv,0⟩] scope pos) 1 (.ref it) acc X.env) (λr s'=>match r with | .ok f=>∃H',Inv X pins σ H' s'/\Q H' | .error e=>cameBackBy (model X.prog X.w) X.A X.env X.xe e s') s₂:=
  lY hc (AY ..) (λx s' q=>hp x s' q) hg lj ht he I2 T dM f2 hW λs' H' I' q=>⟨H',I',q⟩
 have run:wpAny (model X.prog X.w) X.A (runOwn (.compStart (.ListComp elt [⟨target,iter,ifs,0⟩,⟨bj,bX,cv,0⟩] scope pos) 1 (.ref it) acc X.env) X.env) (λ_ s'=>∃H',Inv X pins σ H' s'/\Q H') X.xe s₂:=
  wpAny_runOwn (mY loop (T.self _ 0 _ _ _ dM loop))
 exact O9 (wpAny_mono run (λf s' q=>Pc q) λ_ _ z=>z)
end
theorem f7 {x:Str} {c:Addr}:∀(names:List (Str×NameKind)) (n:Nat) (acc:List (Str×Addr)),(cellsFrom n names acc).lookup x=some c->(n<=c/\(x,NameKind.cell)∈names)\/acc.lookup x=some c
 | [],n,acc,h=> .inr h
 | (y,k)::r,n,acc,h=>by
  unfold cellsFrom at h;by_cases hk:(k==NameKind.cell)=true
  ·rw[if_pos hk] at h;rcases f7 r (n + 1) _ h with ⟨h1,h2⟩ | h1
   ·exact .inl ⟨Pp (Nat.le_succ _) h1,Ph _ h2⟩
   ·rw[PK] at h1;cases hb:x==y with
    | true=>
     rw[hb] at h1;cases h1;have:x=y:=by simpa using hb
     subst this;have:k=NameKind.cell:=by simpa using hk
     subst this;exact .inl ⟨Pj _,Pk⟩
    | false=>rw[hb] at h1;exact .inr h1
  ·rw[if_neg hk] at h;rcases f7 r n _ h with ⟨h1,h2⟩ | h1
   ·exact .inl ⟨h1,Ph _ h2⟩
   ·exact .inr h1
theorem qy {x y:Str} {c:Addr}:∀(names:List (Str×NameKind)) (n:Nat) (acc:List (Str×Addr)),(∀x c,acc.lookup x=some c->c < n)->(∀x y c,acc.lookup x=some c->acc.lookup y=some c->x=y)->
  (cellsFrom n names acc).lookup x=some c->(cellsFrom n names acc).lookup y=some c->x=y
 | [],n,acc,h1,h2,hx,hy=>h2 x y c hx hy
 | (z,k)::r,n,acc,h1,h2,hx,hy=>by
  unfold cellsFrom at hx hy;by_cases hk:(k==NameKind.cell)=true
  ·rw[if_pos hk] at hx hy;refine qy r (n + 1) _ (λa b gP=>?_) (λa b e ha hb=>?_) hx hy
   ·rw[PK] at gP;cases hq:a==z with
    | true=>rw[hq] at gP;cases gP;exact Nat.lt_succ_self _
    | false=>rw[hq] at gP;exact Nat.lt_succ_of_lt (h1 a b gP)
   ·rw[PK] at ha hb;cases hq:a==z with
    | true=>
     rw[hq] at ha;cases ha;cases hq2:b==z with
     | true=>
      have e1:a=z:=by simpa using hq
      have e2:b=z:=by simpa using hq2
      rw[e1,e2]
     | false=>rw[hq2] at hb;exact absurd (h1 b _ hb) (Nat.lt_irrefl _)
    | false=>
     rw[hq] at ha;cases hq2:b==z with
     | true=>rw[hq2] at hb;cases hb;exact absurd (h1 a _ ha) (Nat.lt_irrefl _)
     | false=>rw[hq2] at hb;exact h2 a b e ha hb
  ·rw[if_neg hk] at hx hy;exact qy r n acc h1 h2 hx hy
theorem mV {x:Str} {c:Addr}:∀(names:List (Str×NameKind)) (n:Nat) (acc:List (Str×Addr)),(x,NameKind.cell)∉names->acc.lookup x=some c->(cellsFrom n names acc).lookup x=some c
 | [],n,acc,_,h=>h
 | (z,k)::r,n,acc,hn,h=>by
  unfold cellsFrom;by_cases hk:(k==NameKind.cell)=true
  ·rw[if_pos hk];refine mV r (n + 1) _ (λz'=>hn (Ph _ z')) ?_;rw[PK];have:(x==z)=false:=by
    cases hq:x==z with
    | false=>rfl
    | true=>
     have e1:x=z:=by simpa using hq
     have e2:k=NameKind.cell:=by simpa using hk
     subst e1 e2;exact absurd Pk hn
   rw[this];exact h
  ·rw[if_neg hk];exact mV r n acc (λz'=>hn (Ph _ z')) h
theorem j8 {x:Str} {c:Addr}:∀(names:List (Str×NameKind)) (h:Heap) (acc:List (Str×Addr)),(∀x c,acc.lookup x=some c->∃v,h.IsCell c v)->(cellsFrom h.objs.size names acc).lookup x=some c->∃v,(pushCells h names).IsCell c v
 | [],h,acc,ha,hx=>ha x c hx
 | (z,k)::r,h,acc,ha,hx=>by
  unfold cellsFrom at hx;unfold pushCells;by_cases hk:(k==NameKind.cell)=true
  ·rw[if_pos hk] at hx ⊢;refine j8 r _ ((z,h.objs.size)::acc) (λa b gP=>?_) (by rw[PP];exact hx);rw[PK] at gP;cases hq:a==z with
   | true=>rw[hq] at gP;cases gP;exact⟨none,_,Pl _ rfl,rfl⟩
   | false=>rw[hq] at gP;obtain⟨v,o,ho,hd⟩:=ha a b gP;exact⟨v,o,Pb _ ho,hd⟩
  ·rw[if_neg hk] at hx ⊢;exact j8 r h acc ha hx
theorem qb {M:Model} {A:Around} {E:Value->Shared->Prop} {s:Shared} {scope:Scope} {globals:Addr} {cl:List (Str×Addr)} {qual:Str} {out:Env} {Q:Env->Shared->Prop}
  (hQ:∀h',h'=pushCells (s.heap.push {cls:= .type "dict",data:= .dict #[]}) scope.names->Q (newEnv scope s.heap.objs.size globals (cellsFrom (s.heap.objs.size + 1) scope.names cl) qual none .none (some out) builtinsNs) {s with heap:=h'}):
  wpAny M A (newFunctionEnv scope globals cl [] qual none .none (some out)) Q E s:=by
 simp only[newFunctionEnv,Option.isSome_some,if_true];refine O9 (wpAny_alloc ?_);refine O9 (wpAny_layCells _ (λname kind cells=>by cases hkc:kind==NameKind.cell <;> simp[hkc]) _ _ _ _ ?_);rw[show ({s with heap:=s.heap.push {cls:= .type "dict",data:= .dict #[]}}:Shared).heap.objs.size=s.heap.objs.size + 1 from PP ..];rw[List.forIn_nil];exact O9 (Pc (Pc (hQ _ rfl)))
noncomputable def gw (X:Cx) (scope:Scope) (N':List Str) (C:Addr) (s:Shared) (H:Hp) (fp:List Addr) (xe:Value->Shared->Prop):Cx:=
 {X with N:=N',s₀:=s,H₀:=H,env:=compEnvC scope (cellsFrom (C + 1) scope.names (fy scope X.env)) C X.env,outer:=X.stack,stack:=X.stack,ex:=fp,fn:=λx=>scope.names.lookup x==some .cell,pn:=[],xe:=xe}
structure fv (X:Cx) (scope:Scope) (N':List Str) (cap:List (Option Nat)):Prop where
 kind:scope.kind= .function
 nd:∀y∈scope.names,scope.names.lookup y.1=some y.2
 free:∀y∈scope.names,y.2= .free->X.env.scope.names.lookup y.1=some .cell\/X.env.scope.names.lookup y.1=some .free
 uu:∀(j i:Nat),cap[j]?=some (some i)->∃x,N'[j]?=some x/\X.N[i]?=some x/\scope.names.lookup x=some .free
 len:cap.length=N'.length
section
variable {X:Cx} {scope:Scope} {N':List Str} {cap:List (Option Nat)} {pins:List (Addr×Obj)} {σ:St} {H:Hp} {s:Shared}
theorem fv.frees (B:fv X scope N' cap) (ok:X.Ok):∀y∈scope.names,y.2= .free->∃c,X.env.cells.lookup y.1=some c:=λy hy hf=>ok.has y.1 (B.free y hy hf)
theorem fv.up (B:fv X scope N' cap) (ok:X.Ok) {x:Str} {c:Addr} (h:(fy scope X.env).lookup x=some c):X.env.cells.lookup x=some c:=
 jk scope.names [] (B.frees ok) (λ_ z=>by simp at z) h
theorem fv.pE (B:fv X scope N' cap) {x:Str} (h:scope.names.lookup x=some .free):(x,NameKind.cell)∉scope.names:=λz=>by have:=B.nd _ z;rw[h] at this;cases this
theorem qv {xe:Value->Shared->Prop} (B:fv X scope N' cap) (I:Inv X pins σ H s) {fp:List Addr} {tk:Nat} (hf:∀b∈fp,ib X pins H b) (cJ:∀b∈fp,b < s.heap.objs.size):
  Inv (gw X scope N' s.heap.objs.size s H fp xe) [] (cY cap σ) H {s with heap:=pushCells (s.heap.push {cls:= .type "dict",data:= .dict #[]}) scope.names,toks:=tk}:=by
 have ok:=I.ok;have hz:(s.heap.push {cls:= .type "dict",data:= .dict #[]}).objs.size=s.heap.objs.size + 1:=PP ..;have hk:∀b o,s.heap.get? b=some o->(pushCells (s.heap.push {cls:= .type "dict",data:= .dict #[]}) scope.names).get? b=some o:=λb o e=>pushCells_keeps _ _ _ _ (Pb _ e)
 have vn:(pushCells (s.heap.push {cls:= .type "dict",data:= .dict #[]}) scope.names).Ns s.heap.objs.size λ_=>none:=(Heap.Ns.new s.heap (.type "dict")).keeps (pushCells_keeps _ _)
 have M7:∀x c,(fy scope X.env).lookup x=some c->c < s.heap.objs.size:=λx c h=>by obtain⟨v,z⟩:=I.cell x c (B.up ok h);exact z.lt
 have vW:∀x c,(cellsFrom (s.heap.objs.size + 1) scope.names (fy scope X.env)).lookup x=some c->(s.heap.objs.size + 1<=c/\(x,NameKind.cell)∈scope.names)\/X.env.cells.lookup x=some c:=λx c h=>(f7 _ _ _ h).imp id (B.up ok)
 have qJ:∀x,scope.names.lookup x=some .free->(compEnvC scope (cellsFrom (s.heap.objs.size + 1) scope.names (fy scope X.env)) s.heap.objs.size X.env).kindOf x=some .cell\/(compEnvC scope (cellsFrom (s.heap.objs.size + 1) scope.names (fy scope X.env)) s.heap.objs.size X.env).kindOf x=some .free:=λx hx=>by
  have q:=aY (env:=X.env) hx;by_cases hc:(NameKind.free==NameKind.free&&X.env.scope.kind== .function&&X.env.kindOf x==some .cell)=true
  ·rw[if_pos hc] at q;exact .inl q
  ·rw[if_neg hc] at q;exact .inr q
 refine⟨⟨ok.mod,?kind,ok.glob,ok.blt,Pj _,?inj,?has,?Cg,ok.hd,ok.frames,.inl rfl,?FF,I.bs,Pp ok.Bd I.sz,?qV,?uy,I.stack,I.tS⟩,
  rfl,I.bare,Un.kept hk,⟨_,vn,?loc⟩,?cell,I.hok.fresh (Pj _),?et,?pin,I.hok.kept hk,?len⟩
 case kind=>exact B.kind
 case inj=>exact λx y c h1 h2=>qy _ _ _ (λx c h=>Nat.lt_succ_of_lt (M7 x c h)) (λx y c h1 h2=>ok.inj x y c (B.up ok h1) (B.up ok h2)) h1 h2
 case has=>
  intro x hx;cases hl:scope.names.lookup x with
  | none=>
   have q:=bU (env:=X.env) hl;exact absurd hx (by
    have q':(compEnvC scope (cellsFrom (s.heap.objs.size + 1) scope.names (fy scope X.env)) s.heap.objs.size X.env).kindOf x=none:=q;show¬((compEnvC scope (cellsFrom (s.heap.objs.size + 1) scope.names (fy scope X.env)) s.heap.objs.size X.env).kindOf x=some .cell\/(compEnvC scope (cellsFrom (s.heap.objs.size + 1) scope.names (fy scope X.env)) s.heap.objs.size X.env).kindOf x=some .free);rw[q'];simp)
  | some k=>
   have q:(compEnvC scope (cellsFrom (s.heap.objs.size + 1) scope.names (fy scope X.env)) s.heap.objs.size X.env).kindOf x=some (if (k==NameKind.free&&X.env.scope.kind== .function&&X.env.kindOf x==some .cell) then NameKind.cell else k):=aY (env:=X.env) hl;have hm:=PySem.mem_of_lookup hl;by_cases CC:k= .free
   ·subst CC;obtain⟨c,Bo⟩:=j9 (env:=X.env) scope.names [] (.inl hm);exact⟨c,mV _ _ _ (B.pE hl) Bo⟩
   ·have hb:(k==NameKind.free)=false:=by simpa using CC
    have wZ:(compEnvC scope (cellsFrom (s.heap.objs.size + 1) scope.names (fy scope X.env)) s.heap.objs.size X.env).kindOf x=some .cell\/(compEnvC scope (cellsFrom (s.heap.objs.size + 1) scope.names (fy scope X.env)) s.heap.objs.size X.env).kindOf x=some .free:=hx;rw[q,hb] at wZ;simp only[Bool.false_and,Bool.false_eq_true,if_false,Option.some.injEq] at wZ;rcases wZ with z | z
    ·subst z;exact Option.isSome_iff_exists.mp (PySem.W.cellsFrom_some scope.names _ _ (.inl hl))
    ·exact absurd z CC
 case Cg=>
  intro x c wN h;have wN:(scope.names.lookup x==some .cell)=true:=wN;rcases f7 _ _ _ h with ⟨h1,_⟩ | h1
  ·exact Pp (Nat.le_succ _) h1
  ·exfalso;have e:=PF wN;have:∀(l:List (Str×NameKind)) (cs:List (Str×Addr)),(∀c,cs.lookup x≠some c)->(∀y∈l,y.1=x->y.2≠ .free)->(mW X.env l cs).lookup x=none:=by
    intro l
    induction l with
    | nil=>
     intro cs zF _;cases hq:cs.lookup x with
     | none=>exact hq
     | some c=>exact absurd hq (zF c)
    | cons y l ih=>
     intro cs zF hl;obtain⟨n,k⟩:=y;show (mW X.env l (if (k==NameKind.free)=true then(n,(X.env.cells.lookup n).getD 0)::cs else cs)).lookup x=none;refine ih _ (λc=>?_) λy hy=>hl y (Ph _ hy)
     by_cases hk:(k==NameKind.free)=true
     ·rw[if_pos hk,PK];have:(x==n)=false:=by
       cases hq:x==n with
       | false=>rfl
       | true=>
        have e1:x=n:=by simpa using hq
        have e2:k=NameKind.free:=by simpa using hk
        exact absurd e2 (hl (n,k) Pk e1.symm)
      rw[this];exact zF c
     ·rw[if_neg hk];exact zF c
   have q:=this scope.names [] (λc z=>by simp at z) λy hy e1 e2=>by have:=B.nd y hy;rw[e1,e2,e] at this;cases this
   unfold fy at h1;rw[q] at h1;cases h1
 case FF=>
  intro b hb;refine⟨PQ (cJ b hb),λx c e=>?_⟩;rcases vW x c e with ⟨h1,_⟩ | h1
  ·intro z;subst z;exact absurd (PC (cJ c hb) (Pp (Nat.le_succ _) h1)) (Nat.lt_irrefl _)
  ·exact(hf b hb).2.2.2.2.1 x c h1
 case qV=>
  intro b o e hb;rcases (hf b hb).2.2.2.1 with z | z
  ·exact ok.qV b o e z
  ·exact absurd (PC (Po (ok.bs b o e).1) z) (Nat.lt_irrefl _)
 case uy=>
  intro b hb hs;rcases Pq.mp (I.nV b hs) with z | z
  ·exact(hf b hb).2.1 z
  ·exact(hf b hb).2.2.1 z
 case loc=>
  intro j x v h1 h2 h3;have hj:∃i,cap[j]?=some (some i)/\(σ[i]?).join=some v:=by
   unfold cY at h2;rw[Py] at h2;cases hc:cap[j]? with
   | none=>rw[hc] at h2;cases h2
   | some o=>
    rw[hc] at h2;cases o with
    | none=>cases h2
    | some i=>exact⟨i,rfl,by simpa using h2⟩
  obtain⟨i,hc,hv⟩:=hj;obtain⟨x',e1,e2,e3⟩:=B.uu j i hc;have ex:x'=x:=by have JI:N'[j]?=some x:=h1;rw[JI] at e1;injection e1 with e1;exact e1.symm
  subst ex;have CQ:σ[i]?=some (some v):=by
   cases q:σ[i]? with
   | none=>rw[q] at hv;cases hv
   | some o=>rw[q] at hv;cases o with
    | none=>cases hv
    | some z=>simp at hv;rw[hv]
  have Gj:=B.free _ (PySem.mem_of_lookup e3) rfl;obtain⟨m,hn,hl⟩:=I.loc;obtain⟨u,r,l⟩:=hl i x' v e2 CQ (.inr Gj);refine⟨u,r,?_⟩;obtain⟨c,Bo⟩:=j9 (env:=X.env) scope.names [] (.inl (PySem.mem_of_lookup e3));have Mb:=B.up ok Bo;rcases l with ⟨k,_⟩ | ⟨k,c',e,z⟩
  ·exfalso;have k':X.env.scope.names.lookup x'=some .local:=k;rcases Gj with q | q
   ·rw[k'] at q;cases q
   ·rw[k'] at q;cases q
  ·have Nb:c'=c:=by rw[e] at Mb;injection Mb
   subst Nb;exact .inr ⟨qJ x' e3,c',mV _ _ _ (B.pE e3) Bo,by obtain⟨o,ho,hd⟩:=z;exact⟨o,hk _ _ ho,hd⟩⟩
 case cell=>intro x c e;refine j8 scope.names (s.heap.push {cls:= .type "dict",data:= .dict #[]}) (fy scope X.env) (λa b gP=>?_) (by rw[hz];exact e);obtain⟨v,o,ho,hd⟩:=I.cell a b (B.up ok gP);exact⟨v,o,Pb _ ho,hd⟩
 case et=>
  intro x c e;rcases vW x c e with ⟨h1,_⟩ | h1
  ·exact I.hok.fresh (Pp (Nat.le_succ _) h1)
  ·exact I.et x c h1
 case pin=>intro p hp;cases hp
 case len=>show (cY cap σ).length=N'.length;unfold cY;rw[Pn];exact B.len
noncomputable def A6 (X:Cx) (C:Addr) (x:Value) (s':Shared):Prop:=∃m,s'.heap.Ns C m/\∀h',Heap.SameBut C s'.heap h'->∀vX:Env,vX.locals=C->wpAny (model X.prog X.w) X.A (passOn "comprehension.variables-let-go" x vX:Sem Value) (λ_ _=>False) X.xe {s' with heap:=h'}
structure zb (X:Cx) (scope:Scope) (N':List Str) (xb:Addr->Shared->Hp->List Addr->Value->Shared->Prop):Prop where
 note:∀(pins:List (Addr×Obj)) (σ:St) (C:Addr) (s s1:Shared) (H H1:Hp) (fp:List Addr) x s',Inv X pins σ H1 s1->(∀b∈fp,ib X pins H1 b)->s1.heap.objs.size < C->s={s1 with heap:=s1.heap.push {cls:= .type "list",data:= .seq ([]:List Value).toArray},toks:=s1.toks}->H=upd H1 s1.heap.objs.size (.lst [])->C=s.heap.objs.size->
  xb C s H fp x s'->notedBy (model X.prog X.w) X.A (gw X scope N' C s H fp (xb C s H fp)).env (A6 X C) x s'
variable {elt tg iter:Expr} {ifs:List Expr} {pos:Pos} {wi:TI} {g:TG} {tt:TT}
theorem lX {gens:List Comprehension} {xb:Addr->Shared->Hp->List Addr->Value->Shared->Prop} {pins:List (Addr×Obj)} {σ:St} {H2:Hp} {s2:Shared} {it:Addr} {fp:List Addr} {tn:Nat->Heap->Prop} {J:It} {F:Hp->Prop} {tb:Addr->TB} {body:Value->Env->Sem Unit} {p:Pos} {RR:Value->Addr->Result->Shared->Prop} (hc:X.calm=true) (B:fv X scope N' cap) (hX:zb X scope N' xb)
  (heq:∀oq acc env,compTurn (.ListComp elt (⟨tg,iter,ifs,0⟩::gens) scope pos) 0 oq acc env=eh (.ListComp elt (⟨tg,iter,ifs,0⟩::gens) scope pos) 0 oq acc env tg ifs p (body acc env))
  (lj:GL (cY cap σ) g) (hg:∀C s H fp,PG (gw X scope N' C s H fp (xb C s H fp)) tg g) (ht:∀C s H fp,A5 (gw X scope N' C s H fp (xb C s H fp)) ifs tt) (hb:∀C s H fp D,PB (gw X scope N' C s H fp (xb C s H fp)) (body (.ref D) (gw X scope N' C s H fp (xb C s H fp)).env) (tb D))
  (I2:Inv X pins σ H2 s2) (T:Turn X.prog X.w X.K tg J fp it tn) (dM:tn 0 s2.heap) (f2:∀b∈fp,ib X pins H2 b) (hF:ox J g tt (tb s2.heap.objs.size) (cY cap σ) F (upd H2 s2.heap.objs.size (.lst [])))
  (NA:∀C s' H' m,s2.heap.objs.size < C->Inv X pins σ H' s'->s'.heap.Ns C m->ib X pins H' C->F H'->RR (.ref s2.heap.objs.size) C (.ok .next) s') (L9:∀C x s',A6 X C x s'->RR (.ref s2.heap.objs.size) C (.error x) s') {E:Value->Shared->Prop}:
  wpAny (model X.prog X.w) X.A (newList []) (λacc s₃=>wpAny (model X.prog X.w) X.A (newFunctionEnv scope X.env.globals (fy scope X.env) [] X.env.qual none .none (some X.env)) (λvX s₄=>
   codeAny (model X.prog X.w) X.A (.compStart (.ListComp elt (⟨tg,iter,ifs,0⟩::gens) scope pos) 0 (.ref it) acc {vX with scope:=relabel scope X.env}) (RR acc vX.locals) s₄) E s₃) E s2:=by
 refine wpAny_newObj_type (qb λh₁ hh₁=>?_);have I3:=I2.GB (ys:=[]) (its:=[]) (t':=s2.toks) .nil (Nat.zero_le _);dsimp only at hh₁ ⊢;have hC:(s2.heap.push {cls:= .type "list",data:= .seq ([]:List Value).toArray}).objs.size=s2.heap.objs.size + 1:=PP ..;generalize hD:s2.heap.objs.size=D at *;have yL:∀b∈fp,b < D:=λb hb=>by obtain⟨o,e,_⟩:=T.obj 0 _ dM b hb;rw[<-hD];exact Po e
 have f3:∀b∈fp,ib X pins (upd H2 D (.lst [])) b:=λb hb=>⟨by rw[aI (PQ (yL b hb))];exact(f2 b hb).1,(f2 b hb).2⟩
 generalize hs3:({s2 with heap:=s2.heap.push {cls:= .type "list",data:= .seq ([]:List Value).toArray},toks:=s2.toks}:Shared)=s3 at I3;have wY:s3.heap=s2.heap.push {cls:= .type "list",data:= .seq ([]:List Value).toArray}:=by rw[<-hs3]
 have Bl:s3.heap.objs.size=D + 1:=by rw[wY];exact hC
 have IB:=qv (xe:=xb s3.heap.objs.size s3 (upd H2 D (.lst [])) fp) (tk:=s2.toks) B I3 f3 (λb hb=>by rw[Bl];exact Nat.lt_succ_of_lt (yL b hb));have hk:∀b o,s3.heap.get? b=some o->(pushCells (s3.heap.push {cls:= .type "dict",data:= .dict #[]}) scope.names).get? b=some o:=λb o e=>pushCells_keeps _ _ _ _ (Pb _ e)
 rw[<-wY] at hh₁;rw[<-hh₁] at IB hk;have e4:({s3 with heap:=h₁,toks:=s2.toks}:Shared)={s2 with heap:=h₁}:=by rw[<-hs3]
 rw[e4] at IB;rw[hC];have nU:∀{H':Hp},(∀b∈fp,H' b=none)->∀b∈fp,ib (gw X scope N' s3.heap.objs.size s3 (upd H2 D (.lst [])) fp (xb s3.heap.objs.size s3 (upd H2 D (.lst [])) fp)) [] H' b:=λhn b hb=>
  ⟨hn b hb,by show b≠s3.heap.objs.size;rw[Bl];exact PQ (Nat.lt_succ_of_lt (yL b hb)),λz=>(by
   rcases Pq.mp (I3.nV b z) with q | q
   ·exact(f3 b hb).2.1 q
   ·exact(f3 b hb).2.2.1 q),.inl hb,(IB.ok.FF b hb).2,λp hp=>absurd hp (by intro z;cases z)⟩
 have loop:∀s':Shared,s'={s2 with heap:=h₁}->codeAny (model X.prog X.w) X.A (.compLoop (.ListComp elt (⟨tg,iter,ifs,0⟩::gens) scope pos) 0 (.ref it) (.ref D) (gw X scope N' s3.heap.objs.size s3 (upd H2 D (.lst [])) fp (xb s3.heap.objs.size s3 (upd H2 D (.lst [])) fp)).env)
   (RR (.ref D) (D + 1)) s':=by
  rintro s' rfl;refine lY (X:=gw X scope N' s3.heap.objs.size s3 (upd H2 D (.lst [])) fp (xb s3.heap.objs.size s3 (upd H2 D (.lst [])) fp)) hc (heq _ _ _) (λx s' q=>?_) (hg _ _ _ _) lj (ht _ _ _ _) (hb _ _ _ _ D) IB T (T.keep _ _ _ dM (λb hb o e=>hk b o (by rw[wY];exact Pb _ e))) (nU λb hb=>(f3 b hb).1) hF λs5 H5 I5 qn=>?_
  ·have z:=hX.note pins σ s3.heap.objs.size s3 s2 (upd H2 D (.lst [])) H2 fp x s' I2 f2 (by rw[Bl,hD];exact Nat.lt_succ_self _) hs3.symm (by rw[hD]) rfl q;rw[Bl] at z;exact wpAny_mono z (λ_ s'' w=>L9 (D + 1) x s'' w) λy s'' w=>L9 (D + 1) y s'' w
  ·obtain⟨m5,N1,_⟩:=I5.loc;have un:Un (jB X.stack) fp H2 H5 s2.heap s5.heap:=by
    have u1:Un (jB X.stack) fp H2 (upd H2 D (.lst [])) s2.heap s3.heap:=by rw[wY];exact Un.laid (λb u e=>Pb _ e) (by rw[hD];exact Pj _) (by rw[<-hD];exact I2.fresh)
    exact u1.trans I5.base
   have hI:Inv X pins σ H5 s5:=I2.Fs (ch:=fp) (I5.os.trans (by show s3.os=s2.os;rw[<-hs3])) un I5.hok I5.bare λb hb=>⟨(f2 b hb).2.2.2.1,(f2 b hb).2.1,(f2 b hb).2.2.2.2.1,(f2 b hb).2.2.2.2.2⟩
   have Kj:s5.heap.Ns (D + 1) m5:=by have q:s5.heap.Ns s3.heap.objs.size m5:=N1;rw[Bl] at q;exact q
   have JR:H5 (D + 1)=none:=by have q:H5 s3.heap.objs.size=none:=I5.free;rw[Bl] at q;exact q
   exact NA (D + 1) s5 H5 m5 (Nat.lt_succ_self _) hI Kj (I2.wu (by rw[hD];exact Nat.le_succ _) JR) qn
 have JL:({newEnv scope (D + 1) X.env.globals (cellsFrom (D + 1 + 1) scope.names (fy scope X.env)) X.env.qual none .none (some X.env) builtinsNs with scope:=relabel scope X.env}:Env)=(gw X scope N' s3.heap.objs.size s3 (upd H2 D (.lst [])) fp (xb s3.heap.objs.size s3 (upd H2 D (.lst [])) fp)).env:=by unfold gw;rw[Bl];rfl
 have go:=codeAny_compStart_list (loop _ rfl) (T.self X.A 0 _ _ _ (T.keep _ _ _ dM (λb hb o e=>hk b o (by rw[wY];exact Pb _ e))) (loop _ rfl));rw[<-JL] at go;exact go
end
noncomputable def nZ (cap:List (Option Nat)) (wi:TI) (g:TG) (tt:TT) (tb:Addr->TB):TE:=λσ H Q=>wi σ H λJ H1=>∀D,H1 D=none->GL (cY cap σ) g/\ox J g tt (tb D) (cY cap σ) (λH'=>Q (.ref D) H') (upd H1 D (.lst []))
section
variable {X:Cx} {scope:Scope} {N':List Str} {cap:List (Option Nat)} {elt tg iter:Expr} {ifs:List Expr} {gens:List Comprehension} {pos p:Pos} {wi:TI} {g:TG} {tt:TT} {tb:Addr->TB} {body:Value->Env->Sem Unit} {xb:Addr->Shared->Hp->List Addr->Value->Shared->Prop}
theorem pI (hc:X.calm=true) (B:fv X scope N' cap) (hX:zb X scope N' xb) (hi:PI X tg iter wi) (heq:∀oq acc env,compTurn (.ListComp elt (⟨tg,iter,ifs,0⟩::gens) scope pos) 0 oq acc env=eh (.ListComp elt (⟨tg,iter,ifs,0⟩::gens) scope pos) 0 oq acc env tg ifs p (body acc env))
  (hg:∀C s H fp,PG (gw X scope N' C s H fp (xb C s H fp)) tg g) (ht:∀C s H fp,A5 (gw X scope N' C s H fp (xb C s H fp)) ifs tt) (hb:∀C s H fp D,PB (gw X scope N' C s H fp (xb C s H fp)) (body (.ref D) (gw X scope N' C s H fp (xb C s H fp)).env) (tb D))
  (hs:∀x,foldedSetIterable iter X.env x=pure x:=by intro _;rfl):PE X (.ListComp elt (⟨tg,iter,ifs,0⟩::gens) scope pos) (nZ cap wi g tt tb):=by
 intro pins s σ H Q I h;rw[eval_ListComp];refine wpAny_comprehension_free (use:=none) rfl hs (gE (B.frees I.ok)) B.kind (λy hy e=>by rw[B.nd y hy,e]) (bV (hi pins s σ H _ I h) λx s₁ h₁=>bV h₁ λoq s₂ h₂=>?_);obtain⟨it,fp,tn,J,H2,e,I2,T,dM,f2,hF⟩:=h₂;subst e;obtain⟨lj,hW⟩:=hF _ I2.fresh;refine lX (RR:=λacc C=>compPost (model X.prog X.w) X.A X.xe none (EP X pins σ Q) acc C) hc B hX heq lj hg ht hb I2 T dM f2 hW (λC s' H' m hC I' hn fC q=>?_) λC x s' z=>z
 refine⟨m,hn,λh' hsb=>⟨.ref _,H',I'.turned (t':=s'.toks) (λb o hb e=>(hsb.2 b hb).trans e) fC.1 fC.2.1 fC.2.2.2.1 fC.2.2.2.2.1 fC.2.2.2.2.2,rfl,q⟩⟩
theorem ju {i:Nat} {x:Str} {pos' Hz:Pos} (hc:X.calm=true) (hN:X.N.Nodup) (ES:X.N[i]?=some x) (hx:X.env.kindOf x=some .local) (B:fv X scope N' cap) (hX:zb X scope N' xb) (hi:PI X tg iter wi) (heq:∀oq acc env,compTurn (.ListComp elt (⟨tg,iter,ifs,0⟩::gens) scope pos) 0 oq acc env=eh (.ListComp elt (⟨tg,iter,ifs,0⟩::gens) scope pos) 0 oq acc env tg ifs p (body acc env))
  (hg:∀C s H fp,PG (gw X scope N' C s H fp (xb C s H fp)) tg g) (ht:∀C s H fp,A5 (gw X scope N' C s H fp (xb C s H fp)) ifs tt) (hb:∀C s H fp D,PB (gw X scope N' C s H fp (xb C s H fp)) (body (.ref D) (gw X scope N' C s H fp (xb C s H fp)).env) (tb D))
  (hs:∀x,foldedSetIterable iter X.env x=pure x:=by intro _;rfl)
  (CP:swapsWith (.ListComp elt (⟨tg,iter,ifs,0⟩::gens) scope pos) (some (.Name x pos')) Hz.line X.env=pure true:=by rfl):
  PS X (.Assign [.Name x pos'] (.ListComp elt (⟨tg,iter,ifs,0⟩::gens) scope pos) Hz) (nY (nZ cap wi g tt tb) (eD i)):=by
 intro pins s σ H D I h;rw[exec_Assign_Name_used _ _ _ _ CP];refine O9 (wpAny_standAt (O9 ?_));show wpAny _ X.A (do let _<-comprehension (.ListComp elt (⟨tg,iter,ifs,0⟩::gens) scope pos) scope X.env _ (newList []) false (eval iter X.env) (some (assign (.Name x pos') X.env))) _ _ s;refine O9 (wpAny_mono (wpAny_comprehension_free (use:=some (assign (.Name x pos') X.env)) (Q:=λ_ s'=>SP X pins D .next s') rfl hs (gE (B.frees I.ok)) B.kind (λy hy e=>by rw[B.nd y hy,e]) (bV (hi pins s σ H _ I h) λx s₁ h₁=>bV h₁ λoq s₂ h₂=>?_))
  (λ_ s' hq=>Pc (Pc hq)) λ_ _ e=>e)
 obtain⟨it,fp,tn,J,H2,e,I2,T,dM,f2,hF⟩:=h₂;subst e;obtain⟨lj,hW⟩:=hF _ I2.fresh;refine lX (RR:=λacc C=>compPost (model X.prog X.w) X.A X.xe (some (assign (.Name _ pos') X.env)) (λ_ s'=>SP X pins D .next s') acc C) hc B hX heq lj hg ht hb I2 T dM f2 hW (λC s' H' m hC I' hn fC q=>?_) λC x s' z=>z
 show wpAny _ X.A (assign (.Name _ pos') X.env (.ref _)) _ _ _;refine wpAny_assign_Name (mE (v:= .ref _) I' hN ES (.inl hx) rfl (λs3 I3 hsb=>?_) (.inr hx));obtain⟨a,sb,ha⟩:=hsb;have Nt:C≠a:=by
  rcases ha with rfl | ha
  ·exact fC.2.1
  ·exact Ne.symm (fC.2.2.2.2.1 _ a ha)
 refine⟨m,hn.sameBut sb Nt,λh' hsb'=>?_⟩;exact⟨_,H',I3.turned (t':=s3.toks) (λb o hb e=>(hsb'.2 b hb).trans e) fC.1 fC.2.1 fC.2.2.2.1 fC.2.2.2.2.1 fC.2.2.2.2.2,q⟩
end
inductive mN (X:Cx) (E:XK) (e:Value) (s':Shared):Prop
noncomputable def vj (_:Program) (_:World):jY:=λ_ _ _ _ _ _=>False
structure ir (X:Cx):Prop where
 pn:X.pn=[]
 st:True
section
variable {X:Cx} {E:XK}
theorem Ee {CX:jY} {P:Program} {w:World} {K:PySem.W.Frag} {mg:Str->Option Value} {base:Heap} {N:List Str} {qual:Str} {scope:Scope} {f:Addr} {cd:Value} {A:Around} {outer:List Env} {s:Shared} {H:Hp}:ir (oJ CX P w K mg base N qual scope f cd A outer s H E):=⟨rfl,trivial⟩
theorem AS {scope:Scope} {N':List Str} {C:Addr} {s:Shared} {H:Hp} {fp:List Addr} {xe:Value->Shared->Prop} (st:ir X):ir (gw X scope N' C s H fp xe):=⟨rfl,trivial⟩
theorem yC {pins:List (Addr×Obj)} {σ:St} {H:Hp} {s s':Shared} {e:Value} (I:Inv X pins σ H s) (O4:X.pn=[]) (c:vj X.prog X.w X.stack H s E e s'):mN X E e s':=False.elim c
theorem A2 (st:ir X) (hx:∀e s',mN X E e s'->X.xe e s') (w5:∀e s',X.xe e s'->mN X E e s'):PassesOwn (model X.prog X.w) X.A X.env X.xe:=λe s' h=>by cases w5 e s' h
end
section
variable {X:Cx} {E:XK} {scope:Scope} {N':List Str}
noncomputable def vq (X:Cx) (scope:Scope) (N':List Str) (E:XK) (C:Addr) (s:Shared) (H:Hp) (fp:List Addr):Value->Shared->Prop:=mN (gw X scope N' C s H fp λ_ _=>False) E
theorem Ez {C:Addr} {s:Shared} {H:Hp} {fp:List Addr} {e:Value} {s':Shared} {xe:Value->Shared->Prop} (h:mN (gw X scope N' C s H fp xe) E e s'):vq X scope N' E C s H fp e s':=by cases h
theorem tu {C:Addr} {s:Shared} {H:Hp} {fp:List Addr} (st:ir X):PassesOwn (model X.prog X.w) X.A (gw X scope N' C s H fp (vq X scope N' E C s H fp)).env (vq X scope N' E C s H fp):=λ_ _ h=>by cases h
theorem jX (st:ir X) (O7:∀e s',mN X E e s'->X.xe e s'):zb X scope N' (vq X scope N' E):=⟨λpins σ C s s1 H H1 fp x s' I1 f1 hC hs hH Bl hxb=>by cases hxb⟩
end
end L2
end
section
namespace Rx
open PySem PySem.W PySem.Spec PyProof.Rows L2 PySem.SeqAt
inductive Dt where
 | aT | bl (b:Bool) | int (i:Int) | str (x:Str) | tup (ds:List Dt) | lst (ds:List Dt) | dw (ns:List Int)
 | f9 (ks vs:List Dt) | obj (ks:List Str) (vs:List Dt) | exc (c:Nat)
noncomputable abbrev Frag:=PySem.W.Frag
noncomputable def KL (K:Frag) (a:Addr) (xs:List V):Prop:=∃(o:Obj) (its:Array Value) (n:Nat),K.lookup a=some o/\o.cls= .type "list"/\o.dict=none/\o.data= .seq its n/\its.size<=sizeLine/\au xs its.toList
mutual
noncomputable def RV (K:Frag) (A:Addr->Prop) (H:Hp):V->Dt->Prop
 | x,.aT=>x= .aT
 | x,.bl b=>x= .bl b
 | x,.int i=>x= .int i
 | x,.str z=>x= .str z
 | x,.tup ds=>∃a xs,x= .ref a/\H a=some (.tup xs)/\aq K A H xs ds
 | x,.lst ds=>∃a xs,x= .ref a/\H a=some (.lst xs)/\¬A a/\aq K A H xs ds
 | x,.dw ns=>∃a,x= .ref a/\((Rd H a (.lst (ns.map V.int))/\¬A a)\/KL K a (ns.map V.int))
 | _,.f9 _ _=>False
 | x,.obj ks vs=>∃a cV,x= .ref a/\H a=some (.dK cV)/\¬A a/\cV.map (·.1)=ks.map Sum.inr/\aq K A H (cV.map (·.2)) vs
 | _,.exc _=>False
noncomputable def aq (K:Frag) (A:Addr->Prop) (H:Hp):List V->List Dt->Prop
 | [],[]=>True
 | x::xs,d::ds=>RV K A H x d/\aq K A H xs ds
 | [],_::_=>False
 | _::_,[]=>False
end
section
variable {K:Frag} {A B:Addr->Prop} {H H':Hp}
theorem RV.az {x:V} (h:RV K A H x .aT):x= .aT:=by unfold RV at h;exact h
theorem RV.ax {x:V} {b} (h:RV K A H x (.bl b)):x= .bl b:=by unfold RV at h;exact h
theorem RV.int_inv {x:V} {b} (h:RV K A H x (.int b)):x= .int b:=by unfold RV at h;exact h
theorem RV.str_inv {x:V} {b} (h:RV K A H x (.str b)):x= .str b:=by unfold RV at h;exact h
theorem RV.ab {x:V} {ds} (h:RV K A H x (.tup ds)):∃a xs,x= .ref a/\H a=some (.tup xs)/\aq K A H xs ds:=by unfold RV at h;exact h
theorem RV.lst_inv {x:V} {ds} (h:RV K A H x (.lst ds)):∃a xs,x= .ref a/\H a=some (.lst xs)/\¬A a/\aq K A H xs ds:=by unfold RV at h;exact h
theorem RV.dX {x:V} {ns} (h:RV K A H x (.dw ns)):∃a,x= .ref a/\((Rd H a (.lst (ns.map V.int))/\¬A a)\/KL K a (ns.map V.int)):=by unfold RV at h;exact h
theorem RV.jg {x:V} {ns} (h:RV K A H x (.dw ns)):∃a,x= .ref a/\dB K H a (ns.map V.int):=by
 obtain⟨a,e,h | h⟩:=h.dX
 ·exact⟨a,e,.inl h.1⟩
 ·exact⟨a,e,.inr h⟩
theorem RV.gd {x:V} {ks vs} (h:RV K A H x (.f9 ks vs)):False:=by unfold RV at h;exact h
theorem RV.iP {x:V} {ks vs} (h:RV K A H x (.obj ks vs)):∃a cV,x= .ref a/\H a=some (.dK cV)/\¬A a/\cV.map (·.1)=ks.map Sum.inr/\aq K A H (cV.map (·.2)) vs:=by unfold RV at h;exact h
theorem RV.gf {x:V} {ks} (h:RV K A H x (.exc ks)):False:=by unfold RV at h;exact h
theorem RV.gU:RV K A H .aT .aT:=by unfold RV;rfl
theorem RV.pA {b}:RV K A H (.bl b) (.bl b):=by unfold RV;rfl
theorem RV.df {b}:RV K A H (.int b) (.int b):=by unfold RV;rfl
theorem RV.jc {b}:RV K A H (.str b) (.str b):=by unfold RV;rfl
theorem RV.d8 {a xs ds} (h:H a=some (.tup xs)) (t:aq K A H xs ds):RV K A H (.ref a) (.tup ds):=by unfold RV;exact⟨a,xs,rfl,h,t⟩
theorem RV.fj {a xs ds} (h:H a=some (.lst xs)) (n:¬A a) (t:aq K A H xs ds):RV K A H (.ref a) (.lst ds):=by unfold RV;exact⟨a,xs,rfl,h,n,t⟩
theorem RV.qR {a cV ks vs} (h:H a=some (.dK cV)) (n:¬A a) (e:cV.map (·.1)=ks.map Sum.inr) (t:aq K A H (cV.map (·.2)) vs):RV K A H (.ref a) (.obj ks vs):=by unfold RV;exact⟨a,cV,rfl,h,n,e,t⟩
theorem aq.nil:aq K A H [] []:=by unfold aq;trivial
theorem aq.cons {x d xs ds} (h:RV K A H x d) (t:aq K A H xs ds):aq K A H (x::xs) (d::ds):=by unfold aq;exact⟨h,t⟩
theorem aq.nil_inv {xs} (h:aq K A H xs []):xs=[]:=by
 cases xs with
 | nil=>rfl
 | cons=>unfold aq at h;exact h.elim
theorem aq.dE {ds} (h:aq K A H [] ds):ds=[]:=by
 cases ds with
 | nil=>rfl
 | cons=>unfold aq at h;exact h.elim
theorem aq.cons_inv {xs d ds} (h:aq K A H xs (d::ds)):∃x r,xs=x::r/\RV K A H x d/\aq K A H r ds:=by
 cases xs with
 | nil=>unfold aq at h;exact h.elim
 | cons x r=>unfold aq at h;exact⟨x,r,rfl,h⟩
theorem aq.uv {x xs ds} (h:aq K A H (x::xs) ds):∃d r,ds=d::r/\RV K A H x d/\aq K A H xs r:=by
 cases ds with
 | nil=>unfold aq at h;exact h.elim
 | cons d r=>unfold aq at h;exact⟨d,r,rfl,h⟩
theorem aq.length:∀{xs ds},aq K A H xs ds->xs.length=ds.length
 | [],[],_=>rfl
 | [],_::_,h=>by unfold aq at h;exact h.elim
 | _::_,[],h=>by unfold aq at h;exact h.elim
 | _::xs,_::ds,h=>by unfold aq at h;simp[aq.length h.2]
theorem aq.get:∀{xs ds} {i:Nat} {x},aq K A H xs ds->xs[i]?=some x->∃d,ds[i]?=some d/\RV K A H x d
 | [],_,_,_,_,e=>by simp at e
 | _::_,[],_,_,h,_=>by unfold aq at h;exact h.elim
 | _::_,_::_,0,_,h,e=>by unfold aq at h;simp at e;subst e;exact⟨_,rfl,h.1⟩
 | _::xs,_::ds,i + 1,x,h,e=>by unfold aq at h;obtain⟨d,e1,e2⟩:=aq.get (i:=i) h.2 (by simpa using e);exact⟨d,by simpa using e1,e2⟩
theorem aq.getD:∀{xs ds} {i:Nat} {d},aq K A H xs ds->ds[i]?=some d->∃x,xs[i]?=some x/\RV K A H x d
 | _,[],_,_,_,e=>by simp at e
 | [],_::_,_,_,h,_=>by unfold aq at h;exact h.elim
 | _::_,_::_,0,_,h,e=>by unfold aq at h;simp at e;subst e;exact⟨_,rfl,h.1⟩
 | _::xs,_::ds,i + 1,x,h,e=>by unfold aq at h;obtain⟨d,e1,e2⟩:=aq.getD (i:=i) h.2 (by simpa using e);exact⟨d,by simpa using e1,e2⟩
theorem aq.append:∀{xs ys ds es},aq K A H xs ds->aq K A H ys es->aq K A H (xs++ys) (ds++es)
 | [],_,[],_,_,h=>h
 | [],_,_::_,_,h,_=>by unfold aq at h;exact h.elim
 | _::_,_,[],_,h,_=>by unfold aq at h;exact h.elim
 | _::xs,ys,_::ds,es,h,h'=>by unfold aq at h;exact aq.cons h.1 (aq.append h.2 h')
theorem aq.take:∀{xs ds} (n:Nat),aq K A H xs ds->aq K A H (xs.take n) (ds.take n)
 | [],ds,n,h=>by rw[h.dE];simp;exact aq.nil
 | x::xs,[],n,h=>by unfold aq at h;exact h.elim
 | x::xs,d::ds,0,h=>by simp;exact aq.nil
 | x::xs,d::ds,n + 1,h=>by unfold aq at h;simp only[List.take_succ_cons];exact aq.cons h.1 (aq.take n h.2)
theorem aq.drop:∀{xs ds} (n:Nat),aq K A H xs ds->aq K A H (xs.drop n) (ds.drop n)
 | [],ds,n,h=>by rw[h.dE];simp;exact aq.nil
 | x::xs,[],n,h=>by unfold aq at h;exact h.elim
 | x::xs,d::ds,0,h=>h
 | x::xs,d::ds,n + 1,h=>by unfold aq at h;simp only[List.drop_succ_cons];exact aq.drop n h.2
theorem aq.set:∀{xs ds} (n:Nat) {x d},aq K A H xs ds->RV K A H x d->aq K A H (xs.set n x) (ds.set n d)
 | [],ds,n,_,_,h,_=>by rw[h.dE];simp;exact aq.nil
 | x::xs,[],n,_,_,h,_=>by unfold aq at h;exact h.elim
 | x::xs,d::ds,0,_,_,h,h'=>by unfold aq at h;simp only[List.set_cons_zero];exact aq.cons h' h.2
 | x::xs,d::ds,n + 1,_,_,h,h'=>by unfold aq at h;simp only[List.set_cons_succ];exact aq.cons h.1 (aq.set n h.2 h')
theorem aq.rep {xs ds} (h:aq K A H xs ds):∀k:Nat,aq K A H (List.replicate k xs).flatten (List.replicate k ds).flatten
 | 0=>by simp;exact aq.nil
 | k + 1=>by rw[List.replicate_succ,List.replicate_succ,List.flatten_cons,List.flatten_cons];exact h.append (aq.rep h k)
structure ba (X:Addr->Prop) (H H':Hp):Prop where
 kp:∀b o,H b=some o->¬X b->H' b=some o
 tp:∀b xs,H b=some (.tup xs)->H' b=some (.tup xs)
theorem ba.of_same {X:Addr->Prop} (s:bT H H'):ba X H H':=⟨λb o e _=>s b o e,λb xs e=>s b _ e⟩
theorem ba.refl {X:Addr->Prop}:ba X H H:=⟨λ_ _ e _=>e,λ_ _ e=>e⟩
theorem ba.trans {X:Addr->Prop} {H1:Hp} (a:ba X H H1) (b:ba X H1 H'):ba X H H':=⟨λc o e n=>b.kp c o (a.kp c o e n) n,λc xs e=>b.tp c xs (a.tp c xs e)⟩
theorem ba.mono {X Y:Addr->Prop} (a:ba X H H') (h:∀b,X b->Y b):ba Y H H':=⟨λb o e n=>a.kp b o e λz=>n (h b z),a.tp⟩
theorem xZ {X:Addr->Prop} {a:Addr} {u:HO} (e:ba X H H') (n:¬X a) (h:Rd H a u):Rd H' a u:=by
 rcases h with h | ⟨o,h⟩
 ·exact .inl (e.kp _ _ h n)
 ·exact .inr ⟨o,e.kp _ _ h n⟩
mutual
theorem RV.mono {X:Addr->Prop} (e:ba X H H') (hX:∀b,X b->A b) (hB:∀b,B b->A b):∀{x d},RV K A H x d->RV K B H' x d
 | x,.aT,h=>by rw[h.az];exact RV.gU
 | x,.bl b,h=>by rw[h.ax];exact RV.pA
 | x,.int b,h=>by rw[h.int_inv];exact RV.df
 | x,.str b,h=>by rw[h.str_inv];exact RV.jc
 | x,.tup ds,h=>by obtain⟨a,xs,rfl,h1,h2⟩:=h.ab;exact RV.d8 (e.tp _ _ h1) (aq.mono e hX hB h2)
 | x,.lst ds,h=>by obtain⟨a,xs,rfl,h1,h3,h2⟩:=h.lst_inv;exact RV.fj (e.kp _ _ h1 λz=>h3 (hX _ z)) (λz=>h3 (hB _ z)) (aq.mono e hX hB h2)
 | x,.dw ns,h=>by
  obtain⟨a,rfl,⟨h1,h3⟩ | h1⟩:=h.dX
  ·unfold RV;exact⟨a,rfl,.inl ⟨xZ e (λz=>h3 (hX _ z)) h1,λz=>h3 (hB _ z)⟩⟩
  ·unfold RV;exact⟨a,rfl,.inr h1⟩
 | x,.f9 ..,h=>h.gd.elim
 | x,.obj ks vs,h=>by obtain⟨a,cV,rfl,h1,h3,h4,h2⟩:=h.iP;exact RV.qR (e.kp _ _ h1 λz=>h3 (hX _ z)) (λz=>h3 (hB _ z)) h4 (aq.mono e hX hB h2)
 | x,.exc ..,h=>h.gf.elim
theorem aq.mono {X:Addr->Prop} (e:ba X H H') (hX:∀b,X b->A b) (hB:∀b,B b->A b):∀{xs ds},aq K A H xs ds->aq K B H' xs ds
 | [],[],_=>aq.nil
 | [],_::_,h=>by unfold aq at h;exact h.elim
 | _::_,[],h=>by unfold aq at h;exact h.elim
 | _::xs,_::ds,h=>by unfold aq at h;exact aq.cons (RV.mono e hX hB h.1) (aq.mono e hX hB h.2)
end
theorem RV.same {x d} (h:RV K A H x d) (s:bT H H'):RV K A H' x d:=h.mono (X:=λ_=>False) (ba.of_same s) (λ_ z=>z.elim) λ_ z=>z
theorem aq.same {x d} (h:aq K A H x d) (s:bT H H'):aq K A H' x d:=h.mono (X:=λ_=>False) (ba.of_same s) (λ_ z=>z.elim) λ_ z=>z
theorem RV.weak {x d} (h:RV K A H x d) (hB:∀b,B b->A b):RV K B H x d:=h.mono (X:=λ_=>False) ba.refl (λ_ z=>z.elim) hB
theorem aq.weak {x d} (h:aq K A H x d) (hB:∀b,B b->A b):aq K B H x d:=h.mono (X:=λ_=>False) ba.refl (λ_ z=>z.elim) hB
mutual
theorem RV.avoid {p:Addr} (hp:H p=none):∀{x d},RV K A H x d->RV K (λb=>A b\/b=p) H x d
 | x,.aT,h=>by rw[h.az];exact RV.gU
 | x,.bl b,h=>by rw[h.ax];exact RV.pA
 | x,.int b,h=>by rw[h.int_inv];exact RV.df
 | x,.str b,h=>by rw[h.str_inv];exact RV.jc
 | x,.tup ds,h=>by obtain⟨a,xs,rfl,h1,h2⟩:=h.ab;exact RV.d8 h1 (aq.avoid hp h2)
 | x,.lst ds,h=>by obtain⟨a,xs,rfl,h1,h3,h2⟩:=h.lst_inv;exact RV.fj h1 (λz=>z.elim h3 λe=>by rw[e,hp] at h1;cases h1) (aq.avoid hp h2)
 | x,.dw ns,h=>by
  obtain⟨a,rfl,⟨h1,h3⟩ | h1⟩:=h.dX
  ·unfold RV;refine⟨a,rfl,.inl ⟨h1,λz=>z.elim h3 λe=>?_⟩⟩;subst e;rcases h1 with h1 | ⟨o,h1⟩ <;> (rw[hp] at h1;cases h1)
  ·unfold RV;exact⟨a,rfl,.inr h1⟩
 | x,.f9 ..,h=>h.gd.elim
 | x,.obj ks vs,h=>by obtain⟨a,cV,rfl,h1,h3,h4,h2⟩:=h.iP;exact RV.qR h1 (λz=>z.elim h3 λe=>by rw[e,hp] at h1;cases h1) h4 (aq.avoid hp h2)
 | x,.exc ..,h=>h.gf.elim
theorem aq.avoid {p:Addr} (hp:H p=none):∀{xs ds},aq K A H xs ds->aq K (λb=>A b\/b=p) H xs ds
 | [],[],_=>aq.nil
 | [],_::_,h=>by unfold aq at h;exact h.elim
 | _::_,[],h=>by unfold aq at h;exact h.elim
 | _::xs,_::ds,h=>by unfold aq at h;exact aq.cons (RV.avoid hp h.1) (aq.avoid hp h.2)
end
end
section
variable {K:Frag} {A B:Addr->Prop} {H:Hp}
mutual
theorem RV.b8 (hp:∀b,B b->A b\/H b=none):∀{x d},RV K A H x d->RV K B H x d
 | x,.aT,h=>by rw[h.az];exact RV.gU
 | x,.bl b,h=>by rw[h.ax];exact RV.pA
 | x,.int b,h=>by rw[h.int_inv];exact RV.df
 | x,.str b,h=>by rw[h.str_inv];exact RV.jc
 | x,.tup ds,h=>by obtain⟨a,xs,rfl,h1,h2⟩:=h.ab;exact RV.d8 h1 (aq.b8 hp h2)
 | x,.lst ds,h=>by obtain⟨a,xs,rfl,h1,h3,h2⟩:=h.lst_inv;exact RV.fj h1 (λz=>(hp a z).elim h3 λe=>by rw[e] at h1;cases h1) (aq.b8 hp h2)
 | x,.dw ns,h=>by
  obtain⟨a,rfl,⟨h1,h3⟩ | h1⟩:=h.dX
  ·unfold RV;refine⟨a,rfl,.inl ⟨h1,λz=>(hp a z).elim h3 λe=>?_⟩⟩;rcases h1 with h1 | ⟨o,h1⟩ <;> (rw[e] at h1;cases h1)
  ·unfold RV;exact⟨a,rfl,.inr h1⟩
 | x,.f9 ..,h=>h.gd.elim
 | x,.obj ks vs,h=>by obtain⟨a,cV,rfl,h1,h3,h4,h2⟩:=h.iP;exact RV.qR h1 (λz=>(hp a z).elim h3 λe=>by rw[e] at h1;cases h1) h4 (aq.b8 hp h2)
 | x,.exc ..,h=>h.gf.elim
theorem aq.b8 (hp:∀b,B b->A b\/H b=none):∀{xs ds},aq K A H xs ds->aq K B H xs ds
 | [],[],_=>aq.nil
 | [],_::_,h=>by unfold aq at h;exact h.elim
 | _::_,[],h=>by unfold aq at h;exact h.elim
 | _::xs,_::ds,h=>by unfold aq at h;exact aq.cons (RV.b8 hp h.1) (aq.b8 hp h.2)
end
end
mutual
noncomputable def kH:Dt->Bool
 | .aT | .bl _ | .int _ | .str _=>true
 | .tup ds=>gV ds
 | _=>false
noncomputable def gV:List Dt->Bool
 | []=>true
 | d::ds=>kH d&&gV ds
end
mutual
theorem RV.kH {K:Frag} {A B:Addr->Prop} {H:Hp}:∀{x d},RV K A H x d->kH d=true->RV K B H x d
 | x,.aT,h,_=>by rw[h.az];exact RV.gU
 | x,.bl b,h,_=>by rw[h.ax];exact RV.pA
 | x,.int b,h,_=>by rw[h.int_inv];exact RV.df
 | x,.str b,h,_=>by rw[h.str_inv];exact RV.jc
 | x,.tup ds,h,n=>by obtain⟨a,xs,rfl,h1,h2⟩:=h.ab;exact RV.d8 h1 (aq.gV h2 (by simpa [Rx.kH] using n))
 | x,.lst ds,_,n=>by simp[Rx.kH] at n
 | x,.dw ds,_,n=>by simp[Rx.kH] at n
 | x,.f9 ..,h,_=>h.gd.elim
 | x,.obj ..,_,n=>by simp[Rx.kH] at n
 | x,.exc ..,h,_=>h.gf.elim
theorem aq.gV {K:Frag} {A B:Addr->Prop} {H:Hp}:∀{xs ds},aq K A H xs ds->gV ds=true->aq K B H xs ds
 | [],[],_,_=>aq.nil
 | [],_::_,h,_=>by unfold aq at h;exact h.elim
 | _::_,[],h,_=>by unfold aq at h;exact h.elim
 | _::xs,_::ds,h,n=>by unfold aq at h;simp only[Rx.gV,Pd] at n;exact aq.cons (RV.kH h.1 n.1) (aq.gV h.2 n.2)
end
mutual
noncomputable def toD:Dt->Option Mx.D
 | .int i=>some (.int i)
 | .str x=>some (.str x)
 | .tup ds=>(fu ds).map Mx.D.tup
 | _=>none
noncomputable def fu:List Dt->Option (List Mx.D)
 | []=>some []
 | d::ds=>(toD d).bind λm=>(fu ds).map (m:: ·)
end
mutual
noncomputable def ofD:Mx.D->Dt
 | .int i=> .int i
 | .str x=> .str x
 | .tup ds=> .tup (ck ds)
noncomputable def ck:List Mx.D->List Dt
 | []=>[]
 | d::ds=>ofD d::ck ds
end
theorem kJ:∀ds:List Mx.D,ck ds=ds.map ofD
 | []=>by simp[ck]
 | d::ds=>by simp[ck,kJ ds]
mutual
theorem Eh:∀m:Mx.D,toD (ofD m)=some m
 | .int i=>by simp[ofD,toD]
 | .str x=>by simp[ofD,toD]
 | .tup ds=>by simp[ofD,toD,jW ds]
theorem jW:∀ms:List Mx.D,fu (ck ms)=some ms
 | []=>by simp[ck,fu]
 | m::ms=>by simp[ck,fu,Eh m,jW ms]
end
mutual
theorem Di:∀{d:Dt} {m:Mx.D},toD d=some m->d=ofD m
 | .int i,m,h=>by simp[toD] at h;subst h;simp[ofD]
 | .str i,m,h=>by simp[toD] at h;subst h;simp[ofD]
 | .tup ds,m,h=>by simp only[toD,Pu] at h;obtain⟨ms,h1,rfl⟩:=h;rw[iQ h1];simp[ofD]
 | .aT,m,h=>by simp[toD] at h
 | .bl _,m,h=>by simp[toD] at h
 | .lst _,m,h=>by simp[toD] at h
 | .dw _,m,h=>by simp[toD] at h
 | .f9 _ _,m,h=>by simp[toD] at h
 | .obj _ _,m,h=>by simp[toD] at h
 | .exc _,m,h=>by simp[toD] at h
theorem iQ:∀{ds:List Dt} {ms:List Mx.D},fu ds=some ms->ds=ck ms
 | [],ms,h=>by simp[fu] at h;subst h;simp[ck]
 | d::ds,ms,h=>by simp only[fu,Pa,Pu] at h;obtain⟨m,h1,r,h2,rfl⟩:=h;rw[Di h1,iQ h2];simp[ck]
end
mutual
theorem RV.dv {K:Frag} {A:Addr->Prop} {H:Hp}:∀{x} {m:Mx.D},RV K A H x (ofD m)->Mx.DV H x m
 | x,.int i,h=>by simp only[ofD] at h;rw[h.int_inv];exact Mx.DV.int
 | x,.str i,h=>by simp only[ofD] at h;rw[h.str_inv];exact Mx.DV.str
 | x,.tup ms,h=>by simp only[ofD] at h;obtain⟨a,xs,rfl,h1,h2⟩:=h.ab;exact Mx.DV.tup h1 (aq.ux h2)
theorem aq.ux {K:Frag} {A:Addr->Prop} {H:Hp}:∀{xs} {ms:List Mx.D},aq K A H xs (ck ms)->Mx.a9 H xs ms
 | [],[],_=>Mx.a9.nil
 | [],_::_,h=>by simp only[ck] at h;unfold aq at h;exact h.elim
 | _::_,[],h=>by simp only[ck] at h;unfold aq at h;exact h.elim
 | _::xs,_::ds,h=>by simp only[ck] at h;unfold aq at h;exact Mx.a9.cons (RV.dv h.1) (aq.ux h.2)
end
mutual
theorem RV.GR {K:Frag} {A:Addr->Prop} {H:Hp}:∀{x} {m:Mx.D},Mx.DV H x m->RV K A H x (ofD m)
 | x,.int i,h=>by simp only[ofD];rw[h.int_inv];exact RV.df
 | x,.str i,h=>by simp only[ofD];rw[h.str_inv];exact RV.jc
 | x,.tup ms,h=>by simp only[ofD];obtain⟨a,xs,rfl,h1,h2⟩:=h.ab;exact RV.d8 h1 (aq.qX h2)
theorem aq.qX {K:Frag} {A:Addr->Prop} {H:Hp}:∀{xs} {ms:List Mx.D},Mx.a9 H xs ms->aq K A H xs (ck ms)
 | [],[],_=>by simp only[ck];exact aq.nil
 | [],_::_,h=>by unfold Mx.a9 at h;exact h.elim
 | _::_,[],h=>by unfold Mx.a9 at h;exact h.elim
 | _::xs,_::ds,h=>by simp only[ck];unfold Mx.a9 at h;exact aq.cons (RV.GR h.1) (aq.qX h.2)
end
mutual
noncomputable def du:Dt->Dt->Bool
 | .aT,.aT=>true
 | .bl a,.bl b=>a==b
 | .int a,.int b=>a==b
 | .bl a,.int b=>(if a then(1:Int) else 0)==b
 | .int a,.bl b=>a==(if b then(1:Int) else 0)
 | .str a,.str b=>a==b
 | .tup a,.tup b=>dW a b
 | .lst a,.lst b=>dW a b
 | _,_=>false
noncomputable def dW:List Dt->List Dt->Bool
 | [],[]=>true
 | x::xs,y::ys=>du x y&&dW xs ys
 | _,_=>false
end
mutual
noncomputable def pl:Dt->Bool
 | .aT | .bl _ | .int _ | .str _=>true
 | .tup ds=>lH ds
 | .lst ds=>lH ds
 | _=>false
noncomputable def lH:List Dt->Bool
 | []=>true
 | d::ds=>pl d&&lH ds
end
mutual
noncomputable def dp:Dt->Nat
 | .tup ds=>oK ds + 1
 | .lst ds=>oK ds + 1
 | _=>0
noncomputable def oK:List Dt->Nat
 | []=>0
 | d::ds=>max (dp d) (oK ds)
end
mutual
theorem gk:∀d:Dt,pl d=true->du d d=true
 | .aT,_=>by simp[du]
 | .bl b,_=>by simp[du]
 | .int b,_=>by simp[du]
 | .str b,_=>by simp[du]
 | .tup ds,h=>by simp only[du];exact gY ds (by simpa [pl] using h)
 | .lst ds,h=>by simp only[du];exact gY ds (by simpa [pl] using h)
 | .dw _,h=>by simp[pl] at h
 | .f9 _ _,h=>by simp[pl] at h
 | .obj _ _,h=>by simp[pl] at h
 | .exc _,h=>by simp[pl] at h
theorem gY:∀ds:List Dt,lH ds=true->dW ds ds=true
 | [],_=>by simp[dW]
 | d::ds,h=>by simp only[lH,Pd] at h;simp only[dW,Pd];exact⟨gk d h.1,gY ds h.2⟩
end
noncomputable def Oz:Dt->Nat
 | .aT=>0 | .bl _=>1 | .int _=>2 | .str _=>3 | .tup _=>4 | .lst _=>5 | _=>6
noncomputable def LB (H:Hp):V->Nat
 | .aT=>0 | .bl _=>1 | .int _=>2 | .str _=>3
 | .ref a=>(match H a with | some (.tup _)=>4 | some (.lst _)=>5 | _=>6)
 | _=>6
theorem RV.tg {K:Frag} {A:Addr->Prop} {H:Hp} {x:V} {d:Dt} (h:RV K A H x d) (n:pl d=true):LB H x=Oz d:=by
 cases d with
 | aT=>rw[h.az];rfl
 | bl=>rw[h.ax];rfl
 | int=>rw[h.int_inv];rfl
 | str=>rw[h.str_inv];rfl
 | tup=>obtain⟨a,xs,rfl,h1,_⟩:=h.ab;unfold LB;dsimp only;rw[h1];rfl
 | lst=>obtain⟨a,xs,rfl,h1,_⟩:=h.lst_inv;unfold LB;dsimp only;rw[h1];rfl
 | _=>simp[pl] at n
mutual
theorem RV.inj {K:Frag} {A B:Addr->Prop} {H:Hp}:∀{x d e},RV K A H x d->RV K B H x e->pl d=true->pl e=true->d=e
 | x,.aT,e,h,g,m,n=>by have t:=(h.tg m).symm.trans (g.tg n);cases e <;> first | rfl | exact absurd t (of_decide_eq_false rfl)
 | x,.bl b,e,h,g,m,n=>by have t:=(h.tg m).symm.trans (g.tg n);cases e <;> first | exact absurd t (of_decide_eq_false rfl) | (cases h.ax.symm.trans g.ax;rfl)
 | x,.int b,e,h,g,m,n=>by have t:=(h.tg m).symm.trans (g.tg n);cases e <;> first | exact absurd t (of_decide_eq_false rfl) | (cases h.int_inv.symm.trans g.int_inv;rfl)
 | x,.str b,e,h,g,m,n=>by have t:=(h.tg m).symm.trans (g.tg n);cases e <;> first | exact absurd t (of_decide_eq_false rfl) | (cases h.str_inv.symm.trans g.str_inv;rfl)
 | x,.tup ds,e,h,g,m,n=>by
  have t:=(h.tg m).symm.trans (g.tg n);cases e with
  | tup es=>obtain⟨a,xs,rfl,h1,h2⟩:=h.ab;obtain⟨b,ys,q,g1,g2⟩:=g.ab;cases q;rw[h1] at g1;cases g1;rw[aq.inj h2 g2 (by simpa [pl] using m) (by simpa [pl] using n)]
  | _=>exact absurd t (of_decide_eq_false rfl)
 | x,.lst ds,e,h,g,m,n=>by
  have t:=(h.tg m).symm.trans (g.tg n);cases e with
  | lst es=>obtain⟨a,xs,rfl,h1,_,h2⟩:=h.lst_inv;obtain⟨b,ys,q,g1,_,g2⟩:=g.lst_inv;cases q;rw[h1] at g1;cases g1;rw[aq.inj h2 g2 (by simpa [pl] using m) (by simpa [pl] using n)]
  | _=>exact absurd t (of_decide_eq_false rfl)
 | x,.dw ds,_,_,_,n,_=>by simp[pl] at n
 | x,.f9 ..,_,_,_,n,_=>by simp[pl] at n
 | x,.obj ..,_,_,_,n,_=>by simp[pl] at n
 | x,.exc ..,_,_,_,n,_=>by simp[pl] at n
theorem aq.inj {K:Frag} {A B:Addr->Prop} {H:Hp}:∀{xs ds es},aq K A H xs ds->aq K B H xs es->lH ds=true->lH es=true->ds=es
 | xs,[],es,h,g,_,_=>by
  cases xs with
  | nil=>rw[g.dE]
  | cons=>unfold aq at h;exact h.elim
 | xs,d::ds,es,h,g,m,n=>by
  cases xs with
  | nil=>unfold aq at h;exact h.elim
  | cons x xs=>unfold aq at h;obtain⟨e,t,rfl,g1,g2⟩:=g.uv;have m':=Bool.and_eq_true_iff.mp m;have n':=Bool.and_eq_true_iff.mp n;rw[RV.inj h.1 g1 m'.1 n'.1,aq.inj h.2 g2 m'.2 n'.2]
end
noncomputable def tH (ds es:List Dt) (j:Nat):Bool:=match ds[j]?,es[j]? with
 | some d,some e=>du d e
 | _,_=>true
theorem cK:∀ds es:List Dt,((List.range (min ds.length es.length)).all (tH ds es)&&ds.length==es.length)=dW ds es
 | [],[]=>by simp[dW]
 | [],_::_=>by simp[dW]
 | _::_,[]=>by simp[dW]
 | d::ds,e::es=>by
  have ih:=cK ds es;have hm:min (d::ds).length (e::es).length=min ds.length es.length + 1:=by simp only[Px];lia
  have e1:((d::ds).length==(e::es).length)=(ds.length==es.length):=by rw[Bool.eq_iff_iff];simp
  rw[hm,List.range_succ_eq_map,List.all_cons,List.all_map,e1,dW,<-ih,Bool.and_assoc];rfl
theorem kc {d:Dt}:∀{ds:List Dt} {j:Nat},ds[j]?=some d->dp d<=oK ds
 | [],_,h=>by simp at h
 | d'::ds,0,h=>by simp at h;subst h;unfold oK;lia
 | d'::ds,j + 1,h=>by have:=kc (ds:=ds) (j:=j) (by simpa using h);unfold oK;lia
theorem d9 {d:Dt}:∀{ds:List Dt} {j:Nat},lH ds=true->ds[j]?=some d->pl d=true
 | [],_,_,h=>by simp at h
 | d'::ds,0,n,h=>by simp at h;subst h;simp only[lH,Pd] at n;exact n.1
 | d'::ds,j + 1,n,h=>by simp only[lH,Pd] at n;exact d9 (ds:=ds) (j:=j) n.2 (by simpa using h)
section
variable {P:Program} {w:World} {K:Frag} {A B:Addr->Prop} {H:Hp} {s:Shared}
theorem aO (hok:eX P w H s.heap) {a:Addr} {xs:List V} (h:H a=some (.lst xs)):∃its:List Value,au xs its/\s.heap.IsList a its.toArray:=by obtain⟨_,its,n,r,t⟩:=hok a _ h;exact⟨its,r,⟨_,t,rfl,_,rfl⟩⟩
theorem Bh (hok:eX P w H s.heap):∀(n:Nat) (d e:Dt) (x y:V) (u v:Value) (R:Around),dp d<=n->pl d=true->pl e=true->R.units + n < cLine->RV K A H x d->RV K B H y e->RelV x u->RelV y v->EqAt R s u v (du d e):=by
 intro n
 induction n with
 | zero=>
  intro d e x y u v R hd nz fG hu hx hy rx ry;cases d with
  | aT=>
   have:=hx.az;subst this;cases rx;cases e with
   | aT=>have:=hy.az;subst this;cases ry;exact EqAt.same _
   | bl j=>have:=hy.ax;subst this;cases ry;exact EqAt.none_bool j
   | int j=>have:=hy.int_inv;subst this;obtain⟨t',rfl⟩:=ry;exact EqAt.none_int j t'
   | str j=>have:=hy.str_inv;subst this;obtain⟨t',rfl⟩:=ry;exact EqAt.none_str j t'
   | tup j=>obtain⟨b,ys,q,f1,f2⟩:=hy.ab;subst q;cases ry;obtain⟨its,_,ht⟩:=Mx.ar hok f1;exact EqAt.none_tuple ht (by lia)
   | lst j=>obtain⟨b,ys,q,f1,_,f2⟩:=hy.lst_inv;subst q;cases ry;obtain⟨its,_,ht⟩:=aO hok f1;exact EqAt.none_list ht (by lia)
   | _=>simp[pl] at fG
  | bl i=>
   have:=hx.ax;subst this;cases rx;cases e with
   | aT=>have:=hy.az;subst this;cases ry;exact EqAt.bool_none _
   | bl j=>have:=hy.ax;subst this;cases ry;exact EqAt.bool_bool i j
   | int j=>have:=hy.int_inv;subst this;obtain⟨t',rfl⟩:=ry;exact EqAt.bool_int i j t'
   | str j=>have:=hy.str_inv;subst this;obtain⟨t',rfl⟩:=ry;exact EqAt.bool_str i j t'
   | tup j=>obtain⟨b,ys,q,f1,f2⟩:=hy.ab;subst q;cases ry;obtain⟨its,_,ht⟩:=Mx.ar hok f1;exact EqAt.bool_tuple i ht (by lia)
   | lst j=>obtain⟨b,ys,q,f1,_,f2⟩:=hy.lst_inv;subst q;cases ry;obtain⟨its,_,ht⟩:=aO hok f1;exact EqAt.bool_list i ht (by lia)
   | _=>simp[pl] at fG
  | int i=>
   have:=hx.int_inv;subst this;obtain⟨t,rfl⟩:=rx;cases e with
   | aT=>have:=hy.az;subst this;cases ry;exact EqAt.int_none i t
   | bl j=>have:=hy.ax;subst this;cases ry;exact EqAt.int_bool i t j
   | int j=>have:=hy.int_inv;subst this;obtain⟨t',rfl⟩:=ry;exact EqAt.int_int i t j t'
   | str j=>have:=hy.str_inv;subst this;obtain⟨t',rfl⟩:=ry;exact EqAt.int_str i t j t'
   | tup j=>obtain⟨b,ys,q,f1,f2⟩:=hy.ab;subst q;cases ry;obtain⟨its,_,ht⟩:=Mx.ar hok f1;exact EqAt.int_tuple i t ht (by lia)
   | lst j=>obtain⟨b,ys,q,f1,_,f2⟩:=hy.lst_inv;subst q;cases ry;obtain⟨its,_,ht⟩:=aO hok f1;exact EqAt.int_list i t ht (by lia)
   | _=>simp[pl] at fG
  | str i=>
   have:=hx.str_inv;subst this;obtain⟨t,rfl⟩:=rx;cases e with
   | aT=>have:=hy.az;subst this;cases ry;exact EqAt.str_none i t
   | bl j=>have:=hy.ax;subst this;cases ry;exact EqAt.str_bool i t j
   | int j=>have:=hy.int_inv;subst this;obtain⟨t',rfl⟩:=ry;exact EqAt.str_int i t j t'
   | str j=>have:=hy.str_inv;subst this;obtain⟨t',rfl⟩:=ry;exact EqAt.str_str i t j t'
   | tup j=>obtain⟨b,ys,q,f1,f2⟩:=hy.ab;subst q;cases ry;obtain⟨its,_,ht⟩:=Mx.ar hok f1;exact EqAt.str_tuple i t ht (by lia)
   | lst j=>obtain⟨b,ys,q,f1,_,f2⟩:=hy.lst_inv;subst q;cases ry;obtain⟨its,_,ht⟩:=aO hok f1;exact EqAt.str_list i t ht (by lia)
   | _=>simp[pl] at fG
  | tup ds=>unfold dp at hd;lia
  | lst ds=>unfold dp at hd;lia
  | _=>simp[pl] at nz
 | succ n ih=>
  intro d e x y u v R hd nz fG hu hx hy rx ry;cases d with
  | tup ds=>
   obtain⟨a,xs,q,e1,e2⟩:=hx.ab;subst q;cases rx;obtain⟨its,r1,ht⟩:=Mx.ar hok e1;cases e with
   | aT=>have:=hy.az;subst this;cases ry;exact EqAt.tuple_none ht (by lia)
   | bl j=>have:=hy.ax;subst this;cases ry;exact EqAt.tuple_bool j ht (by lia)
   | int j=>have:=hy.int_inv;subst this;obtain⟨t',rfl⟩:=ry;exact EqAt.tuple_int j t' ht (by lia)
   | str j=>have:=hy.str_inv;subst this;obtain⟨t',rfl⟩:=ry;exact EqAt.tuple_str j t' ht (by lia)
   | lst j=>obtain⟨b,ys,q,f1,_,f2⟩:=hy.lst_inv;subst q;cases ry;obtain⟨aJ,_,bZ⟩:=aO hok f1;exact EqAt.tuple_list ht bZ (by lia)
   | tup es=>
    obtain⟨b,ys,q,f1,f2⟩:=hy.ab;subst q;cases ry;obtain⟨aJ,r2,bZ⟩:=Mx.ar hok f1;by_cases gP:a=b
    ·subst gP;have:=RV.inj hx hy nz fG;cases this;rw[gk _ nz];exact EqAt.same _
    ·have l1:its.toArray.size=ds.length:=by rw[Pe,<-r1.length,e2.length]
     have l2:aJ.toArray.size=es.length:=by rw[Pe,<-r2.length,f2.length]
     have key:=RcAt.tuples (A:=R) (e:=tH ds es) ht bZ (by lia) (λj h1 h2=>?_)
     ·have q:=cK ds es;rw[<-l1,<-l2] at q;rw[q] at key;exact EqAt.of_refs gP key
     ·have oS:j < xs.length:=by rw[e2.length,<-l1];exact h1
      have oT:j < ys.length:=by rw[f2.length,<-l2];exact h2
      obtain⟨d,g1,g2⟩:=e2.get (i:=j) (x:=xs[j]) (by simp[oS]);obtain⟨e,k1,k2⟩:=f2.get (i:=j) (x:=ys[j]) (by simp[oT]);obtain⟨u,zO,ru⟩:=r1.get (i:=j) (x:=xs[j]) (by simp[oS]);obtain⟨v,CS,rv⟩:=r2.get (i:=j) (x:=ys[j]) (by simp[oT]);have eu:its.toArray[j]=u:=by simp only[List.getElem_toArray];exact(Pg.mp zO).2
      have ev:aJ.toArray[j]=v:=by simp only[List.getElem_toArray];exact(Pg.mp CS).2
      rw[eu,ev,show tH ds es j=du d e by unfold tH;rw[g1,k1]];have:=kc g1;unfold dp at hd;exact ih d e xs[j] ys[j] u v R.in1 (by lia) (d9 (by simpa [pl] using nz) g1) (d9 (by simpa [pl] using fG) k1) (by show R.units + 1 + n < cLine;lia) g2 k2 ru rv
   | _=>simp[pl] at fG
  | lst ds=>
   obtain⟨a,xs,q,e1,_,e2⟩:=hx.lst_inv;subst q;cases rx;obtain⟨its,r1,ht⟩:=aO hok e1;cases e with
   | aT=>have:=hy.az;subst this;cases ry;exact EqAt.list_none ht (by lia)
   | bl j=>have:=hy.ax;subst this;cases ry;exact EqAt.list_bool j ht (by lia)
   | int j=>have:=hy.int_inv;subst this;obtain⟨t',rfl⟩:=ry;exact EqAt.list_int j t' ht (by lia)
   | str j=>have:=hy.str_inv;subst this;obtain⟨t',rfl⟩:=ry;exact EqAt.list_str j t' ht (by lia)
   | tup j=>obtain⟨b,ys,q,f1,f2⟩:=hy.ab;subst q;cases ry;obtain⟨aJ,_,bZ⟩:=Mx.ar hok f1;exact EqAt.list_tuple ht bZ (by lia)
   | lst es=>
    obtain⟨b,ys,q,f1,_,f2⟩:=hy.lst_inv;subst q;cases ry;obtain⟨aJ,r2,bZ⟩:=aO hok f1;by_cases gP:a=b
    ·subst gP;have:=RV.inj hx hy nz fG;cases this;rw[gk _ nz];exact EqAt.same _
    ·have l1:its.toArray.size=ds.length:=by rw[Pe,<-r1.length,e2.length]
     have l2:aJ.toArray.size=es.length:=by rw[Pe,<-r2.length,f2.length]
     have q:=cK ds es;by_cases hl:ds.length=es.length
     ·have key:=RcAt.lists (A:=R) (e:=tH ds es) ht bZ (by lia) (by lia) (λj h1 h2=>?_)
      ·rw[hl,Nat.min_self,beq_self_eq_true,Bool.and_true] at q;rw[l1,hl,q] at key;exact EqAt.of_refs gP key
      ·have oS:j < xs.length:=by rw[e2.length,<-l1];exact h1
       have oT:j < ys.length:=by rw[f2.length,<-l2];exact h2
       obtain⟨d,g1,g2⟩:=e2.get (i:=j) (x:=xs[j]) (by simp[oS]);obtain⟨e,k1,k2⟩:=f2.get (i:=j) (x:=ys[j]) (by simp[oT]);obtain⟨u,zO,ru⟩:=r1.get (i:=j) (x:=xs[j]) (by simp[oS]);obtain⟨v,CS,rv⟩:=r2.get (i:=j) (x:=ys[j]) (by simp[oT]);have eu:its.toArray[j]=u:=by simp only[List.getElem_toArray];exact(Pg.mp zO).2
       have ev:aJ.toArray[j]=v:=by simp only[List.getElem_toArray];exact(Pg.mp CS).2
       rw[eu,ev,show tH ds es j=du d e by unfold tH;rw[g1,k1]];have:=kc g1;unfold dp at hd;exact ih d e xs[j] ys[j] u v R.in1 (by lia) (d9 (by simpa [pl] using nz) g1) (d9 (by simpa [pl] using fG) k1) (by show R.units + 1 + n < cLine;lia) g2 k2 ru rv
     ·have key:=RcAt.lists_lengths (A:=R) ht bZ (by rw[l1,l2];simpa using hl) (by lia);have hb:(ds.length==es.length)=false:=by simpa using hl
      rw[hb,Bool.and_false] at q;show EqAt R s _ _ (dW ds es);rw[<-q];exact EqAt.of_refs gP key
   | _=>simp[pl] at fG
  | _=>exact ih _ e x y u v R (by unfold dp;lia) nz fG (by lia) hx hy rx ry
end
inductive R (α:Type) where
 | ok (a:α) | ex (c:Nat) | bad
noncomputable def R.bind {α β:Type}:R α->(α->R β)->R β
 | .ok a,f=>f a
 | .ex c,_=> .ex c
 | .bad,_=> .bad
@[simp] theorem R.ah {α β:Type} (a:α) (f:α->R β):(R.ok a).bind f=f a:=rfl
noncomputable def R.nx {α:Type}:R α->R α
 | .ok a=> .ok a
 | _=> .bad
noncomputable abbrev lim:Nat:=1000000
noncomputable abbrev ao:=List (Option Dt)
noncomputable abbrev Sx:=Option (List Int)
noncomputable def ae (b:Bool) {α:Type} (r:R α):R α:=if b then r else .bad
@[simp] theorem guard_true {α:Type} (r:R α):ae true r=r:=rfl
noncomputable def lF (o:Operator) (a b:Dt):R Dt:=match o with
 | .Add=>match a,b with
  | .int i,.int j=> .ok (.int (i + j))
  | .lst x,.lst y=>ae (decide (x.length + y.length<=lim)) (.ok (.lst (x++y)))
  | .tup x,.tup y=>ae (decide (x.length + y.length<=lim)) (.ok (.tup (x++y)))
  | _,_=> .bad
 | .Sub=>match a,b with
  | .int i,.int j=> .ok (.int (i - j))
  | _,_=> .bad
 | .Mult=>match a,b with
  | .int i,.int j=>ae (decide (i.natAbs < 2 ^ 64)||decide (j.natAbs < 2 ^ 64)) (.ok (.int (i * j)))
  | .tup x,.int k=>ae (decide (k.natAbs<=lim)&&decide (x.length * k.toNat<=lim)) (.ok (.tup (List.replicate k.toNat x).flatten))
  | _,_=> .bad
 | .FloorDiv=>match a,b with
  | .int i,.int j=>ae (decide (0 < j)&&decide (j.natAbs.log2 < 9000)) (.ok (.int (i / j)))
  | _,_=> .bad
 | .Mod=>match a,b with
  | .int i,.int j=>ae (decide (0 < j)) (.ok (.int (i % j)))
  | _,_=> .bad
 | _=> .bad
noncomputable def inD (d:Dt) (ds:List Dt):Bool:=ds.any λe=>du e d
noncomputable def oM (d e:Dt):Bool:=pl d&&pl e&&decide (dp d<=100)
noncomputable def itemsOf:Dt->Option (List Dt)
 | .lst ds=>some ds
 | .tup ds=>some ds
 | .dw ns=>some (ns.map Dt.int)
 | _=>none
noncomputable def c8:Dt->Option (List Dt)
 | .lst ds=>some ds
 | .tup ds=>some ds
 | _=>none
mutual
noncomputable def uN:Mx.D->Mx.D->Bool
 | .int _,.int _=>true
 | .str _,.str _=>true
 | .tup a,.tup b=>lE a b
 | _,_=>false
noncomputable def lE:List Mx.D->List Mx.D->Bool
 | x::xs,y::ys=>uN x y&&lE xs ys
 | _,_=>true
end
noncomputable def cZ:CmpOp->Dt->Dt->R Bool
 | .Eq,a,b=>ae (oM a b) (.ok (du a b))
 | .NotEq,a,b=>ae (oM a b) (.ok (!du a b))
 | .Lt,.int i,.int j=> .ok (decide (i < j))
 | .LtE,.int i,.int j=> .ok (decide (i<=j))
 | .Gt,.int i,.int j=> .ok (decide (j < i))
 | .GtE,.int i,.int j=> .ok (decide (j<=i))
 | .GtE,.tup a,.tup b=>match fu a,fu b with
  | some xs,some ys=>ae (lE xs ys&&decide (Mx.D.dh xs<=100)) (.ok (!Mx.D.dc xs ys))
  | _,_=> .bad
 | .Is,a,.aT=> .ok (match a with | .aT=>true | _=>false)
 | .IsNot,a,.aT=> .ok (match a with | .aT=>false | _=>true)
 | .NotIn,a,.lst ds=>ae (pl a&&lH ds&&decide (oK ds<=100)) (.ok (!inD a ds))
 | _,_,_=> .bad
noncomputable def dO:Dt->R Bool
 | .aT=> .ok false
 | .bl b=> .ok b
 | .int i=> .ok (i != 0)
 | .str y=>ae (decide (y.length<=lim)) (.ok ((y.length:Int) != 0))
 | .lst ds=> .ok !ds.isEmpty
 | .tup ds=> .ok !ds.isEmpty
 | .dw ds=> .ok !ds.isEmpty
 | _=> .bad
noncomputable def ua (ds:List Dt) (i:Int):R Dt:=match lQ ds i with
 | some d=> .ok d
 | none=> .bad
noncomputable def cF:Dt->Dt->R Dt
 | .lst ds,.int i=>ua ds i
 | .tup ds,.int i=>ua ds i
 | .dw ns,.int i=>ua (ns.map Dt.int) i
 | _,_=> .bad
noncomputable def cutD {α:Type} (xs:List α) (lo hi:Option Int):List α:=(xs.drop (HT.bR xs.length 0 lo)).take (HT.bR xs.length xs.length hi - HT.bR xs.length 0 lo)
noncomputable def fq:Dt->Option Int->Option Int->R Dt
 | .lst ds,lo,hi=> .ok (.lst (cutD ds lo hi))
 | .dw ds,lo,hi=> .ok (.lst (cutD (ds.map Dt.int) lo hi))
 | .tup ds,lo,hi=> .ok (.tup (cutD ds lo hi))
 | _,_,_=> .bad
inductive BI where
 | len | abs | min2 | max2 | sum | any | maxL | sorted | tuple | list | isi (T:String) | dvm
 deriving DecidableEq
noncomputable def intsOf:List Dt->Option (List Int)
 | []=>some []
 | .int i::r=>(intsOf r).map (i:: ·)
 | _=>none
noncomputable def iA:List Dt->Option (List Bool)
 | []=>some []
 | .bl i::r=>(iA r).map (i:: ·)
 | _=>none
noncomputable def td (a b:Mx.D):Bool:= !Mx.D.lt b a
noncomputable def dY (ds:List Mx.D):List Mx.D:=ds.mergeSort td
noncomputable def Gw (k:Mx.SK):Mx.D->Bool
 | .tup (.tup _::_)=>k== .tt
 | .tup (.str _::_)=>k== .ts
 | .tup (.int _::_)=>k== .ti
 | .str _=>k== .s
 | .int _=>k== .i
 | _=>false
noncomputable def jz (ds:List Mx.D):Bool:=decide (ds.length < 1000000)&&(decide (ds.length < 2)||(decide (Mx.D.dh ds<=100)&&([Mx.SK.tt,.ts,.ti,.s,.i].any λk=>ds.all (Gw k))&&ds.all λd=>ds.all λe=>uN d e))
noncomputable def dd:List Str->List Str
 | []=>[]
 | x::r=>if x∈dd r then dd r else x::dd r
noncomputable def qQ:List Int->Int
 | []=>0
 | [a]=>a
 | a::r=>min a (qQ r)
noncomputable def de:List Int->Int
 | []=>0
 | [a]=>a
 | a::r=>max a (de r)
noncomputable def strsOf:List Dt->Option (List Str)
 | []=>some []
 | .str i::r=>(strsOf r).map (i:: ·)
 | _=>none
noncomputable def cU (xs ys:List Dt):List Dt:=List.zipWith (λx y=>Dt.tup [x,y]) xs ys
noncomputable def v9:Nat->List Dt->List Dt
 | _,[]=>[]
 | i,x::xs=>Dt.tup [.int i,x]::v9 (i + 1) xs
noncomputable def uJ (T:String):Dt->R Bool
 | .str _=> .ok (T=="str")
 | .int _=> .ok (T=="int")
 | .bl _=> .ok (T=="bool"||T=="int")
 | .lst _=> .ok (T=="list")
 | .tup _=> .ok (T=="tuple")
 | .aT=> .ok false
 | _=> .bad
noncomputable def M8 (d:Dt):Option (Str×Dt):=match d with
 | .tup ds=>match ds with
  | [a,v]=>match a with
   | .str k=>some (k,v)
   | _=>none
  | _=>none
 | _=>none
noncomputable def d5 (b:BI) (as:List Dt):R Dt:=match b with
 | .len=>match as with
  | [.lst ds]=> .ok (.int ds.length)
  | [.tup ds]=> .ok (.int ds.length)
  | [.dw ds]=> .ok (.int ds.length)
  | _=> .bad
 | .abs=>match as with
  | [.int i]=> .ok (.int (if i < 0 then -i else i))
  | _=> .bad
 | .min2=>match as with
  | [.int i,.int j]=> .ok (.int (if j < i then j else i))
  | _=> .bad
 | .max2=>match as with
  | [.int i,.int j]=> .ok (.int (if j > i then j else i))
  | _=> .bad
 | .sum=>match as with
  | [.lst ds]=>match intsOf ds with | some ns=> .ok (.int ns.sum) | none=> .bad
  | [.tup ds]=>match intsOf ds with | some ns=> .ok (.int ns.sum) | none=> .bad
  | _=> .bad
 | .any=>match as with
  | [.lst ds]=>match iA ds with | some ns=> .ok (.bl (ns.any id)) | none=> .bad
  | _=> .bad
 | .sorted=>match as with
  | [d]=>match itemsOf d with
   | some ds=>match fu ds with
    | some ms=>ae (jz ms) (.ok (.lst (ck (dY ms))))
    | none=> .bad
   | none=> .bad
  | _=> .bad
 | .tuple=>match as with
  | [.lst ds]=> .ok (.tup ds)
  | [.tup ds]=> .ok (.tup ds)
  | _=> .bad
 | .list=>match as with
  | [.lst ds]=> .ok (.lst ds)
  | [.tup ds]=> .ok (.lst ds)
  | [.dw ns]=> .ok (.lst (ns.map Dt.int))
  | _=> .bad
 | .isi T=>match as with
  | [d]=>(uJ T d).bind λb=> .ok (.bl b)
  | _=> .bad
 | .maxL=>match as with
  | [.lst ds]=>match intsOf ds with | some ns=>ae (!ns.isEmpty) (.ok (.int (de ns))) | none=> .bad
  | _=> .bad
 | .dvm=>match as with
  | [.int i,.int j]=>ae (decide (j≠0)&&decide (j.natAbs.log2 < 9000)) (.ok (.tup [.int (i.fdiv j),.int (i.fmod j)]))
  | _=> .bad
noncomputable def isStr:Dt->Bool
 | .str _=>true
 | _=>false
inductive MT where
 | join
 deriving DecidableEq
noncomputable def Ol:MT->Dt->List Dt->R Dt
 | .join,.str z,[.lst ds]=>match strsOf ds with
  | some ys=>ae (decide ((ys.map (·.length)).sum + ys.length * z.length<=lim)) (.ok (.str (PySem.Txt.join z ys)))
  | none=> .bad
 | _,_,_=> .bad
inductive Tg where
 | nm (i:Nat) | tp (is:List Nat)
 deriving DecidableEq
mutual
inductive C where
 | con (d:Dt) | var (i:Nat) | mvr (i:Nat)
 | bin (o:Operator) (a b:C) | cmp (o:CmpOp) (a b:C) | ch (o p:CmpOp) (a b c:C)
 | neg (a:C) | nt (a:C) | and (a b:C) | or (a b:C) | ite (t a b:C)
 | idx (a b:C) | sliL (a lo:C) | sliH (a hi:C) | sliB (a lo hi:C)
 | tup (es:Cs) | lst (es:Cs)
 | call (f:Nat) (es:Cs) (ds:List Dt) | callD (f:Nat) (es:Cs) | popD | lenD
 | bi (b:BI) (es:Cs) | mt (m:MT) (o:C) (es:Cs)
 | FJ (i:Nat) (k e:C) | iW (i:Nat) | gtO (o k e:C)
 | comp (cap:List (Option Nat)) (it:lP) (tg:Tg) (ts:Cs) (e:C)
 | gF (cap:List (Option Nat)) (it:lP) (tg:Tg) (ts:Cs) (gH:lP) (ji:Tg) (EY:Cs) (e:C)
inductive Cs where
 | nil | cons (c:C) (cs:Cs)
inductive lP where
 | seq (c:C) | rng1 (c:C) | rng2 (a b:C) | zip (a b:C) | enum (c:C) | zipR (a c:C)
end
noncomputable def Cs.all (p:C->Bool):Cs->Bool
 | .nil=>true
 | .cons c cs=>p c&&cs.all p
mutual
noncomputable def lk:C->Nat
 | .mvr _=>1
 | .and _ _=>0
 | .or _ _=>0
 | .ite _ a b=>max (lk a) (lk b)
 | .idx a _=>if lk a<=1 then 0 else 2
 | .sliL a _=>if lk a<=1 then 0 else 2
 | .sliH a _=>if lk a<=1 then 0 else 2
 | .sliB a _ _=>if lk a<=1 then 0 else 2
 | .bin _ a b=>if lk a<=1/\lk b<=1 then 0 else 2
 | .tup es=>if pk es=0 then 0 else 2
 | .lst es=>if pk es=0 then 0 else 2
 | .call _ es _=>if pk es=0 then 0 else 2
 | .callD _ es=>if pk es=0 then 0 else 2
 | .bi _ es=>if pk es<=1 then 0 else 2
 | .FJ _ _ e=>lk e
 | .gtO o _ e=>if lk o=0 then lk e else 2
 | _=>0
noncomputable def pk:Cs->Nat
 | .nil=>0
 | .cons c cs=>max (lk c) (pk cs)
end
noncomputable def qM:lP->Nat
 | .seq c=>lk c
 | .zip a b=>max (lk a) (lk b)
 | .enum c=>lk c
 | .zipR a _=>lk a
 | _=>0
noncomputable def fresh (fr:Nat->Bool):C->Bool
 | .lst _=>true
 | .comp ..=>true
 | .gF ..=>true
 | .bi .sorted _=>true
 | .bi .list _=>true
 | .bin ..=>true
 | .sliH ..=>true
 | .call f _ _=>fr f
 | .callD f _=>fr f
 | _=>false
noncomputable def bO (c:C) (d:Dt):Bool:=decide (lk c=0)||kH d
noncomputable def jw (c:C) (d:Dt):Bool:=decide (lk c=0)||match d with | .lst ds=>gV ds | d=>kH d
noncomputable def eE (ρ:ao) (i:Nat):R Dt:=match ρ[i]? with
 | some (some d)=> .ok d
 | _=> .bad
noncomputable def jA (cap:List (Option Nat)) (ρ:ao):ao:=cap.map λo=>o.bind λi=>(ρ[i]?).join
noncomputable def jv:List Nat->List Dt->ao->R ao
 | [],[],ρ=> .ok ρ
 | i::is,d::ds,ρ=>jv is ds (ρ.set i (some d))
 | _,_,_=> .bad
noncomputable def eQ:Tg->Dt->ao->R ao
 | .nm i,d,ρ=> .ok (ρ.set i (some d))
 | .tp is,.tup ds,ρ=>jv is ds ρ
 | _,_,_=> .bad
noncomputable def aK (f:Dt->Sx->R (List Dt×Sx)):List Dt->Sx->R (List Dt×Sx)
 | [],S=> .ok ([],S)
 | x::xs,S=>(f x S).bind λp=>(aK f xs p.2).bind λq=> .ok (p.1++q.1,q.2)
noncomputable def aM (tg:Tg) (LC:ao->Sx->R (Bool×Sx)) (body:ao->Sx->R (List Dt×Sx)) (ρ:ao) (d:Dt) (S:Sx):R (List Dt×Sx):=
 (eQ tg d ρ).bind λρ1=>(LC ρ1 S).bind λb=>if b.1 then body ρ1 b.2 else .ok ([],b.2)
noncomputable def aS (lo:Int) (n:Nat):List Dt:=(List.range n).map λ(i:Nat)=>Dt.int (lo + (i:Int))
noncomputable def JF (d:Mx.D):List Dt->List Dt->Option Dt
 | k::ks,v::vs=>if toD k=some d then some v else JF d ks vs
 | _,_=>none
noncomputable def Fz (d:Mx.D) (v:Dt):List Dt->List Dt->List Dt
 | k::ks,x::vs=>(if toD k=some d then v else x)::Fz d v ks vs
 | _,vs=>vs
noncomputable def Gx (k:Dt):Option Mx.D:=match toD k with
 | some (.tup ds)=>if Mx.D.dep (.tup ds)<=8 then some (.tup ds) else none
 | _=>none
noncomputable def Fx (z k e:Dt):R Dt:=match z with
 | .f9 ks vs=>match Gx k with
  | some d=> .ok ((JF d ks vs).getD e)
  | none=> .bad
 | _=> .bad
noncomputable def FA (z k v:Dt):R Dt:=match z with
 | .f9 ks vs=>match Gx k with
  | some d=>ae (decide (ks.length < lim)) (.ok (if (JF d ks vs).isSome then .f9 ks (Fz d v ks vs) else .f9 (ks++[k]) (vs++[v])))
  | none=> .bad
 | _=> .bad
noncomputable def xM (ks vs:List Mx.D):List Mx.D:=(ks.zip vs).map λz=> .tup [z.1,z.2]
noncomputable def FB (z:Dt):R Dt:=match z with
 | .f9 ks vs=>match fu ks,fu vs with
  | some ms,some ns=>ae (jz (xM ms ns)) (.ok (.lst (ck (dY (xM ms ns)))))
  | _,_=> .bad
 | _=> .bad
noncomputable def KD:Dt->Bool
 | .obj _ _=>true
 | _=>false
noncomputable def Mz (y:Str):List Str->List Dt->Option Dt
 | k::ks,v::vs=>if k=y then some v else Mz y ks vs
 | _,_=>none
noncomputable def GT (z k e:Dt):R Dt:=match z with
 | .obj ks vs=>match k with
  | .str y=> .ok ((Mz y ks vs).getD e)
  | _=> .bad
 | _=> .bad
noncomputable def Gq (ρ:ao) (i:Nat):Bool:=match ρ[i]? with | some (some (.f9 _ _))=>true | _=>false
noncomputable abbrev FT:=Nat->List Dt->Sx->R (Dt×Sx)
mutual
noncomputable def ev (F:FT):C->ao->Sx->R (Dt×Sx)
 | .con d,_,S=> .ok (d,S)
 | .var i,ρ,S=>(eE ρ i).bind λd=> .ok (d,S)
 | .mvr i,ρ,S=>(eE ρ i).bind λd=> .ok (d,S)
 | .bin o a b,ρ,S=>(ev F a ρ S).bind λx=>(ev F b ρ x.2).bind λy=>(lF o x.1 y.1).bind λd=> .ok (d,y.2)
 | .cmp o a b,ρ,S=>(ev F a ρ S).bind λx=>(ev F b ρ x.2).bind λy=>(cZ o x.1 y.1).bind λd=> .ok (.bl d,y.2)
 | .ch o p a b c,ρ,S=>(ev F a ρ S).bind λx=>(ev F b ρ x.2).bind λy=>(cZ o x.1 y.1).bind λd=>
   if d then(ev F c ρ y.2).bind λz=>(cZ p y.1 z.1).bind λe=> .ok (.bl e,z.2) else .ok (.bl false,y.2)
 | .neg a,ρ,S=>(ev F a ρ S).bind λx=>match x.1 with | .int i=> .ok (.int (-i),x.2) | _=> .bad
 | .nt a,ρ,S=>(ev F a ρ S).bind λx=>match x.1 with | .bl b=> .ok (.bl !b,x.2) | _=> .bad
 | .and a b,ρ,S=>(ev F a ρ S).bind λx=>match x.1 with | .bl true=>(ev F b ρ x.2).bind λy=>(match y.1 with | .bl c=> .ok (.bl c,y.2) | _=> .bad) | .bl false=> .ok (.bl false,x.2) | _=> .bad
 | .or a b,ρ,S=>(ev F a ρ S).bind λx=>match x.1 with | .bl false=>(ev F b ρ x.2).bind λy=>(match y.1 with | .bl c=> .ok (.bl c,y.2) | _=> .bad) | .bl true=> .ok (.bl true,x.2) | _=> .bad
 | .ite t a b,ρ,S=>(cH F t ρ S).bind λx=>if x.1 then ev F a ρ x.2 else ev F b ρ x.2
 | .idx a b,ρ,S=>(ev F a ρ S).bind λx=>(ev F b ρ x.2).bind λy=>(cF x.1 y.1).bind λd=> .ok (d,y.2)
 | .sliL a l,ρ,S=>(ev F a ρ S).bind λx=>(ev F l ρ x.2).bind λy=>match y.1 with | .int i=>(fq x.1 (some i) none).bind λd=> .ok (d,y.2) | _=> .bad
 | .sliH a h,ρ,S=>(ev F a ρ S).bind λx=>(ev F h ρ x.2).bind λy=>match y.1 with | .int i=>(fq x.1 none (some i)).bind λd=> .ok (d,y.2) | _=> .bad
 | .sliB a l h,ρ,S=>(ev F a ρ S).bind λx=>(ev F l ρ x.2).bind λy=>match y.1 with | .int i=>(ev F h ρ y.2).bind λz=>(match z.1 with | .int j=>(fq x.1 (some i) (some j)).bind λd=> .ok (d,z.2) | _=> .bad) | _=> .bad
 | .tup es,ρ,S=>(gN F es ρ S).bind λx=>ae (decide (x.1.length<=lim)) (.ok (.tup x.1,x.2))
 | .lst es,ρ,S=>(gN F es ρ S).bind λx=>ae (decide (x.1.length<=lim)) (.ok (.lst x.1,x.2))
 | .call f es ds,ρ,S=>(gN F es ρ S).bind λx=>(F f (x.1++ds) none).bind λy=> .ok (y.1,x.2)
 | .callD f es,ρ,S=>ae S.isSome ((gN F es ρ S).bind λx=>match x.2 with | some s=>F f x.1 (some s) | none=> .bad)
 | .popD,_,S=>match S with | some ns=>ae (!ns.isEmpty) (.ok (.int (ns.getLastD 0),some ns.dropLast)) | none=> .bad
 | .lenD,_,S=>match S with | some ns=> .ok (.int ns.length,S) | none=> .bad
 | .FJ i k e,ρ,S=>ae (Gq ρ i) ((ev F k ρ S).bind λx=>(ev F e ρ x.2).bind λy=>(eE ρ i).bind λz=>(Fx z x.1 y.1).bind λd=> .ok (d,y.2))
 | .iW i,ρ,S=>(eE ρ i).bind λz=>(FB z).bind λd=> .ok (d,S)
 | .gtO o k e,ρ,S=>(ev F o ρ S).bind λz=>ae (KD z.1) ((ev F k ρ z.2).bind λx=>(ev F e ρ x.2).bind λy=>(GT z.1 x.1 y.1).bind λd=> .ok (d,y.2))
 | .bi b es,ρ,S=>(gN F es ρ S).bind λx=>(d5 b x.1).bind λd=> .ok (d,x.2)
 | .mt m o es,ρ,S=>(ev F o ρ S).bind λy=>ae (isStr y.1) ((gN F es ρ y.2).bind λx=>(Ol m y.1 x.1).bind λd=> .ok (d,x.2))
 | .comp cap it tg ts e,ρ,S=>(dN F it ρ S).bind λx=>ae (decide (x.1.length<=lim)&&(decide (qM it<=1)||lB F it ρ S))
   ((aK (aM tg (bh F ts) (λρ1 S1=>(ev F e ρ1 S1).bind λy=>ae (bO e y.1) (.ok ([y.1],y.2))) (jA cap ρ)) x.1 x.2).bind λq=> .ok (.lst q.1,q.2))
 | .gF cap it tg ts gH ji EY e,ρ,S=>(dN F it ρ S).bind λx=>ae (decide (x.1.length<=lim)&&(decide (qM it<=1)||lB F it ρ S))
   ((aK (aM tg (bh F ts) (λρ1 S1=>(dN F gH ρ1 S1).bind λx2=>ae (decide (x.1.length * x2.1.length<=lim)&&decide (qM gH=0))
    (aK (aM ji (bh F EY) (λρ2 S2=>(ev F e ρ2 S2).bind λy=>ae (bO e y.1) (.ok ([y.1],y.2))) ρ1) x2.1 x2.2)) (jA cap ρ)) x.1 x.2).bind λq=> .ok (.lst q.1,q.2))
noncomputable def cH (F:FT):C->ao->Sx->R (Bool×Sx)
 | .nt a,ρ,S=>(cH F a ρ S).bind λx=> .ok (!x.1,x.2)
 | .and a b,ρ,S=>(cH F a ρ S).bind λx=>if x.1 then cH F b ρ x.2 else .ok (false,x.2)
 | .or a b,ρ,S=>(cH F a ρ S).bind λx=>if x.1 then .ok (true,x.2) else cH F b ρ x.2
 | .cmp o a b,ρ,S=>(ev F a ρ S).bind λx=>(ev F b ρ x.2).bind λy=>(cZ o x.1 y.1).bind λd=> .ok (d,y.2)
 | .ch o p a b c,ρ,S=>(ev F a ρ S).bind λx=>(ev F b ρ x.2).bind λy=>(cZ o x.1 y.1).bind λd=>
   if d then(ev F c ρ y.2).bind λz=>(cZ p y.1 z.1).bind λe=> .ok (e,z.2) else .ok (false,y.2)
 | .var i,ρ,S=>(eE ρ i).bind λd=>(dO d).bind λb=> .ok (b,S)
 | .mvr i,ρ,S=>(eE ρ i).bind λd=>(dO d).bind λb=> .ok (b,S)
 | .call f es ds,ρ,S=>(gN F es ρ S).bind λx=>(F f (x.1++ds) none).bind λy=>(dO y.1).bind λb=> .ok (b,x.2)
 | .callD f es,ρ,S=>ae S.isSome ((gN F es ρ S).bind λx=>match x.2 with | some s=>(F f x.1 (some s)).bind λy=>(dO y.1).bind λb=> .ok (b,y.2) | none=> .bad)
 | .bi b es,ρ,S=>(gN F es ρ S).bind λx=>(d5 b x.1).bind λd=>(dO d).bind λb=> .ok (b,x.2)
 | .idx a b,ρ,S=>(ev F a ρ S).bind λx=>(ev F b ρ x.2).bind λy=>(cF x.1 y.1).bind λd=>(dO d).bind λb=> .ok (b,y.2)
 | _,_,_=> .bad
noncomputable def gN (F:FT):Cs->ao->Sx->R (List Dt×Sx)
 | .nil,_,S=> .ok ([],S)
 | .cons c cs,ρ,S=>(ev F c ρ S).bind λx=>(gN F cs ρ x.2).bind λy=> .ok (x.1::y.1,y.2)
noncomputable def bh (F:FT):Cs->ao->Sx->R (Bool×Sx)
 | .nil,_,S=> .ok (true,S)
 | .cons c .nil,ρ,S=>cH F c ρ S
 | _,_,_=> .bad
noncomputable def dN (F:FT):lP->ao->Sx->R (List Dt×Sx)
 | .seq c,ρ,S=>(ev F c ρ S).bind λx=>match itemsOf x.1 with | some ds=> .ok (ds,x.2) | none=> .bad
 | .rng1 c,ρ,S=>(ev F c ρ S).bind λx=>match x.1 with | .int j=>ae (decide (j<=lim)&&decide (-lim<=j)) (.ok (aS 0 j.toNat,x.2)) | _=> .bad
 | .rng2 a b,ρ,S=>(ev F a ρ S).bind λx=>(ev F b ρ x.2).bind λy=>match x.1,y.1 with
   | .int i,.int j=>ae (decide (i.natAbs<=lim)&&decide (j.natAbs<=lim)) (.ok (aS i (j - i).toNat,y.2)) | _,_=> .bad
 | .zip a b,ρ,S=>(ev F a ρ S).bind λx=>(ev F b ρ x.2).bind λy=>match c8 x.1,c8 y.1 with
   | some xs,some ys=> .ok (cU xs ys,y.2) | _,_=> .bad
 | .enum c,ρ,S=>(ev F c ρ S).bind λx=>match c8 x.1 with | some ds=> .ok (v9 0 ds,x.2) | none=> .bad
 | .zipR a c,ρ,S=>(ev F a ρ S).bind λx=>(ev F c ρ x.2).bind λy=>match c8 x.1,y.1 with
   | some xs,.int j=>ae (decide (j<=lim)&&decide (-lim<=j)) (.ok (cU xs (aS 0 j.toNat),y.2)) | _,_=> .bad
noncomputable def lB (F:FT):lP->ao->Sx->Bool
 | .seq c,ρ,S=>match ev F c ρ S with | .ok x=>kH x.1 | _=>false
 | _,_,_=>false
end
inductive Fl where
 | next | brk | cnt | ret (d:Dt)
mutual
inductive T where
 | asg (i:Nat) (c:C) | asgM (i:Nat) (c:C) | asgD (i:Nat) (c:C) | mov (i j:Nat) | asgT (is:List Nat) (c:C)
 | aug (i:Nat) (o:Operator) (c:C)
 | ye (i:Nat) (k v:C) | app (i:Nat) (c:C) | xtd (i:Nat) (c:C) | Be (i:Nat)
 | Ir (c:C) | ret (c:C) | retN | ifs (t:C) (a b:Ts) | fr (tg:Tg) (it:lP) (b:Ts) | wh (t:C) (b:Ts)
 | JG (i:Nat) | dset (i:Nat) (k v:C)
 | rs (k:Nat) (vs:List Nat) | tr (b:Ts) (yW:List (Option Bool)) | brk | cnt | pas
inductive Ts where
 | nil | cons (t:T) (ts:Ts)
end
noncomputable abbrev RS:=R (Fl×ao×Sx)
noncomputable def forL (tg:Tg) (body:ao->Sx->RS):List Dt->ao->Sx->RS
 | [],ρ,S=> .ok (.next,ρ,S)
 | x::xs,ρ,S=>(eQ tg x ρ).bind λρ1=>(body ρ1 S).bind λp=>match p.1 with
  | .next=>forL tg body xs p.2.1 p.2.2
  | .cnt=>forL tg body xs p.2.1 p.2.2
  | .brk=> .ok (.next,p.2)
  | .ret d=> .ok (.ret d,p.2)
noncomputable def LF (test:ao->Sx->R (Bool×Sx)) (body:ao->Sx->RS):Nat->ao->Sx->RS
 | 0,_,_=> .bad
 | n + 1,ρ,S=>(test ρ S).bind λb=>if b.1 then(body ρ b.2).bind λp=>match p.1 with
   | .next=>LF test body n p.2.1 p.2.2
   | .cnt=>LF test body n p.2.1 p.2.2
   | .brk=> .ok (.next,p.2)
   | .ret d=> .ok (.ret d,p.2)
  else .ok (.next,ρ,b.2)
noncomputable def HU:Nat:=100000
noncomputable def isLE (ρ:ao) (i:Nat):Bool:=match ρ[i]? with
 | some (some (.lst _))=>true
 | _=>false
noncomputable def pq (ρ:ao) (i:Nat):R (List Dt):=match ρ[i]? with
 | some (some (.lst ds))=> .ok ds
 | _=> .bad
mutual
noncomputable def ex (F:FT):T->ao->Sx->RS
 | .asg i c,ρ,S=>(ev F c ρ S).bind λx=>ae (bO c x.1) (.ok (.next,ρ.set i (some x.1),x.2))
 | .asgM i c,ρ,S=>(ev F c ρ S).bind λx=>ae (jw c x.1) (.ok (.next,ρ.set i (some x.1),x.2))
 | .asgD i c,ρ,S=>(ev F c ρ S).bind λx=>match x.1 with | .lst ds=>(match intsOf ds with | some ns=>ae (decide (lk c=0)&&decide (i < ρ.length)) (.ok (.next,ρ.set i none,some ns)) | none=> .bad) | _=> .bad
 | .mov i j,ρ,S=>(eE ρ j).bind λd=> .ok (.next,(ρ.set j none).set i (some d),S)
 | .asgT is c,ρ,S=>(ev F c ρ S).bind λx=>ae (bO c x.1) ((eQ (.tp is) x.1 ρ).bind λρ1=> .ok (.next,ρ1,x.2))
 | .aug i o c,ρ,S=>(eE ρ i).bind λd=>(ev F c ρ S).bind λx=>match d,x.1 with
   | .int _,.int _=>(lF o d x.1).bind λz=> .ok (.next,ρ.set i (some z),x.2)
   | .str _,.str _=>(lF o d x.1).bind λz=> .ok (.next,ρ.set i (some z),x.2)
   | _,_=> .bad
 | .ye i k v,ρ,S=>ae (isLE ρ i) ((ev F v ρ S).bind λx=>(ev F k ρ x.2).bind λy=>ae (bO v x.1) ((pq ρ i).bind λds=>match y.1 with
   | .int n=>(match ot ds.length n with | some j=> .ok (.next,ρ.set i (some (.lst (ds.set j x.1))),y.2) | none=> .bad) | _=> .bad))
 | .JG i,ρ,S=> .ok (.next,ρ.set i (some (.f9 [] [])),S)
 | .dset i k v,ρ,S=>ae (Gq ρ i) ((ev F v ρ S).bind λx=>(ev F k ρ x.2).bind λy=>(eE ρ i).bind λz=>ae (decide (lk v=0)) ((FA z y.1 x.1).bind λd=> .ok (.next,ρ.set i (some d),y.2)))
 | .app i c,ρ,S=>ae (isLE ρ i) ((ev F c ρ S).bind λx=>ae (bO c x.1) ((pq ρ i).bind λds=>ae (decide (ds.length<=lim)) (.ok (.next,ρ.set i (some (.lst (ds++[x.1]))),x.2))))
 | .xtd i c,ρ,S=>ae (isLE ρ i) ((ev F c ρ S).bind λx=>ae (decide (lk c<=1)) ((pq ρ i).bind λds=>match x.1 with
   | .lst es=>ae (decide (ds.length + es.length<=lim)) (.ok (.next,ρ.set i (some (.lst (ds++es))),x.2)) | .tup es=>ae (decide (ds.length + es.length<=lim)) (.ok (.next,ρ.set i (some (.lst (ds++es))),x.2)) | _=> .bad))
 | .Be i,ρ,S=>(pq ρ i).bind λ_=> .ok (.next,ρ.set i (some (.lst [])),S)
 | .Ir c,ρ,S=>(ev F c ρ S).bind λx=> .ok (.next,ρ,x.2)
 | .ret c,ρ,S=>(ev F c ρ S).bind λx=> .ok (.ret x.1,ρ,x.2)
 | .retN,ρ,S=> .ok (.ret .aT,ρ,S)
 | .ifs t a b,ρ,S=>(cH F t ρ S).bind λx=>if x.1 then aW F a ρ x.2 else aW F b ρ x.2
 | .fr tg it b,ρ,S=>(dN F it ρ S).bind λx=>ae (decide (qM it=0)||lB F it ρ S) (forL tg (aW F b) x.1 ρ x.2)
 | .wh t b,ρ,S=>LF (cH F t) (aW F b) HU ρ S
 | .rs _ _,_,_=> .bad
 | .tr b yW,ρ,S=>ae S.isNone (match aW F b ρ S with | .ex k=>(match yW[k]? with | some (some v)=> .ok (.ret (.bl v),ρ,S) | _=> .bad) | r=>r)
 | .brk,ρ,S=> .ok (.brk,ρ,S)
 | .cnt,ρ,S=> .ok (.cnt,ρ,S)
 | .pas,ρ,S=> .ok (.next,ρ,S)
noncomputable def aW (F:FT):Ts->ao->Sx->RS
 | .nil,ρ,S=> .ok (.next,ρ,S)
 | .cons t ts,ρ,S=>(ex F t ρ S).bind λp=>match p.1 with
  | .next=>aW F ts p.2.1 p.2.2
  | f=> .ok (f,p.2)
end
structure Fn where
 ps:Nat
 n:Nat
 bo:Bool
 body:Ts
noncomputable def gJ (F:FT) (f:Fn) (args:List Dt) (S:Sx):R (Dt×Sx):=
 if args.length + (if f.bo then 1 else 0)=f.ps then
  (aW F f.body ((if f.bo then[none] else[])++args.map some++List.replicate (f.n - f.ps) none) S).bind λp=>match p.1 with
   | .next=> .ok (.aT,p.2.2)
   | .ret d=> .ok (d,p.2.2)
   | _=> .bad
 else .bad
noncomputable def aw (fs:List Fn):Nat->FT
 | 0,_,_,_=> .bad
 | n + 1,f,args,S=>match fs[f]? with
  | some g=>gJ (aw fs n) g args S
  | none=> .bad
structure G where
 fns:List (Str×Nat×List Dt×Bool)
 cons:List (Str×Dt)
 bls:List Str
 fr:Nat->Bool
 xs:List (Str×List (Str×Bool))
structure Gm where
 names:List (Str×NameKind)
 N:List Str
 M:List Bool
 δ:Option Nat
 κ:Option Nat
noncomputable def yz:Option NameKind->Bool
 | some .local=>true
 | some .cell=>true
 | some .free=>true
 | _=>false
noncomputable def xt:Option NameKind->Bool
 | some .local=>true
 | some .cell=>true
 | _=>false
noncomputable def Bk:Option NameKind->Bool
 | some .globalImplicit=>true
 | _=>false
noncomputable def zU (x:Str):List Str->Option Nat
 | []=>none
 | y::r=>if x==y then some 0 else(zU x r).map (· + 1)
theorem nE {x:Str}:∀{l:List Str} {i:Nat},zU x l=some i->l[i]?=some x
 | [],i,h=>by simp[zU] at h
 | y::r,i,h=>by
  unfold zU at h;by_cases e:(x==y)=true
  ·rw[if_pos e] at h;cases h;have:x=y:=by simpa using e
   simp[this]
  ·rw[if_neg e] at h;obtain⟨j,h1,rfl⟩:=Pu.mp h;simp[nE h1]
noncomputable def fk (x:Str):Bool:= !(x==("__debug__":Str))&& !(x==("__classdict__":Str))&& !(x==("__name__":Str))
noncomputable def slot (Γ:Gm) (x:Str):Option Nat:=if yz (Γ.names.lookup x)&&fk x then zU x Γ.N else none
noncomputable def gK (Γ:Gm) (x:Str):Option Nat:=if xt (Γ.names.lookup x)&&fk x then zU x Γ.N else none
noncomputable def fH (Γ:Gm) (i:Nat):Bool:=Γ.M[i]?==some true
noncomputable def plainS (Γ:Gm) (i:Nat):Bool:= !fH Γ i&& !(Γ.δ==some i)
noncomputable def qF (x:Str):List (Str×Nat×List Dt×Bool)->Option (Nat×Nat×List Dt×Bool)
 | []=>none
 | y::r=>if x==y.1 then some (0,y.2) else(qF x r).map λp=>(p.1 + 1,p.2)
noncomputable def vN:List (Str×Nat×BI):=[("len",1,.len),("abs",1,.abs),("min",2,.min2),("max",2,.max2),("sum",1,.sum),("any",1,.any),("max",1,.maxL),("sorted",1,.sorted),("tuple",1,.tuple),("list",1,.list),("divmod",2,.dvm)]
noncomputable def qt (x:Str) (n:Nat):Option BI:=(vN.find? λt=>t.1==x&&t.2.1==n).map (·.2.2)
noncomputable def rE (x:Str):Option String:=
 if x==("str":Str) then some "str" else if x==("int":Str) then some "int" else if x==("bool":Str) then some "bool"
 else if x==("list":Str) then some "list" else if x==("tuple":Str) then some "tuple" else none
noncomputable def pG (Γ:Gm):Expr->Option Nat
 | .Name x _=>(gK Γ x).bind λi=>if plainS Γ i then some i else none
 | _=>none
noncomputable def gT (Γ:Gm):List Expr->Option (List Nat)
 | []=>some []
 | e::es=>(pG Γ e).bind λi=>(gT Γ es).map (i:: ·)
noncomputable def oF (Γ:Gm):Expr->Option Tg
 | .Name x p=>(pG Γ (.Name x p)).map .nm
 | .Tuple es _ _=>(gT Γ es).map .tp
 | _=>none
noncomputable def JD (names:List (Str×NameKind)):List Str:=names.filterMap λp=>if yz (some p.2) then some p.1 else none
noncomputable def B9 (names:List (Str×NameKind)) (N:List Str):List (Option Nat):=names.filterMap λp=>match p.2 with
 | .local=>some none
 | .free=>some (zU p.1 N)
 | .cell=>some none
 | _=>none
noncomputable def Ca (cap:List (Option Nat)) (M:List Bool):List Bool:=cap.map λo=>o.elim false λi=>M[i]?==some true
noncomputable def yU (δ:Option Nat):List (Option Nat)->Option Nat
 | []=>none
 | o::r=>if δ.isSome&&o==δ then some 0 else(yU δ r).map (· + 1)
noncomputable def a8 (Γ:Gm) (sc:Scope):Gm×List (Option Nat):=
 let cap:=B9 sc.names Γ.N
 (⟨sc.names,JD sc.names,Ca cap Γ.M,yU Γ.δ cap,yU Γ.κ cap⟩,cap)
noncomputable def aX:Tg->List Nat
 | .nm i=>[i]
 | .tp is=>is
noncomputable def vP (names on:List (Str×NameKind)) (N' Nn:List Str) (cap:List (Option Nat)):Bool:=
 names.all (λy=>names.lookup y.1==some y.2&&(y.2 != .free||(on.lookup y.1==some .cell||on.lookup y.1==some .free)))&&
 (cap.length==N'.length)&&(List.range cap.length).all (λj=>match cap[j]? with
  | some (some i)=>(match N'[j]? with
   | some x=>Nn[i]?==some x&&names.lookup x==some .free
   | none=>false)
  | _=>true)
noncomputable def KC (Γ:Gm):Expr->Bool
 | .Name x _=>match slot Γ x with
  | some i=>Γ.δ==some i
  | none=>false
 | _=>false
mutual
noncomputable def cE:Nat->G->Gm->Expr->Option C
 | 0,_,_,_=>none
 | n + 1,g,Γ,e=>match e with
  | .Constant k _ _=>match k with
   | .int i=>some (.con (.int i))
   | .str x=>some (.con (.str x))
   | .bool x=>some (.con (.bl x))
   | .none=>some (.con .aT)
   | _=>none
  | .Name x _=>match slot Γ x with
   | some i=>if Γ.δ==some i||Γ.κ==some i then none else if fH Γ i then some (.mvr i) else some (.var i)
   | none=>if Bk (Γ.names.lookup x)&&fk x then(g.cons.lookup x).map .con else none
  | .BinOp a o b _=>(cE n g Γ a).bind λa'=>(cE n g Γ b).bind λb'=>some (.bin o a' b')
  | .UnaryOp o a _=>(cE n g Γ a).bind λa'=>match o with
   | .USub=>some (.neg a')
   | .Not=>some (.nt a')
   | _=>none
  | .BoolOp o vs _=>cB n g Γ o vs
  | .Compare a os bs _=>match os,bs with
   | [o],[b]=>(cE n g Γ a).bind λa'=>(cE n g Γ b).bind λb'=>some (.cmp o a' b')
   | _,_=>none
  | .Subscript a b _=>match b with
   | .Slice (some l) none none _=>(cE n g Γ a).bind λa'=>(cE n g Γ l).bind λl'=>some (.sliL a' l')
   | .Slice none (some h) none _=>(cE n g Γ a).bind λa'=>(cE n g Γ h).bind λh'=>some (.sliH a' h')
   | b=>(cE n g Γ a).bind λa'=>(cE n g Γ b).bind λb'=>some (.idx a' b')
  | .Tuple es _ _=>(vQ n g Γ es).bind λeY=>some (.tup eY)
  | .List es _=>(vQ n g Γ es).bind λeY=>some (.lst eY)
  | .Call f as ks pos=>match f,as,ks with
   | .Name f _,a::as,[]=>rY n g Γ f a as
   | _,_,_=>none
  | .ListComp elt gens sc _=>
   let b:=a8 Γ sc
   if sc.kind== .function then(match gens with
   | [⟨tg,it,ifs,0⟩]=>(cI n g Γ tg it).bind λjN=>(oF b.1 tg).bind λkY=>(zv n g b.1 ifs).bind λoh=>(cE n g b.1 elt).bind λe'=>
    if vP sc.names Γ.names b.1.N Γ.N b.2&&decide b.1.N.Nodup then some (.comp b.2 jN kY oh e') else none
   | [⟨tg,it,ifs,0⟩,⟨ji,gH,cv,0⟩]=>(cI n g Γ tg it).bind λjN=>(oF b.1 tg).bind λkY=>(zv n g b.1 ifs).bind λoh=>(cI n g b.1 ji gH).bind λo6=>(oF b.1 ji).bind λkZ=>(zv n g b.1 cv).bind λp5=>(cE n g b.1 elt).bind λe'=>
    if vP sc.names Γ.names b.1.N Γ.N b.2&&decide b.1.N.Nodup&&(aX kZ).all (λi=> !(aX kY).contains i) then some (.gF b.2 jN kY oh o6 kZ p5 e') else none
   | _=>none) else none
  | _=>none
noncomputable def vQ:Nat->G->Gm->List Expr->Option Cs
 | 0,_,_,_=>none
 | n + 1,g,Γ,es=>match es with
  | []=>some .nil
  | e::es=>(cE n g Γ e).bind λe'=>(vQ n g Γ es).bind λeY=>some (.cons e' eY)
noncomputable def zv:Nat->G->Gm->List Expr->Option Cs
 | 0,_,_,_=>none
 | n + 1,g,Γ,es=>match es with
  | []=>some .nil
  | [e]=>(cE n g Γ e).bind λe'=>some (.cons e' .nil)
  | _=>none
noncomputable def cB:Nat->G->Gm->BoolOp->List Expr->Option C
 | 0,_,_,_,_=>none
 | n + 1,g,Γ,o,es=>match es with
  | [e]=>cE n g Γ e
  | e::es=>(cE n g Γ e).bind λe'=>(cB n g Γ o es).bind λeY=>some (match o with | .And=> .and e' eY | .Or=> .or e' eY)
  | []=>none
noncomputable def cI:Nat->G->Gm->Expr->Expr->Option lP
 | 0,_,_,_,_=>none
 | n + 1,g,Γ,tg,e=>match e with
  | .Call (.Name f p) [a] [] q=>if f==("range":Str) then(if Bk (Γ.names.lookup f)&&g.bls.contains f then(cE n g Γ a).bind λa'=>some (.rng1 a') else none)
   else(cE n g Γ (.Call (.Name f p) [a] [] q)).bind λc=>some (.seq c)
  | .Call (.Name f p) [a,b] [] q=>if f==("range":Str) then(if Bk (Γ.names.lookup f)&&g.bls.contains f then none else none)
   else if f==("zip":Str) then(match tg with
    | .Tuple ..=>if Bk (Γ.names.lookup f)&&g.bls.contains f then(cE n g Γ a).bind λa'=>(cE n g Γ b).bind λb'=>some (.zip a' b') else none
    | _=>none)
   else(cE n g Γ (.Call (.Name f p) [a,b] [] q)).bind λc=>some (.seq c)
  | e=>(cE n g Γ e).bind λc=>some (.seq c)
noncomputable def rY:Nat->G->Gm->Str->Expr->List Expr->Option C
 | 0,_,_,_,_,_=>none
 | n + 1,g,Γ,f,a,as=>if Bk (Γ.names.lookup f)&&fk f then(match qF f g.fns with
  | some (k,np,fM,bo)=>if bo then(match a with
    | .Name x _=>match slot Γ x with
     | some i=>if Γ.δ==some i&&as.length + 1==np then none else none
     | none=>none
    | _=>none)
   else if as.length + 1<=np&&np - (as.length + 1)<=fM.length then(vQ n g Γ (a::as)).bind λes=>some (.call k es (fM.drop (fM.length - (np - (as.length + 1))))) else none
  | none=>if g.bls.contains f then
    (if f==("len":Str)&&KC Γ a&&as.isEmpty then none
    else if f==("isinstance":Str) then(match as with
     | [.Name t _]=>if Bk (Γ.names.lookup t)&&g.bls.contains t then(rE t).bind λT=>(cE n g Γ a).bind λa'=>some (.bi (.isi T) (.cons a' .nil)) else none
     | _=>none)
    else match a,as with
     | .Call (.Name r _) [b] [] _,[]=>if r==("reversed":Str) then none
       else if r==("set":Str) then none
       else(qt f (as.length + 1)).bind λi=>(vQ n g Γ (a::as)).bind λes=>some (.bi i es)
     | .Call (.Name r _) [b,c] [] _,[]=>if r==("zip":Str) then none
       else(qt f (as.length + 1)).bind λi=>(vQ n g Γ (a::as)).bind λes=>some (.bi i es)
     | _,_=>(qt f (as.length + 1)).bind λi=>(vQ n g Γ (a::as)).bind λes=>some (.bi i es))
    else none)
  else none
end
section
variable {P:Program} {w:World} {K:Frag} {A B:Addr->Prop} {H:Hp} {s:Shared}
theorem elts (hok:eX P w H s.heap) {yX hV:List V} {i1 i2:List Dt} {gA aJ:List Value} {R:Around} {n:Nat} (g1:aq K A H yX i1) (g2:aq K B H hV i2) (r1:au yX gA) (r2:au hV aJ) (l1:gA.toArray.size=i1.length) (l2:aJ.toArray.size=i2.length)
  (p1:lH i1=true) (p2:lH i2=true) (hd:oK i1<=n) (hu:R.in1.units + n < cLine) (j:Nat) (h1:j < gA.toArray.size) (h2:j < aJ.toArray.size):EqAt R.in1 s gA.toArray[j] aJ.toArray[j] (tH i1 i2 j):=by
 have oS:j < yX.length:=by rw[g1.length,<-l1];exact h1
 have oT:j < hV.length:=by rw[g2.length,<-l2];exact h2
 obtain⟨d,c1,c2⟩:=g1.get (i:=j) (x:=yX[j]) (by simp[oS]);obtain⟨e,k1,k2⟩:=g2.get (i:=j) (x:=hV[j]) (by simp[oT]);obtain⟨u,zO,ru⟩:=r1.get (i:=j) (x:=yX[j]) (by simp[oS]);obtain⟨v,CS,rv⟩:=r2.get (i:=j) (x:=hV[j]) (by simp[oT]);have eu:gA.toArray[j]=u:=by simp only[List.getElem_toArray];exact(Pg.mp zO).2
 have ev:aJ.toArray[j]=v:=by simp only[List.getElem_toArray];exact(Pg.mp CS).2
 rw[eu,ev,show tH i1 i2 j=du d e by unfold tH;rw[c1,k1]];exact Bh hok n d e yX[j] hV[j] u v R.in1 (Pp (kc c1) hd) (d9 p1 c1) (d9 p2 k1) hu c2 k2 ru rv
theorem He (hok:eX P w H s.heap) (n:Nat) (d e:Dt) (x y:V) (u v:Value) (R:Around) (hd:dp d<=n + 1) (nz:pl d=true) (fG:pl e=true) (hu:R.units + n + 1 < cLine) (hx:RV K A H x d) (hy:RV K B H y e) (rx:RelV x u) (ry:RelV y v):RcAt R s u v (du d e):=by
 cases d with
 | aT=>
  have:=hx.az;subst this;cases rx;cases e with
  | aT=>have:=hy.az;subst this;cases ry;exact RcAt.none_none
  | bl i2=>have:=hy.ax;subst this;cases ry;exact RcAt.none_bool i2
  | int i2=>have:=hy.int_inv;subst this;obtain⟨t2,rfl⟩:=ry;exact RcAt.none_int i2 t2
  | str i2=>have:=hy.str_inv;subst this;obtain⟨t2,rfl⟩:=ry;exact RcAt.none_str i2 t2
  | tup i2=>obtain⟨a2,hV,q2,f2,g2⟩:=hy.ab;subst q2;cases ry;obtain⟨aJ,r2,bZ⟩:=Mx.ar hok f2;exact RcAt.none_tuple bZ (by lia)
  | lst i2=>obtain⟨a2,hV,q2,f2,_,g2⟩:=hy.lst_inv;subst q2;cases ry;obtain⟨aJ,r2,bZ⟩:=aO hok f2;exact RcAt.none_list bZ (by lia)
  | _=>simp[pl] at fG
 | bl i1=>
  have:=hx.ax;subst this;cases rx;cases e with
  | aT=>have:=hy.az;subst this;cases ry;exact RcAt.bool_none i1
  | bl i2=>have:=hy.ax;subst this;cases ry;exact RcAt.bool_bool i1 i2
  | int i2=>have:=hy.int_inv;subst this;obtain⟨t2,rfl⟩:=ry;exact RcAt.bool_int i1 i2 t2
  | str i2=>have:=hy.str_inv;subst this;obtain⟨t2,rfl⟩:=ry;exact RcAt.bool_str i1 i2 t2
  | tup i2=>obtain⟨a2,hV,q2,f2,g2⟩:=hy.ab;subst q2;cases ry;obtain⟨aJ,r2,bZ⟩:=Mx.ar hok f2;exact RcAt.bool_tuple i1 bZ (by lia)
  | lst i2=>obtain⟨a2,hV,q2,f2,_,g2⟩:=hy.lst_inv;subst q2;cases ry;obtain⟨aJ,r2,bZ⟩:=aO hok f2;exact RcAt.bool_list i1 bZ (by lia)
  | _=>simp[pl] at fG
 | int i1=>
  have:=hx.int_inv;subst this;obtain⟨t1,rfl⟩:=rx;cases e with
  | aT=>have:=hy.az;subst this;cases ry;exact RcAt.int_none i1 t1
  | bl i2=>have:=hy.ax;subst this;cases ry;exact RcAt.int_bool i1 t1 i2
  | int i2=>have:=hy.int_inv;subst this;obtain⟨t2,rfl⟩:=ry;exact RcAt.int_int i1 t1 i2 t2
  | str i2=>have:=hy.str_inv;subst this;obtain⟨t2,rfl⟩:=ry;exact RcAt.int_str i1 t1 i2 t2
  | tup i2=>obtain⟨a2,hV,q2,f2,g2⟩:=hy.ab;subst q2;cases ry;obtain⟨aJ,r2,bZ⟩:=Mx.ar hok f2;exact RcAt.int_tuple i1 t1 bZ (by lia)
  | lst i2=>obtain⟨a2,hV,q2,f2,_,g2⟩:=hy.lst_inv;subst q2;cases ry;obtain⟨aJ,r2,bZ⟩:=aO hok f2;exact RcAt.int_list i1 t1 bZ (by lia)
  | _=>simp[pl] at fG
 | str i1=>
  have:=hx.str_inv;subst this;obtain⟨t1,rfl⟩:=rx;cases e with
  | aT=>have:=hy.az;subst this;cases ry;exact RcAt.str_none i1 t1
  | bl i2=>have:=hy.ax;subst this;cases ry;exact RcAt.str_bool i1 t1 i2
  | int i2=>have:=hy.int_inv;subst this;obtain⟨t2,rfl⟩:=ry;exact RcAt.str_int i1 t1 i2 t2
  | str i2=>have:=hy.str_inv;subst this;obtain⟨t2,rfl⟩:=ry;exact RcAt.str_str i1 t1 i2 t2
  | tup i2=>obtain⟨a2,hV,q2,f2,g2⟩:=hy.ab;subst q2;cases ry;obtain⟨aJ,r2,bZ⟩:=Mx.ar hok f2;exact RcAt.str_tuple i1 t1 bZ (by lia)
  | lst i2=>obtain⟨a2,hV,q2,f2,_,g2⟩:=hy.lst_inv;subst q2;cases ry;obtain⟨aJ,r2,bZ⟩:=aO hok f2;exact RcAt.str_list i1 t1 bZ (by lia)
  | _=>simp[pl] at fG
 | tup i1=>
  obtain⟨a1,yX,q1,f1,g1⟩:=hx.ab;subst q1;cases rx;obtain⟨gA,r1,iD⟩:=Mx.ar hok f1;cases e with
  | aT=>have:=hy.az;subst this;cases ry;exact RcAt.tuple_none iD (by lia)
  | bl i2=>have:=hy.ax;subst this;cases ry;exact RcAt.tuple_bool i2 iD (by lia)
  | int i2=>have:=hy.int_inv;subst this;obtain⟨t2,rfl⟩:=ry;exact RcAt.tuple_int i2 t2 iD (by lia)
  | str i2=>have:=hy.str_inv;subst this;obtain⟨t2,rfl⟩:=ry;exact RcAt.tuple_str i2 t2 iD (by lia)
  | tup i2=>
   obtain⟨a2,hV,q2,f2,g2⟩:=hy.ab;subst q2;cases ry;obtain⟨aJ,r2,bZ⟩:=Mx.ar hok f2;have l1:gA.toArray.size=i1.length:=by rw[Pe,<-r1.length,g1.length]
   have l2:aJ.toArray.size=i2.length:=by rw[Pe,<-r2.length,g2.length]
   have key:=RcAt.tuples (A:=R) (e:=tH i1 i2) iD bZ (by lia) (elts hok g1 g2 r1 r2 l1 l2 (by simpa [pl] using nz) (by simpa [pl] using fG) (n:=n) (by unfold dp at hd;lia) (by show R.units + 1 + n < cLine;lia));have q:=cK i1 i2;rw[<-l1,<-l2] at q;rw[q] at key;exact key
  | lst i2=>obtain⟨a2,hV,q2,f2,_,g2⟩:=hy.lst_inv;subst q2;cases ry;obtain⟨aJ,r2,bZ⟩:=aO hok f2;exact RcAt.tuple_list iD bZ (by lia)
  | _=>simp[pl] at fG
 | lst i1=>
  obtain⟨a1,yX,q1,f1,_,g1⟩:=hx.lst_inv;subst q1;cases rx;obtain⟨gA,r1,iD⟩:=aO hok f1;cases e with
  | aT=>have:=hy.az;subst this;cases ry;exact RcAt.list_none iD (by lia)
  | bl i2=>have:=hy.ax;subst this;cases ry;exact RcAt.list_bool i2 iD (by lia)
  | int i2=>have:=hy.int_inv;subst this;obtain⟨t2,rfl⟩:=ry;exact RcAt.list_int i2 t2 iD (by lia)
  | str i2=>have:=hy.str_inv;subst this;obtain⟨t2,rfl⟩:=ry;exact RcAt.list_str i2 t2 iD (by lia)
  | tup i2=>obtain⟨a2,hV,q2,f2,g2⟩:=hy.ab;subst q2;cases ry;obtain⟨aJ,r2,bZ⟩:=Mx.ar hok f2;exact RcAt.list_tuple iD bZ (by lia)
  | lst i2=>
   obtain⟨a2,hV,q2,f2,_,g2⟩:=hy.lst_inv;subst q2;cases ry;obtain⟨aJ,r2,bZ⟩:=aO hok f2;have l1:gA.toArray.size=i1.length:=by rw[Pe,<-r1.length,g1.length]
   have l2:aJ.toArray.size=i2.length:=by rw[Pe,<-r2.length,g2.length]
   have q:=cK i1 i2;by_cases hl:i1.length=i2.length
   ·have key:=RcAt.lists (A:=R) (e:=tH i1 i2) iD bZ (by lia) (by lia) (elts hok g1 g2 r1 r2 l1 l2 (by simpa [pl] using nz) (by simpa [pl] using fG) (n:=n) (by unfold dp at hd;lia) (by show R.units + 1 + n < cLine;lia));rw[hl,Nat.min_self,beq_self_eq_true,Bool.and_true] at q;rw[l1,hl,q] at key;exact key
   ·have key:=RcAt.lists_lengths (A:=R) iD bZ (by rw[l1,l2];simpa using hl) (by lia);have hb:(i1.length==i2.length)=false:=by simpa using hl
    rw[hb,Bool.and_false] at q;show RcAt R s _ _ (dW i1 i2);rw[<-q];exact key
  | _=>simp[pl] at fG
 | _=>simp[pl] at nz
theorem AK (hok:eX P w H s.heap) (n:Nat) (d e:Dt) (x y:V) (u v:Value) (R:Around) (hd:dp d<=n + 1) (nz:pl d=true) (fG:pl e=true) (hu:R.units + n + 1 < cLine) (hx:RV K A H x d) (hy:RV K B H y e) (rx:RelV x u) (ry:RelV y v):RcNeAt R s u v (!du d e):=by
 cases d with
 | aT=>
  have:=hx.az;subst this;cases rx;cases e with
  | aT=>have:=hy.az;subst this;cases ry;exact RcNeAt.none_none
  | bl i2=>have:=hy.ax;subst this;cases ry;exact RcNeAt.none_bool i2
  | int i2=>have:=hy.int_inv;subst this;obtain⟨t2,rfl⟩:=ry;exact RcNeAt.none_int i2 t2
  | str i2=>have:=hy.str_inv;subst this;obtain⟨t2,rfl⟩:=ry;exact RcNeAt.none_str i2 t2
  | tup i2=>obtain⟨a2,hV,q2,f2,g2⟩:=hy.ab;subst q2;cases ry;obtain⟨aJ,r2,bZ⟩:=Mx.ar hok f2;exact RcNeAt.none_tuple bZ (by lia)
  | lst i2=>obtain⟨a2,hV,q2,f2,_,g2⟩:=hy.lst_inv;subst q2;cases ry;obtain⟨aJ,r2,bZ⟩:=aO hok f2;exact RcNeAt.none_list bZ (by lia)
  | _=>simp[pl] at fG
 | bl i1=>
  have:=hx.ax;subst this;cases rx;cases e with
  | aT=>have:=hy.az;subst this;cases ry;exact RcNeAt.bool_none i1
  | bl i2=>have:=hy.ax;subst this;cases ry;exact RcNeAt.bool_bool i1 i2
  | int i2=>have:=hy.int_inv;subst this;obtain⟨t2,rfl⟩:=ry;exact RcNeAt.bool_int i1 i2 t2
  | str i2=>have:=hy.str_inv;subst this;obtain⟨t2,rfl⟩:=ry;exact RcNeAt.bool_str i1 i2 t2
  | tup i2=>obtain⟨a2,hV,q2,f2,g2⟩:=hy.ab;subst q2;cases ry;obtain⟨aJ,r2,bZ⟩:=Mx.ar hok f2;exact RcNeAt.bool_tuple i1 bZ (by lia)
  | lst i2=>obtain⟨a2,hV,q2,f2,_,g2⟩:=hy.lst_inv;subst q2;cases ry;obtain⟨aJ,r2,bZ⟩:=aO hok f2;exact RcNeAt.bool_list i1 bZ (by lia)
  | _=>simp[pl] at fG
 | int i1=>
  have:=hx.int_inv;subst this;obtain⟨t1,rfl⟩:=rx;cases e with
  | aT=>have:=hy.az;subst this;cases ry;exact RcNeAt.int_none i1 t1
  | bl i2=>have:=hy.ax;subst this;cases ry;exact RcNeAt.int_bool i1 t1 i2
  | int i2=>have:=hy.int_inv;subst this;obtain⟨t2,rfl⟩:=ry;exact RcNeAt.int_int i1 t1 i2 t2
  | str i2=>have:=hy.str_inv;subst this;obtain⟨t2,rfl⟩:=ry;exact RcNeAt.int_str i1 t1 i2 t2
  | tup i2=>obtain⟨a2,hV,q2,f2,g2⟩:=hy.ab;subst q2;cases ry;obtain⟨aJ,r2,bZ⟩:=Mx.ar hok f2;exact RcNeAt.int_tuple i1 t1 bZ (by lia)
  | lst i2=>obtain⟨a2,hV,q2,f2,_,g2⟩:=hy.lst_inv;subst q2;cases ry;obtain⟨aJ,r2,bZ⟩:=aO hok f2;exact RcNeAt.int_list i1 t1 bZ (by lia)
  | _=>simp[pl] at fG
 | str i1=>
  have:=hx.str_inv;subst this;obtain⟨t1,rfl⟩:=rx;cases e with
  | aT=>have:=hy.az;subst this;cases ry;exact RcNeAt.str_none i1 t1
  | bl i2=>have:=hy.ax;subst this;cases ry;exact RcNeAt.str_bool i1 t1 i2
  | int i2=>have:=hy.int_inv;subst this;obtain⟨t2,rfl⟩:=ry;exact RcNeAt.str_int i1 t1 i2 t2
  | str i2=>have:=hy.str_inv;subst this;obtain⟨t2,rfl⟩:=ry;exact RcNeAt.str_str i1 t1 i2 t2
  | tup i2=>obtain⟨a2,hV,q2,f2,g2⟩:=hy.ab;subst q2;cases ry;obtain⟨aJ,r2,bZ⟩:=Mx.ar hok f2;exact RcNeAt.str_tuple i1 t1 bZ (by lia)
  | lst i2=>obtain⟨a2,hV,q2,f2,_,g2⟩:=hy.lst_inv;subst q2;cases ry;obtain⟨aJ,r2,bZ⟩:=aO hok f2;exact RcNeAt.str_list i1 t1 bZ (by lia)
  | _=>simp[pl] at fG
 | tup i1=>
  obtain⟨a1,yX,q1,f1,g1⟩:=hx.ab;subst q1;cases rx;obtain⟨gA,r1,iD⟩:=Mx.ar hok f1;cases e with
  | aT=>have:=hy.az;subst this;cases ry;exact RcNeAt.tuple_none iD (by lia)
  | bl i2=>have:=hy.ax;subst this;cases ry;exact RcNeAt.tuple_bool i2 iD (by lia)
  | int i2=>have:=hy.int_inv;subst this;obtain⟨t2,rfl⟩:=ry;exact RcNeAt.tuple_int i2 t2 iD (by lia)
  | str i2=>have:=hy.str_inv;subst this;obtain⟨t2,rfl⟩:=ry;exact RcNeAt.tuple_str i2 t2 iD (by lia)
  | tup i2=>
   obtain⟨a2,hV,q2,f2,g2⟩:=hy.ab;subst q2;cases ry;obtain⟨aJ,r2,bZ⟩:=Mx.ar hok f2;have l1:gA.toArray.size=i1.length:=by rw[Pe,<-r1.length,g1.length]
   have l2:aJ.toArray.size=i2.length:=by rw[Pe,<-r2.length,g2.length]
   have key:=RcNeAt.tuples (A:=R) (e:=tH i1 i2) iD bZ (by lia) (elts hok g1 g2 r1 r2 l1 l2 (by simpa [pl] using nz) (by simpa [pl] using fG) (n:=n) (by unfold dp at hd;lia) (by show R.units + 1 + n < cLine;lia));have q:=cK i1 i2;rw[<-l1,<-l2] at q;rw[q] at key;exact key
  | lst i2=>obtain⟨a2,hV,q2,f2,_,g2⟩:=hy.lst_inv;subst q2;cases ry;obtain⟨aJ,r2,bZ⟩:=aO hok f2;exact RcNeAt.tuple_list iD bZ (by lia)
  | _=>simp[pl] at fG
 | lst i1=>
  obtain⟨a1,yX,q1,f1,_,g1⟩:=hx.lst_inv;subst q1;cases rx;obtain⟨gA,r1,iD⟩:=aO hok f1;cases e with
  | aT=>have:=hy.az;subst this;cases ry;exact RcNeAt.list_none iD (by lia)
  | bl i2=>have:=hy.ax;subst this;cases ry;exact RcNeAt.list_bool i2 iD (by lia)
  | int i2=>have:=hy.int_inv;subst this;obtain⟨t2,rfl⟩:=ry;exact RcNeAt.list_int i2 t2 iD (by lia)
  | str i2=>have:=hy.str_inv;subst this;obtain⟨t2,rfl⟩:=ry;exact RcNeAt.list_str i2 t2 iD (by lia)
  | tup i2=>obtain⟨a2,hV,q2,f2,g2⟩:=hy.ab;subst q2;cases ry;obtain⟨aJ,r2,bZ⟩:=Mx.ar hok f2;exact RcNeAt.list_tuple iD bZ (by lia)
  | lst i2=>
   obtain⟨a2,hV,q2,f2,_,g2⟩:=hy.lst_inv;subst q2;cases ry;obtain⟨aJ,r2,bZ⟩:=aO hok f2;have l1:gA.toArray.size=i1.length:=by rw[Pe,<-r1.length,g1.length]
   have l2:aJ.toArray.size=i2.length:=by rw[Pe,<-r2.length,g2.length]
   have q:=cK i1 i2;by_cases hl:i1.length=i2.length
   ·have key:=RcNeAt.lists (A:=R) (e:=tH i1 i2) iD bZ (by lia) (by lia) (elts hok g1 g2 r1 r2 l1 l2 (by simpa [pl] using nz) (by simpa [pl] using fG) (n:=n) (by unfold dp at hd;lia) (by show R.units + 1 + n < cLine;lia));rw[hl,Nat.min_self,beq_self_eq_true,Bool.and_true] at q;rw[l1,hl,q] at key;exact key
   ·have key:=RcNeAt.lists_lengths (A:=R) iD bZ (by rw[l1,l2];simpa using hl) (by lia);have hb:(i1.length==i2.length)=false:=by simpa using hl
    rw[hb,Bool.and_false] at q;show RcNeAt R s _ _ (!dW i1 i2);rw[<-q];exact key
  | _=>simp[pl] at fG
 | _=>simp[pl] at nz
end
end Rx
end
section
namespace Mx
open PySem PySem.Spec PyProof.Rows L2 PySem.SeqAt
theorem pC:fillsNumberSlot (.type "tuple") "mul"=pure false:=
 PySem.fillsNumberSlot_seq (id:="tuple.__mul__") (r:=some (.builtin "tuple.__rmul__")) PySem.F.slot_tuple_mul.lookup (by decide +kernel) PySem.F.slot_tuple_rmul.lookup (by decide +kernel)
theorem u4:seqRepeat? (.type "tuple")=pure (some (.builtin "tuple.__mul__")):=by unfold seqRepeat?;rw[PySem.seqSlot_of (T:="tuple") (name:="__mul__") (id:="tuple.__mul__") PySem.F.slot_tuple_mul.lookup (by decide +kernel),PySem.seqSlot_of (T:="tuple") (name:="__rmul__") (id:="tuple.__rmul__") PySem.F.slot_tuple_rmul.lookup (by decide +kernel)];rfl
theorem x8 (a:Int) (t:Tok) (l:Addr) (its:Array Value) (n:Nat):
  Meets (Builtin.«int.__rmul__» ⟨[.int a t,.ref l],[]⟩) (λ_ R s=>s.heap.get? l=some {cls:= .type "tuple",dict:=none,data:= .seq its n,slots:=#[]}/\R (.ok (.ret Value.notImplemented)) s):=
 .of_wp λprog w A R s h=>by obtain⟨hp,g,d,tk,os⟩:=s;obtain⟨hl,h⟩:=h;wp_walk;exact⟨_,rfl,h⟩
theorem AW (l:Addr) (its:List Value) (n:Nat) (k:Int) (u:Tok) (h1: -(2 ^ 63)<=k) (h2:k < 2 ^ 63) (hz:its.length * k.toNat<=sizeLine):
  Meets (Builtin.«tuple.__mul__» ⟨[.ref l,.int k u],[]⟩) (λ_ R s=>s.heap.get? l=some {cls:= .type "tuple",dict:=none,data:= .seq its.toArray n,slots:=#[]}/\
   ((its=[]\/k=1)->R (.ok (.ret (.ref l))) s)/\(¬(its=[]\/k=1)->R (.ok (.ret (Value.ref s.heap.objs.size))) {s with heap:=s.heap.push {cls:= .type "tuple",data:= .seq (List.replicate k.toNat its).flatten.toArray}})):=
 .of_wp λprog w A R s h=>by
  obtain⟨hp,g,d,tk,os⟩:=s;obtain⟨hl,q1,q2⟩:=h;have hT:(⟨hp,g,d,tk,os⟩:Shared).TypeIs (.ref l) "tuple":=⟨_,hl,rfl⟩
  wp_walk
  rw[if_neg (by simp only[P7,decide_eq_true_eq];lia)];dsimp only;refine O9 (tupleItemsOf_ ⟨_,hl,rfl,n,rfl⟩ ?_);have e1:(its.toArray.isEmpty||k==1)=decide (its=[]\/k=1):=by
   cases its with
   | nil=>simp
   | cons a r=>rw[Bool.eq_iff_iff];simp
  rw[e1];by_cases hc:its=[]\/k=1
  ·rw[PN hc,if_pos rfl];unfold Builtin.Tuple.tupleIsExact;refine O9 (O9 (wpAny_typeOf hT (Pc ?_)));rw[if_pos (by rfl)];exact O9 (wpAny_rule (Pc ⟨_,rfl,q1 hc⟩))
  ·rw[PJ hc,if_neg (by simp)];have dD:its≠[]:=λz=>hc (.inl z)
   have he:its.toArray.isEmpty=false:=by cases its with | nil=>exact absurd rfl dD | cons a r=>rfl
   rw[he,Bool.or_false];by_cases hk:k<=0
   ·rw[PN hk,if_pos rfl];have k0:k.toNat=0:=by lia
    rw[k0] at q2;exact O9 (wpAny_newObj_type (Pc ⟨_,rfl,q2 hc⟩))
   ·rw[PJ hk,if_neg (by simp)];have Mf:(its.toArray.size:Int) * k=((its.length * k.toNat:Nat):Int):=by rw[Pe,Int.natCast_mul,Int.toNat_of_nonneg (by lia)]
    have Bq:=sizeLine_eq;rw[if_neg (by rw[Mf];lia)];unfold Builtin.Tuple.tupleTooMany;rw[if_neg (by rw[Mf];intro z;have:=Pf z;lia)];have Kk:List.foldl (λx1 x2=>x1++x2) #[] (List.replicate k.toNat its.toArray)=(List.replicate k.toNat its).flatten.toArray:=by have:=foldl_rep its k.toNat [];rw[List.nil_append] at this;exact this
    rw[Kk];refine O9 (wpAny_newObj_type (Pc ⟨_,rfl,q2 hc⟩) ?_);show (List.replicate k.toNat its).flatten.toArray.size<=sizeLine;rw[Pe,len_rep,Nat.mul_comm];exact hz
section
variable {X:Cx}
noncomputable def Hd:R2:=λx y H Q=>∃l k xs,x= .ref l/\y= .int k/\H l=some (.tup xs)/\ -(2 ^ 63)<=k/\k < 2 ^ 63/\xs.length * k.toNat<=sizeLine/\
 ((xs=[]\/k=1)->Q (.ref l) H)/\∀p,H p=none->Q (.ref p) (upd H p (.tup (List.replicate k.toNat xs).flatten))
theorem An:j3 X (binaryOp .Mult) Hd:=by
 intro pins s σ H x y v u Q I rx ry h;obtain⟨l,k,xs,rfl,rfl,hH,h1,h2,hz,q1,q2⟩:=h;cases rx;obtain⟨t,rfl⟩:=ry;obtain⟨z,its,r,⟨c,dd,dt,sl⟩,e,w1,n,w2,w3,w4⟩:=(show bH X.prog X.w H s.heap l (.tup xs) from I.hok l _ hH);simp only at w1 w2 w3 w4;subst w1 w2 w3 w4;have hl:=r.length;refine wpAny_binaryOp_repeat_ref (T:="tuple") (U:="int") (by decide) ⟨_,e,rfl⟩ (λs'=>typeIs_int s' k t) pC F.fills_int_mul F.slot_int_rmul u4 F.slot_int_index.lookup
  (call_meets F.slot_int_rmul (typeIs_int s k t) F.entry_int_rmul (F.args_int_rmul_2 _ _) (x8 k t l its.toArray n)
   ⟨e,rfl,⟨_,e,rfl⟩,call_meets PySem.F.slot_tuple_mul ⟨_,e,rfl⟩ PySem.F.entry_tuple_mul (PySem.F.args_tuple_mul_2 _ _) (AW l its n k t h1 h2 (by rw[<-hl];exact hz)) ⟨e,λhc=>?_,λhc=>?_⟩⟩)
 ·refine⟨.ref l,H,I,rfl,q1 (hc.imp (λz=>?_) id)⟩;subst z;cases r;rfl
 ·exact⟨.ref s.heap.objs.size,_,I.laid (t':=s.toks) (o:= .tup (List.replicate k.toNat xs).flatten) (λb o q=>Pb _ q) (Pj _) ⟨by rw[len_rep,Nat.mul_comm];exact hz,_,r.rep k.toNat,lu.new _ _⟩,rfl,q2 _ (I.hok.fresh (Pj _))⟩
theorem mT:cX X (.builtin "divmod") (λxs H Q=>∃i j,xs=[.int i,.int j]/\j≠0/\j.natAbs.log2 < 9000/\∀p,H p=none->Q (.ref p) (upd H p (.tup [.int (i.fdiv j),.int (i.fmod j)]))):=by intro pins s σ H xs us Q I r h;obtain⟨i,j,rfl,h1,h2,q⟩:=h;obtain⟨u,w',rfl,⟨t,rfl⟩,⟨t',rfl⟩⟩:=r.two;refine divmod_int h1 ?_ (.inl (PyProof.noPylong_of_log2 h2));refine⟨.ref s.heap.objs.size,_,?_,rfl,q _ (I.hok.fresh (Pj _))⟩;exact I.laid (λb o e=>Pb _ e) (Pj _) ⟨by simp only[Px,List.length_nil];rw[sizeLine_eq];decide,[.int (i.fdiv j) s.toks,.int (i.fmod j) (s.toks + 1)],.cons ⟨_,rfl⟩ (.cons ⟨_,rfl⟩ .nil),lu.new _ _⟩
theorem uo (hc:X.calm=true):cX X (.builtin "sum") (λxs H Q=>∃(l:Addr) (ns:List Int),xs=[.ref l]/\H l=some (.tup (ns.map V.int))/\Q (.int ns.sum) H):=by
 intro pins s σ H xs us Q I r h;obtain⟨l,ns,rfl,hq,q⟩:=h;obtain⟨u,rfl,ru⟩:=r.one;cases ru;obtain⟨_,its,rv,tn⟩:=(show bH X.prog X.w H s.heap l (.tup (ns.map V.int)) from I.hok l _ hq);have hl:its.length=ns.length:=by rw[<-rv.length];simp
 have ht:s.heap.IsTuple l its.toArray:=tn.is;have cJ:l < s.heap.objs.size:=tn.is.lt;refine call_sum_walkG (wpAny_pyIter_tuple ht ?_);refine⟨s.heap.objs.size,_,_,_,_,_,λi=>ns.getD i 0,rfl,Walks.tuple (A:=X.A.in1) (I.ok.hd hc) s.heap.objs.size l (PQ cJ) its.toArray,⟨⟨_,Pl _ rfl,rfl,rfl⟩,ht.push _⟩,λb hb=>?_,λi v hv=>?_,λh' tk t' hk=>?_⟩
 ·rcases Pq.mp hb with rfl | hb
  ·exact Po (Pl _ rfl)
  ·obtain rfl:=PX.mp hb;exact Nat.lt_trans cJ (Po (Pl _ rfl))
 ·have CQ:its.toArray[i]?=some v:=hv;exact int_at rv (by simpa using CQ)
 ·refine⟨.int _,H,I.kept λb o e=>hk b o (λz=>Nat.lt_irrefl _ ((PX.mp z)▸Po e)) (Pb _ e),⟨t',rfl⟩,?_⟩;rw[show its.toArray.size=ns.length by simp[hl],nM,List.take_length];exact q
end
noncomputable def BP (A:Around) (s:Shared) (u v:Value) (b:Bool):Prop:=
 ∀(prog:Program) (w:World) (E:Value->Shared->Prop) (Q:Value->Shared->Prop),Q (.bool b) s->wpAny (model prog w) A (richCompare .GtE u v) Q E s
inductive Zg (A:Around) (s:Shared):List Value->List Value->List D->List D->Prop
 | nil {ws:List Value} {es:List D}:ws.length=es.length->Zg A s [] ws [] es
 | pB {vs:List Value} {ds:List D}:vs.length=ds.length->Zg A s vs [] ds []
 | cons {v w:Value} {d e:D} {vs ws:List Value} {ds es:List D}:EqAt A s v w (D.jH d e)->(d≠e->BP A s v w (!D.lt d e))->Zg A s vs ws ds es->Zg A s (v::vs) (w::ws) (d::ds) (e::es)
section
open PySem.AutoSeq1 (wpAny_loadPart')
open PySem.MeetsSeq PySem.MeetsSeq2 PySem.MeetsSeq3
theorem lM (l b:Addr) (items cc:Array Value) (n n2:Nat) (dd sj:Option Addr) (sl tO:Array (Option Value)) (ds es:List D) (z1:items.size=ds.length) (z2:cc.size=es.length):
  Meets (Builtin.«tuple.__ge__» ⟨[.ref l,.ref b],[]⟩)
   (λA R s=>s.heap.get? l=some {cls:= .type "tuple",dict:=dd,data:= .seq items n,slots:=sl}/\s.heap.get? b=some {cls:= .type "tuple",dict:=sj,data:= .seq cc n2,slots:=tO}/\
    Zg A.in1 s items.toList cc.toList ds es/\R (.ok (.ret (.bool (!D.dc ds es)))) s):=
 .of_wp λprog w A R s h=>by
  obtain⟨hp,g,d,tk,os⟩:=s;obtain⟨hl,hb,KA,h⟩:=h;have f2:=AutoSeq1.sub_tuple_tuple
  wp_walk using wpAny_loadPart' hl,wpAny_loadPart' hb,wpAny_forIn_list _ (λrest b s'=>b.1=none/\s'=⟨hp,g,d,tk,os⟩/\∃(vs ws:List Value) (lZ eY:List D),rest=vs.zip ws/\
   Zg A.in1 ⟨hp,g,d,tk,os⟩ vs ws lZ eY/\lZ.length + cc.size=eY.length + items.size/\R (.ok (.ret (.bool (!D.dc lZ eY)))) ⟨hp,g,d,tk,os⟩) _
  case turn=>
   rintro⟨y,x⟩ rest b s' ⟨lh,rfl,vs,ws,lZ,eY,hz,sN,hlen,hR⟩;cases sN with
   | nil _=>rw[List.zip_nil_left] at hz;cases hz
   | pB _=>rw[List.zip_nil_right] at hz;cases hz
   | cons he hl w6=>
    rename_i v wv d0 e0 vo ws' ds'' es'';rw[List.zip_cons_cons] at hz;injection hz with hyx wX;injection hyx with hy hx;subst hy hx;rw[D.c7] at hR;simp only[Px] at hlen;refine O9 (he prog w _ _ ?_);by_cases hde:d0=e0
    ·rw[if_pos hde] at hR;rw[(D.cq d0 e0).mpr hde]
     wp_walk
     exact⟨rfl,rfl,_,_,_,_,wX,w6,by lia,hR⟩
    ·rw[if_neg hde] at hR;have JH:D.jH d0 e0=false:=by rw[D.jI];exact PJ hde
     rw[JH];have Kq:=hl hde prog w
     wp_walk using Kq
     exact⟨_,rfl,by simpa using hR⟩
  case fin=>
   rintro⟨b1,b2⟩ s' ⟨lh,rfl,vs,ws,lZ,eY,hz,sN,hlen,hR⟩;simp only at lh;subst lh;have hv:(!D.dc lZ eY)=decide (cc.size<=items.size):=by
    cases sN with
    | nil _=>
     cases eY with
     | nil=>simp only[List.length_nil] at hlen;rw[D.dc];exact(PN (by lia)).symm
     | cons c u=>simp only[List.length_nil,Px] at hlen;rw[D.dc];exact(PJ (by lia)).symm
    | pB _=>
     cases lZ with
     | nil=>simp only[List.length_nil] at hlen;rw[D.dc];exact(PN (by lia)).symm
     | cons c u=>simp only[List.length_nil,Px] at hlen;rw[D.dc];exact(PN (by lia)).symm
    | cons he hl w6=>rw[List.zip_cons_cons] at hz;cases hz
   rw[hv] at hR
   wp_walk
   exact⟨_,rfl,by simpa [Builtin.Tuple.tupleCompareSizes] using hR⟩
  case h=>exact⟨rfl,rfl,items.toList,cc.toList,ds,es,rfl,KA,by lia,h⟩
end
section
variable {P:Program} {w:World} {H:Hp} {s:Shared}
theorem BN (hok:eX P w H s.heap) {A:Around} {n:Nat} (hu:A.units + n < cLine) (ih:∀(d e:D) (x y:V) (u v:Value),D.dep d<=n->D.cG d e->DV H x d->DV H y e->RelV x u->RelV y v->BP A s u v (!D.lt d e)):
  ∀{xs ys:List V} {us vs:List Value} {ds es:List D},D.dh ds<=n->D.eI ds es->a9 H xs ds->a9 H ys es->au xs us->au ys vs->Zg A s us vs ds es
 | [],ys,us,vs,[],es,_,_,_,h2,r1,r2=>by cases r1;exact .nil (by rw[<-r2.length,h2.length])
 | x::xs,[],us,vs,ds,[],_,_,h1,_,r1,r2=>by cases r2;exact .pB (by rw[<-r1.length,h1.length])
 | [],_,_,_,_::_,_,_,_,h,_,_,_=>by unfold a9 at h;exact h.elim
 | _::_,_,_,_,[],_,_,_,h,_,_,_=>by unfold a9 at h;exact h.elim
 | _::_,[],_,_,_::_,_::_,_,_,_,h,_,_=>by unfold a9 at h;exact h.elim
 | _::_,_::_,_,_,_::_,[],_,_,_,h,_,_=>by unfold a9 at h;exact h.elim
 | x::xs,y::ys,us,vs,d::ds,e::es,hd,hl,h1,h2,r1,r2=>by
  unfold a9 at h1 h2;unfold D.eI at hl;unfold D.dh at hd;cases r1 with
  | cons r1 t1=>
   cases r2 with
   | cons r2 t2=>exact .cons (eq_data hok n d e x y _ _ A (by lia) hu h1.1 h2.1 r1 r2) (λ_=>ih d e x y _ _ (by lia) hl.1 h1.1 h2.1 r1 r2) (BN hok hu ih (by lia) hl.2 h1.2 h2.2 t1 t2)
theorem zA (hok:eX P w H s.heap):∀(n:Nat) (d e:D) (x y:V) (u v:Value) (A:Around),D.dep d<=n->A.units + n < cLine->D.cG d e->DV H x d->DV H y e->RelV x u->RelV y v->BP A s u v (!D.lt d e):=by
 intro n
 induction n with
 | zero=>
  intro d e x y u v A hd hu hl hx hy rx ry;cases d with
  | int i=>
   have:=hx.int_inv;subst this;obtain⟨t,rfl⟩:=rx;cases e with
   | int j=>have:=hy.int_inv;subst this;obtain⟨t',rfl⟩:=ry;intro prog wd E Q q;exact(PyProof.Rows.ge_int (by unfold D.lt at q;rw[show decide (j<=i)= !decide (i < j) from by by_cases h:i < j <;> simp[h] <;> lia];exact q):wpAny (model prog wd) A (compareOp .GtE (.int i t) (.int j t')) Q E s)
   | str j=>unfold D.cG at hl;exact hl.elim
   | tup j=>unfold D.cG at hl;exact hl.elim
  | str i=>
   have:=hx.str_inv;subst this;obtain⟨t,rfl⟩:=rx;cases e with
   | int j=>unfold D.cG at hl;exact hl.elim
   | str j=>have:=hy.str_inv;subst this;obtain⟨t',rfl⟩:=ry;intro prog wd E Q q;exact(PySem.P.ge_str q:wpAny (model prog wd) A (compareOp .GtE (.str i t) (.str j t')) Q E s)
   | tup j=>unfold D.cG at hl;exact hl.elim
  | tup ds=>unfold D.dep at hd;lia
 | succ n ih=>
  intro d e x y u v A hd hu hl hx hy rx ry;cases d with
  | int i=>exact ih (.int i) e x y u v A (by unfold D.dep;lia) (by lia) hl hx hy rx ry
  | str i=>exact ih (.str i) e x y u v A (by unfold D.dep;lia) (by lia) hl hx hy rx ry
  | tup ds=>
   obtain⟨a,xs,q,e1,e2⟩:=hx.ab;subst q;cases rx;cases e with
   | int j=>unfold D.cG at hl;exact hl.elim
   | str j=>unfold D.cG at hl;exact hl.elim
   | tup es=>
    obtain⟨b,ys,q,f1,f2⟩:=hy.ab;subst q;cases ry;obtain⟨its,r1,ht⟩:=ar hok e1;obtain⟨aJ,r2,bZ⟩:=ar hok f1;have l1:its.toArray.size=ds.length:=by rw[Pe,<-r1.length,e2.length]
    have l2:aJ.toArray.size=es.length:=by rw[Pe,<-r2.length,f2.length]
    have qf:D.dh ds<=n:=by unfold D.dep at hd;lia
    have CD:D.eI ds es:=by unfold D.cG at hl;exact hl
    have zz:Zg A.in1 s its aJ ds es:=BN hok (n:=n) (by show A.units + 1 + n < cLine;lia) (λd e x y u v hd2 eF w5 hy2 rx2 ry2=>ih d e x y u v A.in1 hd2 (by show A.units + 1 + n < cLine;lia) eF w5 hy2 rx2 ry2) qf CD e2 f2 r1 r2;intro prog wd E Q q;obtain⟨⟨cls,dd,data,sl⟩,ho,hc,k,vm⟩:=id ht;obtain⟨⟨Cj,sj,data2,tO⟩,oY,qe,k2,lD⟩:=id bZ;simp only at hc vm qe lD;subst hc vm qe lD;have q':Q (.bool (!D.dc ds es)) s:=by have z:=q;unfold D.lt at z;exact z
    exact richCompare_meets_room (op:= .GtE) ⟨_,ho,rfl⟩ ⟨_,oY,rfl⟩ PySem.F.slot_tuple_ge PySem.F.entry_tuple_ge (PySem.F.args_tuple_ge_2 _ _) (lM a b its.toArray aJ.toArray k k2 dd sj sl tO ds es l1 l2)
     ⟨ho,oY,zz,show Value.bool (!D.dc ds es)≠Value.notImplemented/\Q (.bool (!D.dc ds es)) s from⟨(λx=>nomatch x),q'⟩⟩ (by lia)
end
end Mx
end
section
namespace HT
open PySem PyProof.Rows
section
variable {prog:Program} {w:World} {A:Around} {E:Value->Shared->Prop} {s:Shared}
theorem gz {t sl:Addr} {items:Array Value} {vl vu:Value} {lo hi:Option Int} {Q:Value->Shared->Prop} (ht:IsTup s.heap t items) (hs:s.heap.IsSliceOf sl vl vu .none) (pl:IsPart vl lo) (pu:IsPart vu hi)
  (hw:bR items.size 0 lo=0/\bR items.size items.size hi=items.size) (h:Q (.ref t) s) (l9:items.size<=sizeLine):wpAny (model prog w) A (getItem (.ref t) (.ref sl)) Q E s:=by
 obtain⟨os,CJ,zF,F5⟩:=id hs;have Kb:s.TypeIs (.ref sl) "slice":=⟨os,CJ,zF⟩;unfold getItem
 try with_reducible refine wpAny_holding ?_
 first | refine O9 (Pc ?_) | skip
 refine O9 (wpAny_sequenceKey ht.typeIs (by decide) ?_);refine O9 (wpAny_callSpecial?_slot (name:=Str.ofString "__getitem__") ht.typeIs PyProof.Rows.slot_tuple_getitem
  (wpAny_call_entry PyProof.Rows.slot_tuple_getitem ht.typeIs entry_tuple_getitem ?_ (args_tuple_getitem _ _)))
 show wpAny _ _ (Builtin.Tuple.tupleItemsOf (.ref t) >>=_) _ _ s;refine O9 (tupleItemsOf_ ht ?_);refine O9 (wpAny_typeOf Kb ?_);rw[if_pos (by decide)];refine O9 (eR hs pl pu ?_);show wpAny _ _ (if (((bR items.size 0 lo:Nat):Int)==0&&(1:Int)==1&&(bR items.size items.size hi - bR items.size 0 lo)==items.size)=true then _ else _) _ _ s;rw[if_pos (by rw[hw.1,hw.2];simp)];refine O9 (O9 (wpAny_typeOf ht.typeIs (Pc ?_)));rw[if_pos (by decide)];refine O9 (wpAny_rule ?_);exact Pc ⟨_,rfl,Pc h⟩
end
end HT
namespace Rx
open PySem PySem.W PySem.Spec PyProof.Rows L2 PySem.SeqAt
noncomputable abbrev N0:Addr->Prop:=λ_=>False
noncomputable def fw (K:Frag) (A:Addr->Prop) (H:Hp) (v:V):Dt->Prop
 | .lst ds=>∃a xs,v= .ref a/\H a=some (.lst xs)/\aq K A H xs ds
 | d=>RV K A H v d
noncomputable def mM (K:Frag) (A:Addr->Prop) (H:Hp):List V->List Dt->Prop
 | [],[]=>True
 | x::xs,d::ds=>fw K A H x d/\mM K A H xs ds
 | _,_=>False
section
variable {K:Frag} {A B:Addr->Prop} {H H':Hp}
theorem RV.one {v d} (h:RV K A H v d):fw K A H v d:=by
 cases d with
 | lst ds=>obtain⟨a,xs,h1,h2,_,h3⟩:=h.lst_inv;exact⟨a,xs,h1,h2,h3⟩
 | _=>exact h
theorem fw.ext {X:Addr->Prop} {v d} (h:fw K A H v d) (e:ba X H H') (hX:∀b,X b->A b) (hv:∀ds a,d= .lst ds->v= .ref a->¬X a):fw K A H' v d:=by
 cases d with
 | lst ds=>obtain⟨a,xs,h1,h2,h3⟩:=h;exact⟨a,xs,h1,e.kp _ _ h2 (hv ds a rfl h1),h3.mono e hX λ_ z=>z⟩
 | _=>exact RV.mono e hX (λ_ z=>z) h
theorem aq.ones:∀{vs ds},aq K A H vs ds->mM K A H vs ds
 | [],[],_=>trivial
 | [],_::_,h=>by unfold aq at h;exact h.elim
 | _::_,[],h=>by unfold aq at h;exact h.elim
 | _::_,_::_,h=>by unfold aq at h;exact⟨h.1.one,h.2.ones⟩
end
structure PR (K:Frag) (fr:Bool) (xs:List V) (ds:List Dt) (H:Hp) (d:Dt) (v:V) (H':Hp):Prop where
 same:bT H H'
 val:∀A:Addr->Prop,(∀a,A a->∃o,H a=some o)->mM K A H xs ds->RV K A H' v d
 jB:fr=true->∀es,d= .lst es->∃a ys,v= .ref a/\H a=none/\H' a=some (.lst ys)/\∀A:Addr->Prop,(∀a,A a->∃o,H a=some o)->mM K A H xs ds->aq K (λb=>A b\/b=a) H' ys es
noncomputable def rP (K:Frag) (fr:Bool) (f:List Dt->R Dt):List V->Hp->VK->Prop:=λxs H Q=>∃ds d,aq K N0 H xs ds/\f ds= .ok d/\∀v H',PR K fr xs ds H d v H'->Q v H'
section
variable {K:Frag} {fr:Bool} {xs:List V} {ds:List Dt} {H H':Hp} {d:Dt} {v:V}
noncomputable def ou:Dt->Bool
 | .aT | .bl _ | .int _ | .str _=>true
 | _=>false
noncomputable def qi:Dt->V
 | .bl b=> .bl b
 | .int b=> .int b
 | .str b=> .str b
 | _=> .aT
theorem pT {A:Addr->Prop} (h:ou d=true):RV K A H (qi d) d:=by
 cases d with
 | aT=>exact RV.gU
 | bl b=>exact RV.pA
 | int b=>exact RV.df
 | str b=>exact RV.jc
 | _=>simp[ou] at h
theorem PR.sc (h:ou d=true):PR K fr xs ds H d (qi d) H:=⟨bT.refl _,λA _ _=>pT h,λ_ es e=>by subst e;simp[ou] at h⟩
theorem PR.qT {p:Addr} {ys:List V} {es:List Dt} (hp:H p=none) (h:∀A:Addr->Prop,mM K A H xs ds->aq K A H ys es):PR K fr xs ds H (.lst es) (.ref p) (upd H p (.lst ys)):=by
 have s:=Mx.dG hp (.lst ys);refine⟨s,λA hA q=>RV.fj aP (λz=>?_) ((h A q).same s),λ_ eY e=>?_⟩
 ·obtain⟨o,e⟩:=hA p z;rw[hp] at e;cases e
 ·cases e;exact⟨p,ys,rfl,hp,aP,λA hA q=>((h A q).avoid hp).same s⟩
theorem PR.xE {p:Addr} {ys:List V} {es:List Dt} (hp:H p=none) (h:∀A:Addr->Prop,mM K A H xs ds->aq K A H ys es):PR K fr xs ds H (.tup es) (.ref p) (upd H p (.tup ys)):=by have s:=Mx.dG hp (.tup ys);exact⟨s,λA hA q=>RV.d8 aP ((h A q).same s),λ_ eY e=>by cases e⟩
theorem PR.pf {p:Addr} {ys:List V} {es:List Dt} (hp:H p=some (.tup ys)) (h:∀A:Addr->Prop,mM K A H xs ds->aq K A H ys es):PR K fr xs ds H (.tup es) (.ref p) H:=
 ⟨bT.refl _,λA hA q=>RV.d8 hp (h A q),λ_ eY e=>by cases e⟩
theorem eJ:lim<=sizeLine:=by rw[sizeLine_eq];decide
theorem br {b:Bool} {α:Type} {r:R α} {a:α} (h:ae b r= .ok a):b=true/\r= .ok a:=by
 cases b with
 | true=>exact⟨rfl,h⟩
 | false=>cases h
theorem fw.aO {A:Addr->Prop} {a:Addr} {xs:List V} {es:List Dt} (h:fw K A H (.ref a) (.lst es)) (e:H a=some (.lst xs)):aq K A H xs es:=by obtain⟨b,ys,q,h1,h2⟩:=h;cases q;rw[e] at h1;cases h1;exact h2
theorem fw.ar {A:Addr->Prop} {a:Addr} {xs:List V} {es:List Dt} (h:fw K A H (.ref a) (.tup es)) (e:H a=some (.tup xs)):aq K A H xs es:=by obtain⟨b,ys,q,h1,h2⟩:=RV.ab h;cases q;rw[e] at h1;cases h1;exact h2
end
section
variable {X:Cx}
noncomputable def r2 (K:Frag) (f:Dt->Dt->R Dt):R2:=λx y H Q=>∃d e z,RV K N0 H x d/\RV K N0 H y e/\f d e= .ok z/\∀v H',PR K true [x,y] [d,e] H z v H'->Q v H'
theorem mz {i:Int} (h:i.natAbs < 2 ^ 64): -(2 ^ 64) < i/\i < 2 ^ 64:=by lia
theorem Dr:j3 X (binaryOp .FloorDiv) (rI (λ_ j=>0 < j/\j.natAbs.log2 < 9000) λi j=> .int (i / j)):=IZ λi j _ _ _ _ _ hc q=>by have h1:(0:Int) < j:=hc.1;exact floordiv_int (by lia) (by rw[Int.fdiv_eq_ediv_of_nonneg i (by lia)];exact q) (.inl (PyProof.noPylong_of_log2 hc.2))
theorem Do (o:Operator):j3 X (binaryOp o) (r2 X.K (lF o)):=by
 intro pins s σ H x y v u Q I rx ry h;obtain⟨d,e,z,hx,hy,he,q⟩:=h;have IM:=eJ;unfold lF at he;split at he
 ·split at he
  ·rename_i i j;cases he;exact Dm pins s σ H x y v u Q I rx ry ⟨i,j,hx.int_inv,hy.int_inv,q _ _ (PR.sc (d:= .int _) rfl)⟩
  ·rename_i i j;obtain⟨g,he⟩:=br he;cases he;obtain⟨a,xs,rfl,h1,_,h2⟩:=hx.lst_inv;obtain⟨b,ys,rfl,k1,_,k2⟩:=hy.lst_inv;refine Dp pins s σ H _ _ v u Q I rx ry ⟨a,b,xs,ys,rfl,rfl,h1,k1,?_,λp hp=>q _ _ (PR.qT hp λA w=>?_)⟩
   ·rw[h2.length,k2.length];exact Pp (Pf g) IM
   ·exact(fw.aO w.1 h1).append (fw.aO w.2.1 k1)
  ·rename_i i j;obtain⟨g,he⟩:=br he;cases he;obtain⟨a,xs,rfl,h1,h2⟩:=hx.ab;obtain⟨b,ys,rfl,k1,k2⟩:=hy.ab;by_cases hd:xs=[]
   ·subst hd;cases h2.dE;cases rx;cases ry;obtain⟨its,r1,p1,_⟩:=I.tuple (e9.of h1);obtain⟨aJ,r2,p2,_⟩:=I.tuple (e9.of k1);cases r1;obtain⟨⟨cls,dd,data,sl⟩,ho,hc,n,vm⟩:=p1;obtain⟨⟨Cj,sj,data2,tO⟩,oY,qe,n2,lD⟩:=p2;simp only at hc vm qe lD;subst hc vm qe lD;exact concat_meets ⟨_,ho,rfl⟩ ⟨_,oY,rfl⟩ noFill_tuple_add seq_tuple_add PySem.F.slot_tuple_add PySem.F.entry_tuple_add (PySem.F.args_tuple_add_2 _ _)
     (Mx.tuple_addW0 a b _ _ n n2 dd sj sl tO rfl) ⟨ho,oY,⟨.ref b,H,I,rfl,q _ _ (PR.pf k1 λA w=>fw.ar w.2.1 k1)⟩⟩
   ·refine Al pins s σ H (.ref a) (.ref b) v u Q I rx ry ⟨a,b,xs,ys,rfl,rfl,e9.of h1,e9.of k1,hd,?_,λe=>?_,λe p hp=>?_⟩
    ·rw[h2.length,k2.length];exact Pp (Pf g) IM
    ·subst e;cases k2.dE;rw[P6] at q;exact q _ _ (PR.pf h1 λA w=>fw.ar w.1 h1)
    ·exact q _ _ (PR.xE hp λA w=>(fw.ar w.1 h1).append (fw.ar w.2.1 k1))
  ·cases he
 ·split at he
  ·rename_i i j;cases he;exact Dw pins s σ H x y v u Q I rx ry ⟨i,j,hx.int_inv,hy.int_inv,q _ _ (PR.sc (d:= .int _) rfl)⟩
  ·cases he
 ·split at he
  ·rename_i i j;obtain⟨g,he⟩:=br he;cases he;refine Dv pins s σ H x y v u Q I rx ry ⟨i,j,hx.int_inv,hy.int_inv,?_,q _ _ (PR.sc (d:= .int _) rfl)⟩;rw[P7] at g;rcases g with g | g
   ·exact .inl (mz (Pf g))
   ·exact .inr (mz (Pf g))
  ·rename_i i j;obtain⟨g,he⟩:=br he;cases he;obtain⟨a,xs,rfl,h1,h2⟩:=hx.ab;rw[Pd] at g;have g1:=Pf g.1;have g2:=Pf g.2;have d6:lim=1000000:=rfl;refine Mx.An pins s σ H _ _ v u Q I rx ry ⟨a,j,xs,rfl,hy.int_inv,h1,by lia,by lia,?_,λhc=>?_,λp hp=>q _ _ (PR.xE hp λA w=>(fw.ar w.1 h1).rep _)⟩
   ·rw[h2.length];exact Pp g2 IM
   ·refine q _ _ (PR.pf h1 λA w=>?_);have:=fw.ar w.1 h1;rcases hc with rfl | rfl
    ·cases this.dE;have e:(List.replicate j.toNat ([]:List Dt)).flatten=[]:=by simp
     rw[e];exact aq.nil
    ·have e:(List.replicate (1:Int).toNat i).flatten=i:=by simp
     rw[e];exact this
  ·cases he
 ·split at he
  ·rename_i i j;obtain⟨g,he⟩:=br he;cases he;rw[Pd] at g;exact Dr pins s σ H x y v u Q I rx ry ⟨i,j,hx.int_inv,hy.int_inv,⟨Pf g.1,Pf g.2⟩,q _ _ (PR.sc (d:= .int _) rfl)⟩
  ·cases he
 ·split at he
  ·rename_i i j;obtain⟨g,he⟩:=br he;cases he;exact Du pins s σ H x y v u Q I rx ry ⟨i,j,hx.int_inv,hy.int_inv,Pf g,q _ _ (PR.sc (d:= .int _) rfl)⟩
  ·cases he
 ·cases he
noncomputable def rC (K:Frag) (o:CmpOp):R2:=λx y H Q=>∃d e z,RV K N0 H x d/\RV K N0 H y e/\cZ o d e= .ok z/\Q (.bl z) H
theorem ze {pins:List (Addr×Obj)} {s:Shared} {σ:L2.St} {H:Hp} {K:Frag} (I:Inv X pins σ H s) (hu:X.A.units + 150 < cLine) {xs:List V} {ds:List Dt} {its:List Value} {x:V} {u:Value} {d:Dt} (r:au xs its) (g:aq K N0 H xs ds) (rx:RelV x u) (hx:RV K N0 H x d) (p1:pl d=true) (p2:lH ds=true) (hd:oK ds<=100):
  ∃e:Value->Bool,(∀y,y∈its.toArray->EqAt X.A.in1 s y u (e y))/\its.toArray.any e=inD d ds:=by
 classical
 let e:Value->Bool:=λy=>decide (∃(j:Nat) (d':Dt),its[j]?=some y/\ds[j]?=some d'/\du d' d=true)
 have key:∀(j:Nat) (y:Value) (d':Dt),its[j]?=some y->ds[j]?=some d'->e y=du d' d:=λj y d' h1 h2=>by
  rw[Bool.eq_iff_iff];constructor
  ·intro h;obtain⟨j',OF,k1,k2,k3⟩:=Pf h;have hj:j < xs.length:=by rw[r.length];exact(Pg.mp h1).1
   have uH:j' < xs.length:=by rw[r.length];exact(Pg.mp k1).1
   obtain⟨u1,a1,a2⟩:=r.get (i:=j) (x:=xs[j]) (by simp[hj]);obtain⟨u2,b1,b2⟩:=r.get (i:=j') (x:=xs[j']) (by simp[uH]);rw[h1] at a1;cases a1;rw[k1] at b1;cases b1;have ex:=RelV.inj a2 b2;obtain⟨d1,c1,c2⟩:=g.get (i:=j) (x:=xs[j]) (by simp[hj]);obtain⟨d2,e1,e2⟩:=g.get (i:=j') (x:=xs[j']) (by simp[uH]);rw[h2] at c1;cases c1;rw[k2] at e1;cases e1;rw[<-ex] at e2;rw[RV.inj c2 e2 (d9 p2 h2) (d9 p2 k2)];exact k3
  ·intro h;exact PN ⟨j,d',h1,h2,h⟩
 refine⟨e,λy hy=>?_,?_⟩
 ·obtain⟨j,hj⟩:=List.mem_iff_getElem?.mp (by simpa using hy:y∈its);have Me:j < xs.length:=by rw[r.length];exact(Pg.mp hj).1
  obtain⟨d',h1,h2⟩:=g.get (i:=j) (x:=xs[j]) (by simp[Me]);obtain⟨u1,a1,a2⟩:=r.get (i:=j) (x:=xs[j]) (by simp[Me]);rw[hj] at a1;cases a1;rw[key j y d' hj h1];exact Bh I.hok 100 d' d xs[j] x y u X.A.in1 (Pp (kc h1) hd) (d9 p2 h1) p1 (by show X.A.units + 1 + 100 < cLine;lia) h2 hx a2 rx
 ·rw[List.any_toArray];unfold inD;have hlen:its.length=ds.length:=by rw[<-r.length,g.length]
  clear_value e
  clear r g p2 hd
  induction its generalizing ds with
  | nil=>
   cases ds with
   | nil=>rfl
   | cons=>simp at hlen
  | cons y ys ih=>
   cases ds with
   | nil=>simp at hlen
   | cons d' lZ=>rw[List.any_cons,List.any_cons,key 0 y d' rfl rfl,ih (λj y d' h1 h2=>key (j + 1) y d' (by simpa using h1) (by simpa using h2)) (by simpa using hlen)]
mutual
theorem tf:∀{d e:Mx.D},uN d e=true->Mx.D.cG d e
 | .int _,.int _,_=>by unfold Mx.D.cG;trivial
 | .str _,.str _,_=>by unfold Mx.D.cG;trivial
 | .tup a,.tup b,h=>by unfold Mx.D.cG;exact jb (by simpa [uN] using h)
 | .int _,.str _,h=>by simp[uN] at h
 | .int _,.tup _,h=>by simp[uN] at h
 | .str _,.int _,h=>by simp[uN] at h
 | .str _,.tup _,h=>by simp[uN] at h
 | .tup _,.int _,h=>by simp[uN] at h
 | .tup _,.str _,h=>by simp[uN] at h
theorem jb:∀{d e:List Mx.D},lE d e=true->Mx.D.eI d e
 | [],_,_=>by unfold Mx.D.eI;trivial
 | _::_,[],_=>by unfold Mx.D.eI;trivial
 | x::xs,y::ys,h=>by simp only[lE,Pd] at h;unfold Mx.D.eI;exact⟨tf h.1,jb h.2⟩
end
theorem xI (o:CmpOp) (hu:X.A.units + 150 < cLine):j3 X (compareOp o) (rC X.K o):=by
 intro pins s σ H x y v u Q I rx ry h;obtain⟨d,e,z,hx,hy,he,q⟩:=h;unfold cZ at he;split at he
 ·obtain⟨g,he⟩:=br he;cases he;unfold oM at g;rw[Pd,Pd] at g;exact He I.hok 100 d e x y v u X.A (Nat.le_succ_of_le (Pf g.2)) g.1.1 g.1.2 (by lia) hx hy rx ry X.prog X.w X.xe (EP X pins σ Q) ⟨.bl _,H,I,rfl,q⟩
 ·obtain⟨g,he⟩:=br he;cases he;unfold oM at g;rw[Pd,Pd] at g;exact AK I.hok 100 d e x y v u X.A (Nat.le_succ_of_le (Pf g.2)) g.1.1 g.1.2 (by lia) hx hy rx ry X.prog X.w X.xe (EP X pins σ Q) ⟨.bl _,H,I,rfl,q⟩
 ·rename_i i j;cases he;exact GZ pins s σ H x y v u Q I rx ry ⟨i,j,hx.int_inv,hy.int_inv,q⟩
 ·rename_i i j;cases he;exact GY pins s σ H x y v u Q I rx ry ⟨i,j,hx.int_inv,hy.int_inv,q⟩
 ·rename_i i j;cases he;exact GW pins s σ H x y v u Q I rx ry ⟨i,j,hx.int_inv,hy.int_inv,q⟩
 ·rename_i i j;cases he;exact GV pins s σ H x y v u Q I rx ry ⟨i,j,hx.int_inv,hy.int_inv,q⟩
 ·split at he
  ·rename_i xs ys h1 h2;obtain⟨g,he⟩:=br he;cases he;rw[Pd] at g;rw[iQ h1] at hx;rw[iQ h2] at hy;exact Mx.zA I.hok 101 (.tup xs) (.tup ys) x y v u X.A (by have:=Pf g.2;unfold Mx.D.dep;lia) (by lia) (by unfold Mx.D.cG;exact jb g.1) (RV.dv (m:= .tup xs) (by rw[ofD];exact hx)) (RV.dv (m:= .tup ys) (by rw[ofD];exact hy)) rx ry X.prog X.w X.xe (EP X pins σ Q) ⟨.bl _,H,I,rfl,by unfold Mx.D.lt at *;exact q⟩
  ·cases he
 ·cases he;refine Ds pins s σ H x y v u Q I rx ry ⟨hy.az,?_⟩;cases d with
  | aT=>rw[hx.az];exact q
  | bl b=>rw[hx.ax];exact q
  | int b=>rw[hx.int_inv];exact q
  | str b=>rw[hx.str_inv];exact q
  | tup b=>obtain⟨a,xs,rfl,_⟩:=hx.ab;exact q
  | lst b=>obtain⟨a,xs,rfl,_⟩:=hx.lst_inv;exact q
  | dw b=>obtain⟨a,rfl,_⟩:=hx.dX;exact q
  | f9=>exact hx.gd.elim
  | obj=>obtain⟨a,xs,rfl,_⟩:=hx.iP;exact q
  | exc=>exact hx.gf.elim
 ·cases he;refine Am pins s σ H x y v u Q I rx ry ⟨hy.az,?_⟩;cases d with
  | aT=>rw[hx.az];exact q
  | bl b=>rw[hx.ax];exact q
  | int b=>rw[hx.int_inv];exact q
  | str b=>rw[hx.str_inv];exact q
  | tup b=>obtain⟨a,xs,rfl,_⟩:=hx.ab;exact q
  | lst b=>obtain⟨a,xs,rfl,_⟩:=hx.lst_inv;exact q
  | dw b=>obtain⟨a,rfl,_⟩:=hx.dX;exact q
  | f9=>exact hx.gd.elim
  | obj=>obtain⟨a,xs,rfl,_⟩:=hx.iP;exact q
  | exc=>exact hx.gf.elim
 ·obtain⟨g,he⟩:=br he;cases he;rw[Pd,Pd] at g;obtain⟨a,xs,rfl,h1,_,h2⟩:=hy.lst_inv;cases ry;obtain⟨its,r,t⟩:=aO I.hok h1;obtain⟨e,k1,k2⟩:=ze I hu r h2 rx hx g.1.1 g.1.2 (Pf g.2);exact notIn_listAt e t k1 ⟨.bl _,H,I,by rw[k2];rfl,q⟩
 ·cases he
theorem qp {ds:List Dt} {i:Int} {d:Dt} (h:ua ds i= .ok d):lQ ds i=some d:=by
 unfold ua at h;split at h
 ·cases h;assumption
 ·cases h
theorem jG {K:Frag} {A:Addr->Prop} {H:Hp} {xs:List V} {ds:List Dt} {i:Int} {d:Dt} (g:aq K A H xs ds) (h:lQ ds i=some d):∃v,lQ xs i=some v/\RV K A H v d:=by
 unfold lQ at h ⊢;rw[g.length];cases e:ot ds.length i with
 | none=>rw[e] at h;cases h
 | some j=>rw[e] at h;obtain⟨v,h1,h2⟩:=g.getD (i:=j) h;exact⟨v,h1,h2⟩
noncomputable def rX (K:Frag):R2:=λx y H Q=>∃d e z,RV K N0 H x d/\RV K N0 H y e/\cF d e= .ok z/\∀v,PR K false [x,y] [d,e] H z v H->Q v H
theorem CU:Im X (rX X.K):=by
 intro value slice pins s σ H x y v u Q I rx ry h hs;obtain⟨d,e,z,hx,hy,he,q⟩:=h;unfold cF at he;split at he
 ·rename_i ds i;obtain⟨a,xs,rfl,h1,_,h2⟩:=hx.lst_inv;have l8:=qp he;obtain⟨w,k1,k2⟩:=jG h2 l8;refine sV value slice pins s σ H _ y v u Q I rx ry ⟨a,xs,i,w,rfl,hy.int_inv,dB.of h1,k1,q w ⟨bT.refl _,λA _ q'=>?_,λz=>by cases z⟩⟩ hs;obtain⟨w',m1,m2⟩:=jG (fw.aO q'.1 h1) l8;rw[k1] at m1;cases m1;exact m2
 ·rename_i ds i;obtain⟨a,xs,rfl,h1,h2⟩:=hx.ab;have l8:=qp he;obtain⟨w,k1,k2⟩:=jG h2 l8;refine CV value slice pins s σ H _ y v u Q I rx ry ⟨a,xs,i,w,rfl,hy.int_inv,e9.of h1,k1,q w ⟨bT.refl _,λA _ q'=>?_,λz=>by cases z⟩⟩ hs;obtain⟨w',m1,m2⟩:=jG (fw.ar q'.1 h1) l8;rw[k1] at m1;cases m1;exact m2
 ·rename_i ns i;obtain⟨a,rfl,h1⟩:=hx.jg;have l8:=qp he;have e1:lQ ((ns.map V.int)) i=some (qi z)/\ou z=true:=by
   unfold lQ at l8 ⊢;rw[Pn] at l8 ⊢;cases e:ot ns.length i with
   | none=>rw[e] at l8;cases l8
   | some j=>
    rw[e] at l8;simp only[Option.bind_some,Py] at l8 ⊢;cases en:ns[j]? with
    | none=>rw[en] at l8;cases l8
    | some k=>rw[en] at l8;simp at l8;subst l8;exact⟨rfl,rfl⟩
  exact sV value slice pins s σ H _ y v u Q I rx ry ⟨a,_,i,_,rfl,hy.int_inv,h1,e1.1,q _ (PR.sc e1.2)⟩ hs
 ·cases he
noncomputable def rS (K:Frag):V->Option Int->Option Int->Hp->VK->Prop:=λx lo hi H Q=>∃d z,RV K N0 H x d/\fq d lo hi= .ok z/\∀v H',PR K true [x] [d] H z v H'->Q v H'
theorem aq.cut {K:Frag} {A:Addr->Prop} {H:Hp} {xs:List V} {ds:List Dt} {lo hi:Option Int} (g:aq K A H xs ds):aq K A H (lA xs lo hi) (cutD ds lo hi):=by unfold lA cutD;rw[g.length];exact(g.drop _).take _
theorem qA {xs:List V} {lo hi:Option Int} (h:HT.bR xs.length 0 lo=0/\HT.bR xs.length xs.length hi=xs.length):lA xs lo hi=xs:=by unfold lA;rw[h.1,h.2];simp
theorem nP:E7 X (λx lo hi H Q=>∃a xs,x= .ref a/\H a=some (.tup xs)/\(HT.bR xs.length 0 lo=0/\HT.bR xs.length xs.length hi=xs.length)/\Q (.ref a) H):=by
 intro pins s σ H x v vl vu lo hi sl Q I rx hs pl pu h;obtain⟨a,xs,rfl,hx,hw,q⟩:=h;cases rx;obtain⟨its,r,ht,hz⟩:=I.tuple (e9.of hx);have hlen:its.toArray.size=xs.length:=by rw[Pe];exact r.length.symm
 refine⟨"tuple",_,PyProof.Rows.slot_tuple_getitem.lookup,ht.typeIs,?_⟩;refine HT.gz ht hs pl pu (by rw[hlen];exact hw) ⟨.ref a,H,I,rfl,q⟩ (by rw[hlen];exact hz)
theorem iE {K:Frag} {A:Addr->Prop} {H:Hp}:∀{ns:List Int},aq K A H (ns.map V.int) (ns.map Dt.int)
 | []=>aq.nil
 | _::_=>aq.cons RV.df iE
theorem yf:E7 X (rS X.K):=by
 intro pins s σ H x v vl vu lo hi sl Q I rx hs pl pu h;obtain⟨d,z,hx,he,q⟩:=h;unfold fq at he;split at he
 ·cases he;obtain⟨a,xs,rfl,h1,_,h2⟩:=hx.lst_inv;exact tP pins s σ H _ v vl vu lo hi sl Q I rx hs pl pu ⟨a,xs,rfl,dB.of h1,λp hp=>q _ _ (PR.qT hp λA w=>(fw.aO w.1 h1).cut)⟩
 ·cases he;obtain⟨a,rfl,h1⟩:=hx.jg;exact tP pins s σ H _ v vl vu lo hi sl Q I rx hs pl pu ⟨a,_,rfl,h1,λp hp=>q _ _ (PR.qT hp λA w=>aq.cut iE)⟩
 ·cases he;obtain⟨a,xs,rfl,h1,h2⟩:=hx.ab;by_cases hw:HT.bR xs.length 0 lo=0/\HT.bR xs.length xs.length hi=xs.length
  ·refine nP pins s σ H _ v vl vu lo hi sl Q I rx hs pl pu ⟨a,xs,rfl,h1,hw,q _ _ (PR.pf h1 λA w=>?_)⟩;have:=(fw.ar w.1 h1).cut (lo:=lo) (hi:=hi);rw[qA hw] at this;exact this
  ·exact D8 pins s σ H _ v vl vu lo hi sl Q I rx hs pl pu ⟨a,xs,rfl,e9.of h1,hw,λp hp=>q _ _ (PR.xE hp λA w=>(fw.ar w.1 h1).cut)⟩
 ·cases he
theorem iF {K:Frag} {A:Addr->Prop} {H:Hp}:∀{xs:List V} {ds:List Dt} {ns:List Int},aq K A H xs ds->intsOf ds=some ns->xs=ns.map V.int
 | xs,[],ns,g,h=>by simp[intsOf] at h;subst h;exact g.nil_inv
 | xs,d::ds,ns,g,h=>by
  obtain⟨x,r,rfl,g1,g2⟩:=g.cons_inv;cases d with
  | int i=>simp only[intsOf,Pu] at h;obtain⟨ms,h1,rfl⟩:=h;rw[iF g2 h1,g1.int_inv];rfl
  | _=>simp[intsOf] at h
theorem rW {K:Frag} {A:Addr->Prop} {H:Hp}:∀{xs:List V} {ds:List Dt} {ns:List Bool},aq K A H xs ds->iA ds=some ns->xs=ns.map V.bl
 | xs,[],ns,g,h=>by simp[iA] at h;subst h;exact g.nil_inv
 | xs,d::ds,ns,g,h=>by
  obtain⟨x,r,rfl,g1,g2⟩:=g.cons_inv;cases d with
  | bl i=>simp only[iA,Pu] at h;obtain⟨ms,h1,rfl⟩:=h;rw[rW g2 h1,g1.ax];rfl
  | _=>simp[iA] at h
theorem xA:∀(ns:List Int),ns≠[]->qQ ns∈ns/\∀a∈ns,qQ ns<=a
 | [],h=>absurd rfl h
 | [a],_=>by simp[qQ]
 | a::b::r,_=>by
  have ih:=xA (b::r) (by simp);have e:qQ (a::b::r)=min a (qQ (b::r)):=rfl;rw[e];constructor
  ·by_cases h:a<=qQ (b::r)
   ·rw[Int.min_eq_left h];exact Pk
   ·rw[Int.min_eq_right (by lia)];exact Ph _ ih.1
  ·intro c hc;rcases Pq.mp hc with e | hc
   ·rw[e];exact Int.min_le_left _ _
   ·exact Int.le_trans (Int.min_le_right _ _) (ih.2 c hc)
theorem cw:∀(ns:List Int),ns≠[]->de ns∈ns/\∀a∈ns,a<=de ns
 | [],h=>absurd rfl h
 | [a],_=>by simp[de]
 | a::b::r,_=>by
  have ih:=cw (b::r) (by simp);have e:de (a::b::r)=max a (de (b::r)):=rfl;rw[e];constructor
  ·by_cases h:a<=de (b::r)
   ·rw[Int.max_eq_right h];exact Ph _ ih.1
   ·rw[Int.max_eq_left (by lia)];exact Pk
  ·intro c hc;rcases Pq.mp hc with e | hc
   ·rw[e];exact Int.le_max_left _ _
   ·exact Int.le_trans (ih.2 c hc) (Int.le_max_right _ _)
theorem gL:∀{l l':List Mx.D},l.Perm l'->(l.Pairwise λa b=>Mx.D.lt b a=false)->(l'.Pairwise λa b=>Mx.D.lt b a=false)->l=l'
 | [],l',p,_,_=>(List.nil_perm.mp p).symm
 | a::t,l',p,h1,h2=>by
  cases l' with
  | nil=>exact absurd p.length_eq (by simp)
  | cons b t'=>
   rw[List.pairwise_cons] at h1 h2;have gP:a=b:=by
    have ha:a∈b::t':=p.mem_iff.mp Pk;have hb:b∈a::t:=p.mem_iff.mpr Pk;rcases Pq.mp ha with e | ha
    ·exact e
    rcases Pq.mp hb with e | hb
    ·exact e.symm
    exact Mx.D.fT a b (h2.1 a ha) (h1.1 b hb)
   subst gP;rw[gL (List.perm_cons a |>.mp p) h1.2 h2.2]
theorem kX (ms:List Mx.D):(dY ms).Perm ms/\(dY ms).Pairwise λa b=>Mx.D.lt b a=false:=by
 unfold dY;refine⟨List.mergeSort_perm ms td,?_⟩;have h:=List.pairwise_mergeSort (le:=td) (λa b c h1 h2=>by
  unfold td at *;simp only[Bool.not_eq_true'] at *;cases h3:Mx.D.lt c a with
  | false=>rfl
  | true=>
   rcases Mx.Fw.negTrans c b a h3 with h | h
   ·have h:Mx.D.lt c b=true:=h;rw[h2] at h;cases h
   ·have h:Mx.D.lt b a=true:=h;rw[h1] at h;cases h) (λa b=>by
  unfold td;cases h:Mx.D.lt b a with
  | false=>rfl
  | true=>
   cases h':Mx.D.lt a b with
   | false=>rfl
   | true=>have:=Mx.D.lt_trans a b a h' h;rw[Mx.D.lt_irrefl] at this;cases this) ms
 exact h.imp λq=>by unfold td at q;simpa using q
theorem yh {ms es:List Mx.D} (h:Mx.j4 ms es):es=dY ms:=gL (h.1.trans (kX ms).1.symm) h.2 (kX ms).2
theorem CW {k:Mx.SK} {d:Mx.D} (h:Gw k d=true):k.ok d:=by
 unfold Gw at h;split at h
 ·have e:=PF h;subst e;exact⟨_,_,rfl⟩
 ·have e:=PF h;subst e;exact⟨_,_,rfl⟩
 ·have e:=PF h;subst e;exact⟨_,_,rfl⟩
 ·have e:=PF h;subst e;exact⟨_,rfl⟩
 ·have e:=PF h;subst e;exact⟨_,rfl⟩
 ·cases h
theorem zw {ms:List Mx.D} (h:jz ms=true):Mx.jZ ms:=by
 unfold jz at h;rw[Pd,P7] at h;obtain⟨h1,h2⟩:=h;refine⟨Pf h1,λh3=>?_⟩;rcases h2 with h2 | h2
 ·have:=Pf h2
  lia
 ·rw[Pd,Pd] at h2;obtain⟨⟨h4,h5⟩,h6⟩:=h2;refine⟨Pf h4,?_,λd hd e he=>tf (PZ.mp (PZ.mp h6 d hd) e he)⟩;obtain⟨k,_,hk⟩:=P0.mp h5;exact⟨k,λd hd=>CW (PZ.mp hk d hd)⟩
theorem lG {α:Type} [DecidableEq α] {a b:List α} (ha:a.Nodup) (hb:b.Nodup) (h:∀x,x∈a↔x∈b):a.Perm b:=by rw[List.perm_iff_count];intro x;rw[ha.count,hb.count];simp[h x]
end
end Rx
end
section
namespace Rx
open PySem PySem.W PySem.Spec PyProof.Rows L2 PySem.SeqAt
section
variable {X:Cx}
noncomputable def EF:BI->Value
 | .len=> .builtin "len" | .abs=> .builtin "abs" | .min2=> .builtin "min" | .max2=> .builtin "max" | .sum=> .builtin "sum" | .any=> .builtin "any"
 | .maxL=> .builtin "max" | .sorted=> .builtin "sorted" | .tuple=> .type "tuple" | .list=> .type "list" | .dvm=> .builtin "divmod" | _=> .none
noncomputable def DU:BI->Bool
 | .isi _=>false | _=>true
theorem bC {K:Frag} {A:Addr->Prop} {H:Hp} {xs:List V} {d:Dt} (h:aq K A H xs [d]):∃x,xs=[x]/\RV K A H x d:=by obtain⟨x,r,rfl,h1,h2⟩:=h.cons_inv;rw[h2.nil_inv];exact⟨x,rfl,h1⟩
theorem oj {K:Frag} {A:Addr->Prop} {H:Hp} {xs:List V} {d e:Dt} (h:aq K A H xs [d,e]):∃x y,xs=[x,y]/\RV K A H x d/\RV K A H y e:=by obtain⟨x,r,rfl,h1,h2⟩:=h.cons_inv;obtain⟨y,rfl,h3⟩:=bC h2;exact⟨x,y,rfl,h1,h3⟩
theorem zp (b:BI) (hr:DU b=true) (hc:X.calm=true) (hu:X.A.units + 150 < cLine):cX X (EF b) (rP X.K true (d5 b)):=by
 intro pins s σ H xs us Q I r h;obtain⟨ds,d,hx,he,q⟩:=h;have IM:=eJ;unfold d5 at he;split at he
 ·split at he
  ·cases he;obtain⟨x,rfl,h1⟩:=bC hx;obtain⟨a,ys,rfl,h2,_,h3⟩:=h1.lst_inv;exact j7 pins s σ H _ us Q I r ⟨_,_,rfl,.inl ⟨ys,dB.of h2,rfl⟩,by rw[h3.length];exact q _ _ (PR.sc (d:= .int _) rfl)⟩
  ·cases he;obtain⟨x,rfl,h1⟩:=bC hx;obtain⟨a,ys,rfl,h2,h3⟩:=h1.ab;exact j7 pins s σ H _ us Q I r ⟨_,_,rfl,.inr ⟨ys,e9.of h2,rfl⟩,by rw[h3.length];exact q _ _ (PR.sc (d:= .int _) rfl)⟩
  ·cases he;obtain⟨x,rfl,h1⟩:=bC hx;obtain⟨a,rfl,h2⟩:=h1.jg;exact j7 pins s σ H _ us Q I r ⟨_,_,rfl,.inl ⟨_,h2,rfl⟩,by rw[Pn];exact q _ _ (PR.sc (d:= .int _) rfl)⟩
  ·cases he
 ·split at he
  ·cases he;obtain⟨x,rfl,h1⟩:=bC hx;exact vR pins s σ H _ us Q I r ⟨_,by rw[h1.int_inv],q _ _ (PR.sc (d:= .int _) rfl)⟩
  ·cases he
 ·split at he
  ·cases he;obtain⟨x,y,rfl,h1,h2⟩:=oj hx;exact um hc pins s σ H _ us Q I r ⟨_,_,by rw[h1.int_inv,h2.int_inv],q _ _ (PR.sc (d:= .int _) rfl)⟩
  ·cases he
 ·split at he
  ·cases he;obtain⟨x,y,rfl,h1,h2⟩:=oj hx;exact uh hc pins s σ H _ us Q I r ⟨_,_,by rw[h1.int_inv,h2.int_inv],q _ _ (PR.sc (d:= .int _) rfl)⟩
  ·cases he
 ·split at he
  ·split at he
   ·rename_i ns vn;cases he;obtain⟨x,rfl,h1⟩:=bC hx;obtain⟨a,ys,rfl,h2,_,h3⟩:=h1.lst_inv;rw[iF h3 vn] at h2;exact Mx.vU hc pins s σ H _ us Q I r ⟨a,ns,rfl,dB.of h2,q _ _ (PR.sc (d:= .int _) rfl)⟩
   ·cases he
  ·split at he
   ·rename_i ns vn;cases he;obtain⟨x,rfl,h1⟩:=bC hx;obtain⟨a,ys,rfl,h2,h3⟩:=h1.ab;rw[iF h3 vn] at h2;exact Mx.uo hc pins s σ H _ us Q I r ⟨a,ns,rfl,h2,q _ _ (PR.sc (d:= .int _) rfl)⟩
   ·cases he
  ·cases he
 ·split at he
  ·split at he
   ·rename_i ns vn;cases he;obtain⟨x,rfl,h1⟩:=bC hx;obtain⟨a,ys,rfl,h2,_,h3⟩:=h1.lst_inv;rw[rW h3 vn] at h2;exact Mx.vS hc pins s σ H _ us Q I r ⟨a,ns,rfl,dB.of h2,q _ _ (PR.sc (d:= .bl _) rfl)⟩
   ·cases he
  ·cases he
 ·split at he
  ·rename_i d0;split at he
   ·rename_i es hes;split at he
    ·rename_i ms hms;obtain⟨g,he⟩:=br he;cases he;have cs:=zw g;obtain⟨x,rfl,h1⟩:=bC hx;have Nd:=iQ hms;have go:∀{a:Addr} {ys:List V},x= .ref a->(dB X.K H a ys\/e9 X.K H a ys)->aq X.K N0 H ys es->wpAny (model X.prog X.w) X.A (call (EF .sorted) us) (EP X pins σ Q) X.xe s:=by intro a ys ex hs g;subst ex;rw[Nd] at g;refine Mx.mU hu pins s σ H _ us Q I r ⟨a,ys,ms,rfl,hs,g.ux,cs,λm zs qs hm hz hso=>q _ _ ?_⟩;have e:=yh hso;subst e;exact PR.qT hm λA _=>aq.qX hz
     unfold itemsOf at hes;split at hes
     ·cases hes;obtain⟨a,ys,e1,h2,_,h3⟩:=h1.lst_inv;exact go e1 (.inl (dB.of h2)) h3
     ·cases hes;obtain⟨a,ys,e1,h2,h3⟩:=h1.ab;exact go e1 (.inr (e9.of h2)) h3
     ·cases hes;obtain⟨a,e1,h2⟩:=h1.jg;exact go e1 (.inl h2) iE
     ·cases hes
    ·cases he
   ·cases he
  ·cases he
 ·split at he
  ·cases he;obtain⟨x,rfl,h1⟩:=bC hx;obtain⟨a,ys,rfl,h2,_,h3⟩:=h1.lst_inv;exact gD pins s σ H _ us Q I r ⟨a,ys,rfl,.inl ⟨dB.of h2,λl hl=>q _ _ (PR.xE hl λA w=>fw.aO w.1 h2)⟩⟩
  ·cases he;obtain⟨x,rfl,h1⟩:=bC hx;obtain⟨a,ys,rfl,h2,h3⟩:=h1.ab;exact gD pins s σ H _ us Q I r ⟨a,ys,rfl,.inr ⟨e9.of h2,q _ _ (PR.pf h2 λA w=>fw.ar w.1 h2)⟩⟩
  ·cases he
 ·split at he
  ·cases he;obtain⟨x,rfl,h1⟩:=bC hx;obtain⟨a,ys,rfl,h2,_,h3⟩:=h1.lst_inv;exact ff pins s σ H _ us Q I r ⟨a,ys,rfl,.inl (dB.of h2),λl hl=>q _ _ (PR.qT hl λA w=>fw.aO w.1 h2)⟩
  ·cases he;obtain⟨x,rfl,h1⟩:=bC hx;obtain⟨a,ys,rfl,h2,h3⟩:=h1.ab;exact ff pins s σ H _ us Q I r ⟨a,ys,rfl,.inr (e9.of h2),λl hl=>q _ _ (PR.qT hl λA w=>fw.ar w.1 h2)⟩
  ·cases he;obtain⟨x,rfl,h1⟩:=bC hx;obtain⟨a,rfl,h2⟩:=h1.jg;exact ff pins s σ H _ us Q I r ⟨a,_,rfl,.inl h2,λl hl=>q _ _ (PR.qT hl λA w=>iE)⟩
  ·cases he
 ·cases hr
 ·split at he
  ·split at he
   ·rename_i ns vn;obtain⟨g,he⟩:=br he;cases he;obtain⟨x,rfl,h1⟩:=bC hx;obtain⟨a,ys,rfl,h2,_,h3⟩:=h1.lst_inv;rw[iF h3 vn] at h2;have dD:ns≠[]:=λe=>by rw[e] at g;cases g
    refine Mx.uk hc pins s σ H _ us Q I r ⟨a,ns,rfl,dB.of h2,dD,λm m1 m2=>?_⟩;have:=cw ns dD;have e:m=de ns:=Int.le_antisymm (this.2 _ m1) (m2 _ this.1);rw[e];exact q _ _ (PR.sc (d:= .int _) rfl)
   ·cases he
  ·cases he
 ·split at he
  ·rename_i i j;obtain⟨g,he⟩:=br he;cases he;obtain⟨x,y,rfl,h1,h2⟩:=oj hx;rw[Pd] at g;refine Mx.mT pins s σ H _ us Q I r ⟨i,j,by rw[h1.int_inv,h2.int_inv],Pf g.1,Pf g.2,λp hp=>q _ _ (PR.xE hp λA w=>aq.cons RV.df (aq.cons RV.df aq.nil))⟩
  ·cases he
end
structure Fm where
 K:Frag
 H0:Hp
 d0:Option Addr
 Ek:Nat->Prop
 P:Program
 w:World
structure Ow where
 W:Addr->Prop
 A:Addr->Prop
 dr:Option Addr
noncomputable def Ow.wd (o:Ow):Addr->Prop:=λa=>o.W a\/o.dr=some a
noncomputable def Ow.d (o:Ow):Addr->Prop:=λa=>o.dr=some a
noncomputable def OV (Φ:Fm) (o:Ow) (H:Hp) (v:V):Dt->Prop
 | .lst ds=>∃a xs,v= .ref a/\H a=some (.lst xs)/\o.A a/\¬o.W a/\o.dr≠some a/\Φ.H0 a=none/\aq Φ.K o.A H xs ds
 | .f9 ks vs=>False
 | d=>RV Φ.K o.A H v d
structure ER (Φ:Fm) (Γ:Gm) (o:Ow) (ρ:ao) (S:Sx) (σ:L2.St) (H:Hp):Prop where
 len:σ.length=ρ.length
 wa:∀a,o.W a->o.A a
 da:∀a,o.dr=some a->o.A a
 al:∀a,o.A a->∃x,H a=some x
 val:∀(i:Nat) (d:Dt),ρ[i]?=some (some d)->∃v,σ[i]?=some (some v)/\(if fH Γ i=true then OV Φ o H v d else RV Φ.K o.A H v d)
 dk:∀(i:Nat) (ks vs:List Dt),ρ[i]?=some (some (.f9 ks vs))->Γ.κ=some i
 inj:∀(i j:Nat) (a:Addr) (d e:List Dt),fH Γ i=true->fH Γ j=true->ρ[i]?=some (some (.lst d))->ρ[j]?=some (some (.lst e))->σ[i]?=some (some (.ref a))->σ[j]?=some (some (.ref a))->i=j
 drw:∀a,o.dr=some a->∃ns:List Int,S=some ns/\H a=some (.lst (ns.map V.int))
 drn:o.dr=none->S=none
 drs:∀(i:Nat) (a:Addr),Γ.δ=some i->o.dr=some a->σ[i]?=some (some (.ref a))
 dr0:∀a,o.dr=some a->Φ.d0=some a\/Φ.H0 a=none
 ent:ba (λb=>Φ.d0=some b) Φ.H0 H
section
variable {Φ:Fm} {Γ:Gm} {o:Ow} {ρ:ao} {S S':Sx} {σ:L2.St} {H H':Hp}
noncomputable def nD:Dt->Bool
 | .f9 _ _=>false
 | _=>true
theorem OV.val {v:V} {d:Dt} (h:OV Φ o H v d) (nd:nD d=true) (wa:∀a,o.W a->o.A a) (da:∀a,o.dr=some a->o.A a):RV Φ.K o.wd H v d:=by
 have hw:∀b,o.wd b->o.A b:=λb z=>z.elim (wa b) (da b)
 cases d with
 | lst ds=>obtain⟨a,xs,rfl,h1,h2,h3,h4,_,h5⟩:=h;exact RV.fj h1 (λz=>z.elim h3 h4) (h5.weak hw)
 | f9=>cases nd
 | _=>exact RV.weak h hw
theorem OV.one {v:V} {d:Dt} (h:OV Φ o H v d) (nd:nD d=true):fw Φ.K o.A H v d:=by
 cases d with
 | lst ds=>obtain⟨a,xs,rfl,h1,h2,h3,h4,_,h5⟩:=h;exact⟨a,xs,rfl,h1,h5⟩
 | f9=>cases nd
 | _=>exact h
theorem OV.ext {v:V} {d:Dt} (h:OV Φ o H v d) (da:∀a,o.dr=some a->o.A a) (e:ba o.d H H'):OV Φ o H' v d:=by
 cases d with
 | lst ds=>obtain⟨a,xs,rfl,h1,h2,h3,h4,h6,h5⟩:=h;exact⟨a,xs,rfl,e.kp _ _ h1 h4,h2,h3,h4,h6,h5.mono e da λ_ z=>z⟩
 | f9=>exact h.elim
 | _=>exact RV.mono e da (λ_ z=>z) h
theorem Dk.set {κ:Option Nat} {i:Nat} {d:Dt} (h:∀(i:Nat) (ks vs:List Dt),ρ[i]?=some (some (.f9 ks vs))->κ=some i) (nd:nD d=true):∀(j:Nat) (ks vs:List Dt),(ρ.set i (some d))[j]?=some (some (.f9 ks vs))->κ=some j:=λj ks vs hj=>by
 by_cases e:j=i
 ·subst e;rw[List.getElem?_set] at hj;simp only[if_true] at hj;split at hj
  ·cases hj;cases nd
  ·cases hj
 ·rw[Pw (Ne.symm e)] at hj;exact h j ks vs hj
theorem RV.nd {K:Frag} {A:Addr->Prop} {v:V} {d:Dt} (h:RV K A H v d):nD d=true:=by
 cases d with
 | f9=>unfold RV at h;exact h.elim
 | _=>rfl
theorem ER.nd (er:ER Φ Γ o ρ S σ H) {i:Nat} {d:Dt} (h:ρ[i]?=some (some d)) (n:Γ.κ≠some i):nD d=true:=by
 cases d with
 | f9 ks vs=>exact absurd (er.dk i ks vs h) n
 | _=>rfl
theorem ER.g9 (er:ER Φ Γ o ρ S σ H):∀b,o.wd b->o.A b:=λb z=>z.elim (er.wa b) (er.da b)
theorem ER.vC (er:ER Φ Γ o ρ S σ H):∀b,o.wd b->∃x,H b=some x:=λb z=>er.al b (er.g9 b z)
theorem ba.al {X:Addr->Prop} (e:ba X H H') {b:Addr} {x:HO} (h:H b=some x) (hx:X b->∃y,H' b=some y):∃y,H' b=some y:=by
 by_cases z:X b
 ·exact hx z
 ·exact⟨x,e.kp _ _ h z⟩
theorem ER.step (er:ER Φ Γ o ρ S σ H) (e:ba o.d H H') (hd:∀a,o.dr=some a->∃ns:List Int,S'=some ns/\H' a=some (.lst (ns.map V.int))) (hn:o.dr=none->S'=none):ER Φ Γ o ρ S' σ H' where
 len:=er.len
 wa:=er.wa
 da:=er.da
 al:=λa ha=>by obtain⟨x,hx⟩:=er.al a ha;exact e.al hx λz=>by obtain⟨ns,_,h⟩:=hd a z;exact⟨_,h⟩
 val:=λi d h=>by
  obtain⟨v,h1,h2⟩:=er.val i d h;refine⟨v,h1,?_⟩;by_cases m:fH Γ i=true
  ·rw[if_pos m] at h2 ⊢;exact h2.ext er.da e
  ·rw[if_neg m] at h2 ⊢;exact h2.mono e er.da λ_ z=>z
 dk:=er.dk
 inj:=er.inj
 drw:=hd
 drn:=hn
 drs:=er.drs
 dr0:=er.dr0
 ent:=⟨λb x h n=>by
   refine e.kp _ _ (er.ent.kp b x h n) λz=>?_
   rcases er.dr0 b z with q | q
   ·exact n q
   ·(rw[h] at q;cases q),λb xs h=>e.tp _ _ (er.ent.tp b xs h)⟩
theorem ER.grow (er:ER Φ Γ o ρ S σ H) (s:bT H H'):ER Φ Γ o ρ S σ H':=er.step (ba.of_same s) (λa h=>by
 obtain⟨ns,h1,h2⟩:=er.drw a h;exact⟨ns,h1,s _ _ h2⟩) er.drn
end
noncomputable def mR (Ek:Nat->Prop) {α:Type} (r:R α) (P:α->Prop):Prop:=match r with
 | .ok a=>P a
 | .ex k=>Ek k
 | .bad=>False
section
variable {Ek:Nat->Prop} {α β:Type}
theorem aa {r:R α} {f:α->R β} {P:β->Prop}:mR Ek (r.bind f) P↔mR Ek r λa=>mR Ek (f a) P:=by cases r <;> rfl
theorem af {r:R α} {P Q:α->Prop} (h:mR Ek r P) (hq:∀a,r= .ok a->P a->Q a):mR Ek r Q:=by
 cases r with
 | ok a=>exact hq a rfl h
 | ex k=>exact h
 | bad=>exact h
theorem aZ {b:Bool} {r:R α} {P:α->Prop} (h:mR Ek (ae b r) P):b=true/\mR Ek r P:=by
 cases b with
 | true=>exact⟨rfl,h⟩
 | false=>exact h.elim
end
structure EO (K:Frag) (fr:Nat->Bool) (o:Ow) (c:C) (H:Hp) (d:Dt) (v:V) (H':Hp):Prop where
 ext:ba o.d H H'
 val:RV K o.wd H' v d
 dy:lk c=0->RV K o.A H' v d
 rg:lk c<=1->fw K o.A H' v d
 jB:fresh fr c=true->∀ds,d= .lst ds->∃a xs,v= .ref a/\H a=none/\H' a=some (.lst xs)/\aq K (λb=>o.wd b\/b=a) H' xs ds/\(lk c=0->aq K (λb=>o.A b\/b=a) H' xs ds)
structure MR (K:Frag) (o:Ow) (cs:Cs) (H:Hp) (ds:List Dt) (vs:List V) (H':Hp):Prop where
 ext:ba o.d H H'
 val:aq K o.wd H' vs ds
 dy:pk cs=0->aq K o.A H' vs ds
 rg:pk cs<=1->mM K o.A H' vs ds
section
variable (Φ:Fm) (Γ:Gm) (F:FT) (fr:Nat->Bool)
inductive bY (c:C) (σ:L2.St) (H:Hp) (Q:VK):Prop
 | mk (o:Ow) (ρ:ao) (S:Sx) (e:ER Φ Γ o ρ S σ H) (m:mR Φ.Ek (ev F c ρ S) λp=>∀v H',EO Φ.K fr o c H p.1 v H'->ER Φ Γ o ρ p.2 σ H'->Q v H'):bY c σ H Q
inductive fB (c:C) (σ:L2.St) (H:Hp) (Q:Bool->Hp->Prop):Prop
 | mk (o:Ow) (ρ:ao) (S:Sx) (e:ER Φ Γ o ρ S σ H) (m:mR Φ.Ek (cH F c ρ S) λp=>∀H',ba o.d H H'->ER Φ Γ o ρ p.2 σ H'->Q p.1 H'):fB c σ H Q
inductive lL (cs:Cs) (σ:L2.St) (H:Hp) (Q:List V->Hp->Prop):Prop
 | mk (o:Ow) (ρ:ao) (S:Sx) (e:ER Φ Γ o ρ S σ H) (m:mR Φ.Ek (gN F cs ρ S) λp=>∀vs H',MR Φ.K o cs H p.1 vs H'->ER Φ Γ o ρ p.2 σ H'->Q vs H'):lL cs σ H Q
inductive mG (cs:Cs) (σ:L2.St) (H:Hp) (Q:Bool->Hp->Prop):Prop
 | mk (o:Ow) (ρ:ao) (S:Sx) (e:ER Φ Γ o ρ S σ H) (m:mR Φ.Ek (bh F cs ρ S) λp=>∀H',ba o.d H H'->ER Φ Γ o ρ p.2 σ H'->Q p.1 H'):mG cs σ H Q
end
structure Wk (K:Frag) (A X:Addr->Prop) (J:It) (H:Hp) (ds:List Dt):Prop where
 go:∀(i:Nat) (H1:Hp),i < ds.length->ba X H H1->J.go i H1
 stop:∀(H1:Hp),ba X H H1->J.stop ds.length H1
 yld:∀(i:Nat) (x:V) (H1 H2:Hp),i < ds.length->ba X H H1->J.yld i H1 x H2->bT H1 H2/\∃d,ds[i]?=some d/\∀B:Addr->Prop,(∀b,B b->A b\/H b=none)->RV K B H2 x d
structure IO (K:Frag) (o:Ow) (it:lP) (nl:Bool) (H:Hp) (ds:List Dt) (J:It) (H':Hp):Prop where
 ext:ba o.d H H'
 w1:qM it<=1->Wk K o.A o.d J H' ds
 w0:qM it=0->Wk K o.A o.A J H' ds
 w2:nl=true->Wk K o.A o.A J H' ds
inductive n9 (Φ:Fm) (Γ:Gm) (F:FT) (it:lP) (σ:L2.St) (H:Hp) (Q:It->Hp->Prop):Prop
 | mk (o:Ow) (ρ:ao) (S:Sx) (e:ER Φ Γ o ρ S σ H) (m:mR Φ.Ek (dN F it ρ S) λp=>∀J H',IO Φ.K o it (lB F it ρ S) H p.1 J H'->ER Φ Γ o ρ p.2 σ H'->Q J H'):n9 Φ Γ F it σ H Q
structure GX (g:G) (Γ:Gm) (X:Cx):Prop where
 N:X.N=Γ.N
 nd:Γ.N.Nodup
 vis:∀x,yz (Γ.names.lookup x)=true->E9 X.env.scope x
 loc:∀x,xt (Γ.names.lookup x)=true->Loc X.env.scope x/\(X.fn x=true\/X.env.scope.names.lookup x=some .local)
 gl:∀x,Bk (Γ.names.lookup x)=true->Gl X x
 fre:∀x,(Γ.names.lookup x=some .cell\/Γ.names.lookup x=some .free)->(X.env.scope.names.lookup x=some .cell\/X.env.scope.names.lookup x=some .free)
 calm:X.calm=true
 un:X.A.units + 150 < cLine
 con:∀x d,g.cons.lookup x=some d->∃u,ou d=true/\X.mg x=some u/\RelV (qi d) u
 bl:∀x∈g.bls,X.mg x=none
structure FO (K:Frag) (W:Addr->Prop) (dr:Option Addr) (fr:Bool) (H:Hp) (d:Dt) (S':Sx) (v:V) (H':Hp):Prop where
 ext:ba (λb=>dr=some b) H H'
 val:RV K W H' v d
 drw:∀a,dr=some a->∃ns:List Int,S'=some ns/\H' a=some (.lst (ns.map V.int))
 jB:fr=true->∀ds,d= .lst ds->∃a xs,v= .ref a/\H a=none/\H' a=some (.lst xs)/\aq K (λb=>W b\/b=a) H' xs ds
noncomputable def MC (K:Frag) (xv:Nat->Value) (F:List Dt->Sx->R (Dt×Sx)) (np:Nat) (fr bo:Bool):Sp:=λvs H Q E=>
 vs.length=np/\∃(W:Addr->Prop) (dr:Option Addr) (args:List Dt) (S:Sx) (vo:List V),
  (if bo=true then∃(a:Addr) (ns:List Int),vs= .ref a::vo/\dr=some a/\W a/\S=some ns/\H a=some (.lst (ns.map V.int)) else vs=vo/\dr=none/\S=none)/\
  aq K W H vo args/\(∀a,W a->∃x,H a=some x)/\
  match F args S with
  | .ok p=>∀v H',FO K W dr fr H p.1 p.2 v H'->Q v H'
  | .ex k=>∀H',ba (λb=>dr=some b) H H'->E (xv k) none H'
  | .bad=>False
noncomputable def lO (Φ:Fm) (xv:Nat->Value):XK:=λv _ H'=>∃k,v=xv k/\Φ.Ek k/\ba (λb=>Φ.d0=some b) Φ.H0 H'
structure FX (g:G) (xv:Nat->Value) (CX:jY) (P:Program) (w:World) (K:Frag) (mg:Str->Option Value) (base:Heap) (n k:Nat) (F:FT):Prop where
 fn:∀x f np fM bo,qF x g.fns=some (f,np,fM,bo)->∃(fa:Addr) (fd:FuncData) (ps:List Str),ps.length=np/\mg x=some (.ref fa)/\PySem.W.keepIn K (.ref fa)=true/\
  iZ P w K mg base CX k fa fd ps (MC K xv (F f) np (g.fr f) bo)/\(∀j,j<=fM.length->∃ds,au ((fM.drop j).map qi) ds/\Binds K fd ps ds)/\fM.all ou=true
end Rx
end
section
namespace L2
open PySem PySem.Spec PyProof.Rows
noncomputable def Js (X:Cx) (st:Stmt) (t:TS):Prop:=∀(s:Shared) (σ:St) (H:Hp) (D:Ends),Inv X [] σ H s->t D σ H->wpAny (model X.prog X.w) X.A (exec st X.env) (SP X [] D) X.xe s
noncomputable def mK (X:Cx) (st:List Stmt) (t:TS):Prop:=∀(s:Shared) (σ:St) (H:Hp) (D:Ends),Inv X [] σ H s->t D σ H->wpAny (model X.prog X.w) X.A (execs st X.env) (SP X [] D) X.xe s
theorem DN {X:Cx} {st:Stmt} {t:TS} (h:PS X st t):Js X st t:=λs σ H D=>h [] s σ H D
theorem AD {X:Cx} {st:List Stmt} {t:TS} (h:t9 X st t):mK X st t:=λs σ H D=>h [] s σ H D
theorem u3 {X:Cx} {st:Stmt} {rest:List Stmt} {t u:TS} (h1:Js X st t) (h2:mK X rest u):mK X (st::rest) (HQ t u):=by
 intro s σ H D I hq;refine wpAny_execs_cons (bV (h1 s σ H {D with nx:=u D} I hq) λf s1 z=>?_);cases f with
 | next=>obtain⟨σ1,H1,I1,q1⟩:=z;exact h2 s1 σ1 H1 D I1 q1
 | brk=>exact z
 | cont=>exact z
 | ret v=>exact z
theorem Ct {CX:jY} {P:Program} {w:World} {K:PySem.W.Frag} {mg:Str->Option Value} {base:Heap} {k:Nat} {f:Addr} {name qual:Str} {params:Arguments} {body:List Stmt} {scope:Scope} {dV kV doc pm fD ct oc:Value} {an od:Option Addr}
  {tq:Array (Option Value)} {N ps:List Str} {sp:Sp} (lk:K.lookup f=some ⟨oc,od,.func (PySem.W.fnOf name qual params body scope dV kV doc pm an fD ct),tq⟩) (yM:PySem.W.codeIn K fD qual=true) (S:eZ N ps scope)
  (len:∀vs H Q E,sp vs H Q E->vs.length=ps.length)
  (FZ:∀(A:Around) (outer:List Env) (s:Shared) (H:Hp) (vs:List V) (Q:VK) (E:XK),ij k (A.deeper (envOfC qual scope s.heap.objs.size f fD))->sp vs H Q E->
   ∃t,mK (oJ CX P w K mg base N qual scope f fD A outer s H E) body t/\t {nx:=λ_ H'=>Q .aT H',rt:=Q} (start N vs) H):
  iZ P w K mg base CX (k + 1) f (PySem.W.fnOf name qual params body scope dV kV doc pm an fD ct) ps sp:=by
 refine⟨len,λA outer s H args us vs Q E hr e0 hb r oo=>?_⟩;have KX:K.In s.heap:=e0.mod.KH.keeps λb o e=>(e0.bs b o e).1
 have Gb:∀y∈ps.zip us,scope.names.lookup y.1=some .local\/(scope.names.lookup y.1=some .cell/\((cellsFrom (s.heap.objs.size + 1) scope.names []).lookup y.1).isSome=true):=λ⟨n,v⟩ hy=>by
  rcases S.par n (List.of_mem_zip hy).1 with q | q
  ·exact .inl q
  ·exact .inr ⟨q,PySem.W.cellsFrom_some _ _ _ (.inl q)⟩
 refine codeAny_call_function hr.depth (KX _ _ lk) rfl S.co S.gen rfl (PySem.W.codeRec_of KX yM) (hb _ _ _ _ (wpAny_newFunctionEnv_cells S.kind Gb λenv he s1 x=>?_));subst he;refine⟨(e0.mod.nolimit.keeps λb o e=>(e0.bs b o e).1).keeps x.toInCall.keep,codeAny_func ?_⟩;obtain⟨t,ht,hq⟩:=FZ A outer s H vs Q E (hr.deeper _) oo;have I:Inv (oJ CX P w K mg base N qual scope f fD A outer s H E) [] (start N vs) H s1:=uI S hr.hd e0 (len _ _ _ _ oo) r x;refine wpAny_mono (ht s1 (start N vs) H _ I hq) (λfl s' hs=>?_) λe s' hs=>hs
 have fin:∀{σ':St} {H':Hp} {v:V} {u:Value},Inv (oJ CX P w K mg base N qual scope f fD A outer s H E) [] σ' H' s'->RelV v u->Q v H'->CE outer P w H s Q u s':=
  λ {σ' H' v u} J rv q=>⟨v,H',J.os,J.bare,J.base,J.hok,rv,q⟩
 cases fl with
 | ret u=>obtain⟨v,σ',H',J,rv,q⟩:=hs;exact fin J rv q
 | next=>obtain⟨σ',H',J,q⟩:=hs;exact fin (v:=V.aT) (u:=Value.none) J rfl q
 | brk=>obtain⟨_,_,_,q⟩:=hs;exact q.elim
 | cont=>obtain⟨_,_,_,q⟩:=hs;exact q.elim
end L2
end
section
namespace Rx
open PySem PySem.W PySem.Spec PyProof.Rows L2 PySem.SeqAt
noncomputable def Jw (K:Frag) (mg:Str->Option Value) (C:Addr) (ts:List (Str×Bool)):Prop:=True
structure HX (g:G) (xv:Nat->Value) (CX:jY) (k:Nat) (F:FT) (Φ:Fm) (X:Cx):Prop where
 K:Φ.K=X.K
 P:Φ.P=X.prog
 w:Φ.w=X.w
 fx:∃n,FX g xv CX X.prog X.w X.K X.mg X.base n k F
 room:ij k X.A
 cx:CX=vj X.prog X.w
 st:ir X
 xgx:∀e s',mN X (lO Φ xv) e s'->X.xe e s'
 xk:∀k x ts,g.xs[k]?=some (x,ts)->∃C,xv k= .ref C/\X.mg x=some (.ref C)/\Jw X.K X.mg C ts
theorem HX.pass {g:G} {xv:Nat->Value} {CX:jY} {k:Nat} {F:FT} {Φ:Fm} {X:Cx} (h:HX g xv CX k F Φ X):ql CX X (lO Φ xv):=λpins σ H s e s' I c=>by have hc:=h.cx;subst hc;exact h.xgx e s' (yC I h.st.pn c)
theorem bB {X:Cx} {e:Expr} {t t':TE} (h:PE X e t) (hi:∀σ H Q,t' σ H Q->t σ H Q):PE X e t':=λpins s σ H Q I q=>h pins s σ H Q I (hi σ H Q q)
theorem ra {X:Cx} {e:Expr} {t t':TT} (h:PT X e t) (hi:∀σ H Q,t' σ H Q->t σ H Q):PT X e t':=λpins s σ H Q I q=>h pins s σ H Q I (hi σ H Q q)
theorem xW {X:Cx} {e:Expr} {t t':TT} (h:PW X e t) (hi:∀σ H Q,t' σ H Q->t σ H Q):PW X e t':=λwh pins s σ H Q I q=>h wh pins s σ H Q I (hi σ H Q q)
theorem xK {X:Cx} {e:List Expr} {t t':TA} (h:PA X e t) (hi:∀σ H Q,t' σ H Q->t σ H Q):PA X e t':=λpos pins s σ H Q I q=>h pos pins s σ H Q I (hi σ H Q q)
theorem qY {X:Cx} {tg e:Expr} {t t':TI} (h:PI X tg e t) (hi:∀σ H Q,t' σ H Q->t σ H Q):PI X tg e t':=λpins s σ H Q I q=>h pins s σ H Q I (hi σ H Q q)
section
variable {Φ:Fm} {Γ:Gm} {F:FT} {fr:Nat->Bool} {o:Ow} {ρ:ao} {S:Sx} {σ:L2.St} {H H':Hp}
theorem EO.sc {c:C} {d:Dt} (h:ou d=true):EO Φ.K fr o c H d (qi d) H:=⟨ba.refl,pT h,λ_=>pT h,λ_=>(pT h).one,λ_ ds e=>by subst e;simp[ou] at h⟩
theorem EO.uz {c:C} {d:Dt} {v:V} {H1:Hp} (e:ba o.d H H1) (h:EO Φ.K fr o c H1 d v H') (hf:fresh fr c=true->∀ds,d= .lst ds->∀a,H1 a=none->H a=none):EO Φ.K fr o c H d v H':=
 ⟨e.trans h.ext,h.val,h.dy,h.rg,λf ds ed=>by
  obtain⟨a,xs,h1,h2,h3⟩:=h.jB f ds ed;exact⟨a,xs,h1,hf f ds ed a h2,h3⟩⟩
theorem wg {X:Addr->Prop} {H1:Hp} (e:ba X H H1) (hx:∀b,X b->∃y,H1 b=some y) {a:Addr} (h:H1 a=none):H a=none:=by
 cases q:H a with
 | none=>rfl
 | some x=>obtain⟨y,z⟩:=e.al q (hx a);rw[h] at z;cases z
theorem ER.eK {S1:Sx} {H1:Hp} (aG:ER Φ Γ o ρ S1 σ H1) (e:ba o.d H H1) {a:Addr} (h:H1 a=none):H a=none:=wg e (λb z=>aG.al b (aG.da b z)) h
theorem EO.keep {c:C} {d:Dt} {v:V} {H1 H2:Hp} (h:EO Φ.K fr o c H d v H1) (e:ba o.d H1 H2) (wa:∀b,o.wd b->o.A b):RV Φ.K o.wd H2 v d/\(lk c=0->RV Φ.K o.A H2 v d)/\(lk c<=1->fw Φ.K o.A H2 v d):=by
 have hd:∀b,o.d b->o.wd b:=λb z=> .inr z
 refine⟨h.val.mono e hd λ_ z=>z,λl=>(h.dy l).mono e (λb z=>wa b (hd b z)) λ_ z=>z,λl=>?_⟩;refine(h.rg l).ext e (λb z=>wa b (hd b z)) λds a ed ev z=>?_
 subst ed ev;obtain⟨b,xs,q,_,n,_⟩:=h.val.lst_inv;cases q;exact n (.inr z)
theorem EO.pr {c:C} {xs:List V} {ds:List Dt} {d:Dt} {v:V} {H1 H2:Hp} {S1:Sx} {f:Bool} (aG:ER Φ Γ o ρ S1 σ H1) (e:ba o.d H H1) (hv:aq Φ.K o.wd H1 xs ds) (h1:lk c<=1->mM Φ.K o.A H1 xs ds) (hl:lk c=0\/lk c=2)
  (pr:PR Φ.K f xs ds H1 d v H2) (hf:fresh fr c=true->f=true):EO Φ.K fr o c H d v H2/\ER Φ Γ o ρ S1 σ H2:=by
 have q0:lk c=0->RV Φ.K o.A H2 v d:=λl=>pr.val o.A aG.al (h1 (by lia))
 refine⟨⟨e.trans (ba.of_same pr.same),pr.val o.wd aG.vC hv.ones,q0,λl=>(q0 (by lia)).one,λfc es ed=>?_⟩,aG.grow pr.same⟩;obtain⟨a,ys,k1,k2,k3,k4⟩:=pr.jB (hf fc) es ed;exact⟨a,ys,k1,aG.eK e k2,k3,k4 o.wd aG.vC hv.ones,λl=>k4 o.A aG.al (h1 (by lia))⟩
theorem iN {A:Addr->Prop} {K:Frag} {v:V} {d:Dt} (h:RV K A H v d):RV K N0 H v d:=h.weak λ_ z=>z.elim
theorem Dd {A:Addr->Prop} {K:Frag} {v:List V} {d:List Dt} (h:aq K A H v d):aq K N0 H v d:=h.weak λ_ z=>z.elim
end
section
variable {X:Cx} {Φ:Fm} {Γ:Gm} {F:FT} {fr:Nat->Bool} {g:G}
theorem pU {e:Expr} {d:Dt} (hd:ou d=true) (h:PE X e (tC (qi d))):PE X e (bY Φ Γ F fr (.con d)):=bB h λσ H Q q=>by obtain⟨o,ρ,S,er,q⟩:=q;exact q _ _ (EO.sc hd) er
theorem nk {Ek:Nat->Prop} {ρ:ao} {i:Nat} {P:Dt->Prop} (h:mR Ek (eE ρ i) P):∃d,ρ[i]?=some (some d)/\P d:=by
 unfold eE at h;split at h
 ·exact⟨_,by assumption,h⟩
 ·exact h.elim
theorem Ht {e:Expr} {i:Nat} (h:PE X e (n8 i)) (hm:fH Γ i=false):PE X e (bY Φ Γ F fr (.var i)):=bB h λσ H Q q=>by obtain⟨o,ρ,S,er,q⟩:=q;unfold ev at q;rw[aa] at q;obtain⟨d,hd,q⟩:=nk q;obtain⟨v,h1,h2⟩:=er.val i d hd;rw[hm,if_neg (by simp)] at h2;exact⟨v,h1,q v H ⟨ba.refl,h2.weak er.g9,λ_=>h2,λ_=>h2.one,λz=>by simp[fresh] at z⟩ er⟩
theorem Hm {e:Expr} {i:Nat} (h:PE X e (n8 i)) (hm:fH Γ i=true) (hκ:Γ.κ≠some i):PE X e (bY Φ Γ F fr (.mvr i)):=bB h λσ H Q q=>by obtain⟨o,ρ,S,er,q⟩:=q;unfold ev at q;rw[aa] at q;obtain⟨d,hd,q⟩:=nk q;obtain⟨v,h1,h2⟩:=er.val i d hd;rw[hm,if_pos rfl] at h2;exact⟨v,h1,q v H ⟨ba.refl,h2.val (er.nd hd hκ) er.wa er.da,λz=>by simp[lk] at z,λ_=>h2.one (er.nd hd hκ),λz=>by simp[fresh] at z⟩ er⟩
theorem jP {Ek:Nat->Prop} {r:R Dt} {P:Dt->Prop} (dD:∀k,r≠ .ex k) (h:mR Ek r P):∃d,r= .ok d/\P d:=by
 cases r with
 | ok a=>exact⟨a,rfl,h⟩
 | ex k=>exact absurd rfl (dD k)
 | bad=>exact h.elim
theorem c6 {b:Bool} {α:Type} {r:R α} (h:∀k,r≠ .ex k):∀k,ae b r≠ .ex k:=by
 intro k;cases b
 ·intro z;cases z
 ·exact h k
theorem Dl (o:Operator) (d e:Dt):∀k,lF o d e≠ .ex k:=by intro k;unfold lF;split <;> first | (intro z;cases z;done) | (split <;> first | (intro z;cases z;done) | (exact c6 (λk z=>by cases z) k))
theorem sg (o:CmpOp) (d e:Dt):∀k,cZ o d e≠ .ex k:=by intro k;unfold cZ;split <;> first | (intro z;cases z;done) | (exact c6 (λk z=>by cases z) k) | (split <;> first | (intro z;cases z;done) | (exact c6 (λk z=>by cases z) k))
theorem qo (ds:List Dt) (i:Int):∀k,ua ds i≠ .ex k:=by intro k;unfold ua;split <;> (intro z;cases z)
theorem zQ (d e:Dt):∀k,cF d e≠ .ex k:=by
 intro k;unfold cF;split
 ·exact qo _ _ k
 ·exact qo _ _ k
 ·exact qo _ _ k
 ·intro z;cases z
theorem AQ (d:Dt) (lo hi:Option Int):∀k,fq d lo hi≠ .ex k:=by intro k;unfold fq;split <;> first | (intro z;cases z;done) | (exact c6 (λk z=>by cases z) k)
theorem AX (d:Dt):∀k,dO d≠ .ex k:=by intro k;unfold dO;split <;> first | (intro z;cases z;done) | (exact c6 (λk z=>by cases z) k)
theorem iK {Ek:Nat->Prop} {r:R Bool} {P:Bool->Prop} (dD:∀k,r≠ .ex k) (h:mR Ek r P):∃d,r= .ok d/\P d:=by
 cases r with
 | ok a=>exact⟨a,rfl,h⟩
 | ex k=>exact absurd rfl (dD k)
 | bad=>exact h.elim
theorem qN {op:Operator} {a b:C}:(lk (.bin op a b)=0\/lk (.bin op a b)=2)/\(lk (.bin op a b)<=1->lk a<=1/\lk b<=1):=by
 have e:lk (.bin op a b)=if lk a<=1/\lk b<=1 then 0 else 2:=by rw[lk]
 rw[e];split
 ·rename_i h;exact⟨.inl rfl,λ_=>h⟩
 ·exact⟨.inr rfl,λz=>by lia⟩
theorem Hh {a b:Expr} {a' b':C} {op:Operator} {pos:Pos} (hK:Φ.K=X.K) (ha:PE X a (bY Φ Γ F fr a')) (hb:PE X b (bY Φ Γ F fr b')):PE X (.BinOp a op b pos) (bY Φ Γ F fr (.bin op a' b')):=bB (G5 (Do op) ha hb) λσ H Q q=>by
 obtain⟨o,ρ,S,er,q⟩:=q;unfold ev at q;rw[aa] at q;refine⟨o,ρ,S,er,af q λp _ q x H1 bu aG=>?_⟩;rw[aa] at q;refine⟨o,ρ,p.2,aG,af q λp2 _ q y H2 eo2 fN=>?_⟩;rw[aa] at q;obtain⟨z,hz,q⟩:=jP (Dl _ _ _) q;obtain⟨k1,k2,k3⟩:=bu.keep eo2.ext er.g9;refine⟨p.1,p2.1,z,hK▸iN k1,hK▸iN eo2.val,hz,λv H3 pr=>?_⟩;rw[<-hK] at pr;obtain⟨e1,e2⟩:=EO.pr (fr:=fr) (H:=H) (c:= .bin op a' b') fN (bu.ext.trans eo2.ext) (aq.cons k1 (aq.cons eo2.val aq.nil)) (λl=>⟨k3 (qN.2 l).1,eo2.rg (qN.2 l).2,trivial⟩) qN.1 pr λ_=>rfl
 exact q v H3 e1 e2
theorem Hi {a b:Expr} {a' b':C} {op:CmpOp} {pos:Pos} (hK:Φ.K=X.K) (hu:X.A.units + 150 < cLine) (hm:behindInMarks op b=false) (ha:PE X a (bY Φ Γ F fr a')) (hb:PE X b (bY Φ Γ F fr b')):PE X (.Compare a [op] [b] pos) (bY Φ Γ F fr (.cmp op a' b')):=bB (Au (xI op hu) ha hb hm) λσ H Q q=>by obtain⟨o,ρ,S,er,q⟩:=q;unfold ev at q;rw[aa] at q;refine⟨o,ρ,S,er,af q λp _ q x H1 bu aG=>?_⟩;rw[aa] at q;refine⟨o,ρ,p.2,aG,af q λp2 _ q y H2 eo2 fN=>?_⟩;rw[aa] at q;obtain⟨z,hz,q⟩:=iK (sg _ _ _) q;obtain⟨k1,k2,k3⟩:=bu.keep eo2.ext er.g9;refine⟨p.1,p2.1,z,hK▸iN k1,hK▸iN eo2.val,hz,q _ _ ?_ fN⟩;have:=EO.sc (Φ:=Φ) (fr:=fr) (o:=o) (H:=H2) (c:= .cmp op a' b') (d:= .bl z) rfl;exact this.uz (bu.ext.trans eo2.ext) λf=>by simp[fresh] at f
theorem D2 {a b:Expr} {a' b':C} {op:CmpOp} {pos:Pos} (hK:Φ.K=X.K) (hu:X.A.units + 150 < cLine) (hm:behindInMarks op b=false) (ha:PE X a (bY Φ Γ F fr a')) (hb:PE X b (bY Φ Γ F fr b')):PT X (.Compare a [op] [b] pos) (fB Φ Γ F (.cmp op a' b')):=ra (AF (xI op hu) ha hb hm) λσ H Q q=>by obtain⟨o,ρ,S,er,q⟩:=q;unfold cH at q;rw[aa] at q;refine⟨o,ρ,S,er,af q λp _ q x H1 bu aG=>?_⟩;rw[aa] at q;refine⟨o,ρ,p.2,aG,af q λp2 _ q y H2 eo2 fN=>?_⟩;rw[aa] at q;obtain⟨z,hz,q⟩:=iK (sg _ _ _) q;obtain⟨k1,k2,k3⟩:=bu.keep eo2.ext er.g9;exact⟨p.1,p2.1,z,hK▸iN k1,hK▸iN eo2.val,hz,z,rfl,q _ (bu.ext.trans eo2.ext) fN⟩
end
section
variable {X:Cx} {Φ:Fm} {Γ:Gm} {F:FT} {fr:Nat->Bool} {g:G}
theorem aq.emp {K:Frag} {A:Addr->Prop} {H:Hp} {xs:List V} {ds:List Dt} (h:aq K A H xs ds):ds.isEmpty=xs.isEmpty:=by
 have:=h.length;cases xs with
 | nil=>cases ds with
  | nil=>rfl
  | cons=>simp at this
 | cons=>cases ds with
  | nil=>simp at this
  | cons=>rfl
theorem Hn {a:Expr} {a':C} {pos:Pos} (ha:PE X a (bY Φ Γ F fr a')):PE X (.UnaryOp .USub a pos) (bY Φ Γ F fr (.neg a')):=bB (G7 Em ha) λσ H Q q=>by
 obtain⟨o,ρ,S,er,q⟩:=q;unfold ev at q;rw[aa] at q;refine⟨o,ρ,S,er,af q λp _ q x H1 bu aG=>?_⟩;split at q
 ·rename_i i hi;have:=bu.val;rw[hi] at this;refine⟨i,this.int_inv,q _ _ ?_ aG⟩;exact(EO.sc (Φ:=Φ) (fr:=fr) (o:=o) (H:=H1) (c:= .neg a') (d:= .int (-i)) rfl).uz bu.ext λf=>by simp[fresh] at f
 ·exact q.elim
theorem Lj {a:Expr} {a':C} {pos:Pos} (ha:PE X a (bY Φ Γ F fr a')):PE X (.UnaryOp .Not a pos) (bY Φ Γ F fr (.nt a')):=bB (DF ha) λσ H Q q=>by
 obtain⟨o,ρ,S,er,q⟩:=q;unfold ev at q;rw[aa] at q;refine⟨o,ρ,S,er,af q λp _ q x H1 bu aG=>?_⟩;split at q
 ·rename_i i hi;have:=bu.val;rw[hi] at this;refine⟨i,this.ax,q _ _ ?_ aG⟩;exact(EO.sc (Φ:=Φ) (fr:=fr) (o:=o) (H:=H1) (c:= .nt a') (d:= .bl (!i)) rfl).uz bu.ext λf=>by simp[fresh] at f
 ·exact q.elim
theorem Hq {a:Expr} {a':C} {pos:Pos} (ha:PT X a (fB Φ Γ F a')):PT X (.UnaryOp .Not a pos) (fB Φ Γ F (.nt a')):=ra (DP ha) λσ H Q q=>by obtain⟨o,ρ,S,er,q⟩:=q;unfold cH at q;rw[aa] at q;exact⟨o,ρ,S,er,af q λp _ q H1 e1 aG=>q _ e1 aG⟩
theorem Hg {a b:Expr} {rest:List Expr} {a' b':C} {pos:Pos} (ha:PE X a (bY Φ Γ F fr a')) (hb:PE X (.BoolOp .And (b::rest) pos) (bY Φ Γ F fr b')):PE X (.BoolOp .And (a::b::rest) pos) (bY Φ Γ F fr (.and a' b')):=bB (DA ha hb) λσ H Q q=>by
 obtain⟨o,ρ,S,er,q⟩:=q;unfold ev at q;rw[aa] at q;refine⟨o,ρ,S,er,af q λp _ q x H1 bu aG=>?_⟩;have sc:∀(H3:Hp) (t:Bool),ba o.d H H3->EO Φ.K fr o (.and a' b') H (.bl t) (.bl t) H3:=λH3 t e3=>
  (EO.sc (Φ:=Φ) (fr:=fr) (o:=o) (H:=H3) (c:= .and a' b') (d:= .bl t) rfl).uz e3 λf=>by simp[fresh] at f
 split at q
 ·rename_i hi;have:=bu.val;rw[hi] at this;refine⟨true,this.ax,?_⟩;rw[aa] at q;refine⟨o,ρ,p.2,aG,af q λp2 _ q y H2 eo2 fN=>?_⟩;split at q
  ·rename_i c hc;have h2:=eo2.val;rw[hc] at h2;rw[h2.ax];exact q _ _ (sc H2 c (bu.ext.trans eo2.ext)) fN
  ·exact q.elim
 ·rename_i hi;have:=bu.val;rw[hi] at this;exact⟨false,this.ax,q _ _ (sc H1 false bu.ext) aG⟩
 ·exact q.elim
theorem Lk {a b:Expr} {rest:List Expr} {a' b':C} {pos:Pos} (ha:PE X a (bY Φ Γ F fr a')) (hb:PE X (.BoolOp .Or (b::rest) pos) (bY Φ Γ F fr b')):PE X (.BoolOp .Or (a::b::rest) pos) (bY Φ Γ F fr (.or a' b')):=bB (G6 ha hb) λσ H Q q=>by
 obtain⟨o,ρ,S,er,q⟩:=q;unfold ev at q;rw[aa] at q;refine⟨o,ρ,S,er,af q λp _ q x H1 bu aG=>?_⟩;have sc:∀(H3:Hp) (t:Bool),ba o.d H H3->EO Φ.K fr o (.or a' b') H (.bl t) (.bl t) H3:=λH3 t e3=>
  (EO.sc (Φ:=Φ) (fr:=fr) (o:=o) (H:=H3) (c:= .or a' b') (d:= .bl t) rfl).uz e3 λf=>by simp[fresh] at f
 split at q
 ·rename_i hi;have:=bu.val;rw[hi] at this;refine⟨false,this.ax,?_⟩;rw[aa] at q;refine⟨o,ρ,p.2,aG,af q λp2 _ q y H2 eo2 fN=>?_⟩;split at q
  ·rename_i c hc;have h2:=eo2.val;rw[hc] at h2;rw[h2.ax];exact q _ _ (sc H2 c (bu.ext.trans eo2.ext)) fN
  ·exact q.elim
 ·rename_i hi;have:=bu.val;rw[hi] at this;exact⟨true,this.ax,q _ _ (sc H1 true bu.ext) aG⟩
 ·exact q.elim
theorem D1 {a b:Expr} {rest:List Expr} {a' b':C} {pos:Pos} (ha:PT X a (fB Φ Γ F a')) (hb:PW X (.BoolOp .And (b::rest) pos) (fB Φ Γ F b')):PW X (.BoolOp .And (a::b::rest) pos) (fB Φ Γ F (.and a' b')):=xW (DQ ha hb) λσ H Q q=>by
 obtain⟨o,ρ,S,er,q⟩:=q;unfold cH at q;rw[aa] at q;refine⟨o,ρ,S,er,af q λp _ q H1 e1 aG=>?_⟩;cases hp:p.1 with
 | true=>rw[hp] at q;rw[if_pos rfl];exact⟨o,ρ,p.2,aG,af q λp2 _ q H2 e2 fN=>q _ (e1.trans e2) fN⟩
 | false=>rw[hp] at q;rw[if_neg (by simp)];exact q _ e1 aG
theorem Hr {a b:Expr} {rest:List Expr} {a' b':C} {pos:Pos} (ha:PT X a (fB Φ Γ F a')) (hb:PW X (.BoolOp .Or (b::rest) pos) (fB Φ Γ F b')):PW X (.BoolOp .Or (a::b::rest) pos) (fB Φ Γ F (.or a' b')):=xW (Hb ha hb) λσ H Q q=>by
 obtain⟨o,ρ,S,er,q⟩:=q;unfold cH at q;rw[aa] at q;refine⟨o,ρ,S,er,af q λp _ q H1 e1 aG=>?_⟩;cases hp:p.1 with
 | false=>rw[hp] at q;rw[if_neg (by simp)];exact⟨o,ρ,p.2,aG,af q λp2 _ q H2 e2 fN=>q _ (e1.trans e2) fN⟩
 | true=>rw[hp] at q;rw[if_pos rfl];exact q _ e1 aG
theorem xq {a b:C}:(lk (.idx a b)=0\/lk (.idx a b)=2)/\(lk (.idx a b)<=1->lk a<=1):=by
 have e:lk (.idx a b)=if lk a<=1 then 0 else 2:=by rw[lk]
 rw[e];split
 ·rename_i h;exact⟨.inl rfl,λ_=>h⟩
 ·exact⟨.inr rfl,λz=>by lia⟩
theorem Hj {a b:Expr} {a' b':C} {pos:Pos} (hK:Φ.K=X.K) (hs:mL b) (ha:PE X a (bY Φ Γ F fr a')) (hb:PE X b (bY Φ Γ F fr b')):PE X (.Subscript a b pos) (bY Φ Γ F fr (.idx a' b')):=bB (G4 CU ha hb hs) λσ H Q q=>by
 obtain⟨o,ρ,S,er,q⟩:=q;unfold ev at q;rw[aa] at q;refine⟨o,ρ,S,er,af q λp _ q x H1 bu aG=>?_⟩;rw[aa] at q;refine⟨o,ρ,p.2,aG,af q λp2 _ q y H2 eo2 fN=>?_⟩;rw[aa] at q;obtain⟨z,hz,q⟩:=jP (zQ _ _) q;obtain⟨k1,k2,k3⟩:=bu.keep eo2.ext er.g9;refine⟨p.1,p2.1,z,hK▸iN k1,hK▸iN eo2.val,hz,λv pr=>?_⟩;rw[<-hK] at pr;have Nl:∃i,p2.1= .int i:=by
  cases hd:p2.1 with
  | int i=>exact⟨i,rfl⟩
  | _=>rw[hd] at hz;unfold cF at hz;split at hz <;> first | (rename_i h;cases h;done) | (cases hz;done) | contradiction
 obtain⟨i,hi⟩:=Nl;have v2:∀A:Addr->Prop,fw Φ.K A H2 y p2.1:=λA=>by have:=eo2.val;rw[hi] at this ⊢;rw[this.int_inv];exact(RV.df (K:=Φ.K) (A:=A)).one
 obtain⟨e1,e2⟩:=EO.pr (fr:=fr) (H:=H) (c:= .idx a' b') fN (bu.ext.trans eo2.ext) (aq.cons k1 (aq.cons eo2.val aq.nil)) (λl=>⟨k3 (xq.2 l),v2 _,trivial⟩) xq.1 pr λz=>by simp[fresh] at z
 exact q v H2 e1 e2
theorem jR {a:Expr} {a':C} (hK:Φ.K=X.K) (ha:PE X a (bY Φ Γ F fr a')) (he:∀whole,isTrue a X.env whole=(do let v<-whole;standAt a.pos;holding [v] (truthy v)))
  (yP:∀ρ S,cH F a' ρ S=(ev F a' ρ S).bind λx=>(dO x.1).bind λb=> .ok (b,x.2)):PT X a (fB Φ Γ F a'):=ra (xV ha he) λσ H Q q=>by
 obtain⟨o,ρ,S,er,q⟩:=q;rw[yP,aa] at q;refine⟨o,ρ,S,er,af q λp _ q x H1 bu aG=>?_⟩;rw[aa] at q;obtain⟨b,hb,q⟩:=iK (AX _) q;refine⟨b,?_,q _ bu.ext aG⟩;have hv:=bu.val;rw[hK] at hv;unfold dO at hb;split at hb
 ·rename_i hd;rw[hd] at hv;cases hb;rw[hv.az];rfl
 ·rename_i hd;rw[hd] at hv;cases hb;rw[hv.ax];rfl
 ·rename_i hd;rw[hd] at hv;cases hb;rw[hv.int_inv];rfl
 ·rename_i hd;rw[hd] at hv;obtain⟨g1,hb⟩:=br hb;cases hb;rw[hv.str_inv];exact⟨Pp (Pf g1) eJ,rfl⟩
 ·rename_i hd;rw[hd] at hv;cases hb;obtain⟨a,xs,rfl,h1,_,h2⟩:=hv.lst_inv;refine .inl ⟨xs,dB.of h1,?_⟩;rw[h2.emp]
 ·rename_i hd;rw[hd] at hv;cases hb;obtain⟨a,xs,rfl,h1,h2⟩:=hv.ab;refine .inr (.inl ⟨xs,e9.of h1,?_⟩);rw[h2.emp]
 ·rename_i hd;rw[hd] at hv;cases hb;obtain⟨a,rfl,h1⟩:=hv.jg;refine .inl ⟨_,h1,?_⟩;simp
 ·cases hb
end
section
variable {X:Cx} {Φ:Fm} {Γ:Gm} {F:FT} {fr:Nat->Bool} {g:G}
theorem C3 {a b:C} {c:C} (hc:lk c=if lk a<=1 then 0 else 2):(lk c=0\/lk c=2)/\(lk c<=1->lk a<=1):=by
 rw[hc];split
 ·rename_i h;exact⟨.inl rfl,λ_=>h⟩
 ·exact⟨.inr rfl,λz=>by lia⟩
theorem sE {o:Ow} {ρ:ao} {S:Sx} {σ:L2.St} {H H1 H2:Hp} {a' c:C} {d:Dt} {x:V} {lo hi:Option Int} {Q:VK} (hK:Φ.K=X.K) (hc:lk c=if lk a'<=1 then 0 else 2) (hf:fresh fr c=true->True) (er:ER Φ Γ o ρ S σ H2) (bu:EO Φ.K fr o a' H d x H1) (e:ba o.d H1 H2)
  (q:mR Φ.Ek (fq d lo hi) λz=>∀v H3,EO Φ.K fr o c H z v H3->ER Φ Γ o ρ S σ H3->Q v H3):rS X.K x lo hi H2 Q:=by
 obtain⟨z,hz,q⟩:=jP (AQ _ _ _) q;obtain⟨k1,k2,k3⟩:=bu.keep e er.g9;refine⟨d,z,hK▸iN k1,hz,λv H3 pr=>?_⟩;rw[<-hK] at pr;have hl:=C3 (b:=c) hc;obtain⟨e1,e2⟩:=EO.pr (fr:=fr) (H:=H) (c:=c) er (bu.ext.trans e) (aq.cons k1 aq.nil) (λl=>⟨k3 (hl.2 l),trivial⟩) hl.1 pr λ_=>rfl
 exact q v H3 e1 e2
theorem D6 {a l:Expr} {a' l':C} {p2 pos:Pos} (hK:Φ.K=X.K) (ha:PE X a (bY Φ Γ F fr a')) (hl:PE X l (bY Φ Γ F fr l')):PE X (.Subscript a (.Slice (some l) none none p2) pos) (bY Φ Γ F fr (.sliL a' l')):=bB (pJ yf ha (tD hl) tx) λσ H Q q=>by
 obtain⟨o,ρ,S,er,q⟩:=q;unfold ev at q;rw[aa] at q;refine⟨o,ρ,S,er,af q λp _ q x H1 bu aG=>?_⟩;rw[aa] at q;refine⟨o,ρ,p.2,aG,af q λp2 _ q y H2 eo2 fN=>?_⟩;split at q
 ·rename_i i hi;have hv:=eo2.val;rw[hi] at hv;refine⟨i,hv.int_inv,?_⟩;rw[aa] at q;exact sE hK (by rw[lk]) (λ_=>trivial) fN bu eo2.ext (af q λz _ q v H3 e1 e2=>q v H3 e1 e2)
 ·exact q.elim
theorem D5 {a l:Expr} {a' l':C} {p2 pos:Pos} (hK:Φ.K=X.K) (ha:PE X a (bY Φ Γ F fr a')) (hl:PE X l (bY Φ Γ F fr l')):PE X (.Subscript a (.Slice none (some l) none p2) pos) (bY Φ Γ F fr (.sliH a' l')):=bB (pJ yf ha tx (tD hl)) λσ H Q q=>by
 obtain⟨o,ρ,S,er,q⟩:=q;unfold ev at q;rw[aa] at q;refine⟨o,ρ,S,er,af q λp _ q x H1 bu aG=>?_⟩;rw[aa] at q;refine⟨o,ρ,p.2,aG,af q λp2 _ q y H2 eo2 fN=>?_⟩;split at q
 ·rename_i i hi;have hv:=eo2.val;rw[hi] at hv;refine⟨i,hv.int_inv,?_⟩;rw[aa] at q;exact sE hK (by rw[lk]) (λ_=>trivial) fN bu eo2.ext (af q λz _ q v H3 e1 e2=>q v H3 e1 e2)
 ·exact q.elim
theorem Ho:PA X [] (lL Φ Γ F .nil):=xK kL λσ H Q q=>by obtain⟨o,ρ,S,er,q⟩:=q;exact q _ _ ⟨ba.refl,aq.nil,λ_=>aq.nil,λ_=>trivial⟩ er
theorem D3 {e:Expr} {es:List Expr} {c:C} {cs:Cs} (hs:starEach (e::es) X.env=(false,eval e X.env)::starEach es X.env) (h:PE X e (bY Φ Γ F fr c)) (hr:PA X es (lL Φ Γ F cs)):PA X (e::es) (lL Φ Γ F (.cons c cs)):=xK (fm h hr hs) λσ H Q q=>by
 obtain⟨o,ρ,S,er,q⟩:=q;unfold gN at q;rw[aa] at q;refine⟨o,ρ,S,er,af q λp _ q x H1 bu aG=>?_⟩;rw[aa] at q;refine⟨o,ρ,p.2,aG,af q λp2 _ q xs H2 eo2 fN=>?_⟩;obtain⟨k1,k2,k3⟩:=bu.keep eo2.ext er.g9;have el:pk (.cons c cs)=max (lk c) (pk cs):=by rw[pk]
 exact q _ _ ⟨bu.ext.trans eo2.ext,aq.cons k1 eo2.val,λl=>aq.cons (k2 (by lia)) (eo2.dy (by lia)),λl=>⟨k3 (by lia),eo2.rg (by lia)⟩⟩ fN
theorem Bu {cs:Cs} {c:C} (hc:lk c=if pk cs=0 then 0 else 2):(lk c<=1->lk c=0)/\(lk c=0->pk cs=0):=by
 rw[hc];split
 ·rename_i h;exact⟨λ_=>rfl,λ_=>h⟩
 ·exact⟨λz=>by lia,λz=>by lia⟩
theorem Hs {es:List Expr} {cs:Cs} {x1:Nat} {pos:Pos} (h:PA X es (lL Φ Γ F cs)):PE X (.Tuple es x1 pos) (bY Φ Γ F fr (.tup cs)):=bB (DI h) λσ H Q q=>by
 obtain⟨o,ρ,S,er,q⟩:=q;unfold ev at q;rw[aa] at q;refine⟨o,ρ,S,er,af q λp _ q xs H1 bu aG=>?_⟩;obtain⟨g1,q⟩:=aZ q;refine⟨by rw[bu.val.length];exact Pp (Pf g1) eJ,λa ha=>?_⟩;have s:=Mx.dG ha (.tup xs);have hl:=Bu (cs:=cs) (c:= .tup cs) (by rw[lk]);have q0:lk (.tup cs)=0->RV Φ.K o.A (upd H1 a (.tup xs)) (.ref a) (.tup p.1):=λl=>RV.d8 aP ((bu.dy (hl.2 l)).same s)
 exact q _ _ ⟨bu.ext.trans (ba.of_same s),RV.d8 aP (bu.val.same s),q0,λl=>(q0 (hl.1 l)).one,λz=>by simp[fresh] at z⟩ (aG.grow s)
theorem Hl {es:List Expr} {cs:Cs} {pos:Pos} (h:PA X es (lL Φ Γ F cs)):PE X (.List es pos) (bY Φ Γ F fr (.lst cs)):=bB (DD h) λσ H Q q=>by
 obtain⟨o,ρ,S,er,q⟩:=q;unfold ev at q;rw[aa] at q;refine⟨o,ρ,S,er,af q λp _ q xs H1 bu aG=>?_⟩;obtain⟨g1,q⟩:=aZ q;refine⟨by rw[bu.val.length];exact Pp (Pf g1) eJ,λa ha=>?_⟩;have s:=Mx.dG ha (.lst xs);have hl:=Bu (cs:=cs) (c:= .lst cs) (by rw[lk]);have na:¬o.A a:=λz=>by obtain⟨y,hy⟩:=aG.al a z;rw[ha] at hy;cases hy
 have q0:lk (.lst cs)=0->RV Φ.K o.A (upd H1 a (.lst xs)) (.ref a) (.lst p.1):=λl=>RV.fj aP na ((bu.dy (hl.2 l)).same s)
 refine q _ _ ⟨bu.ext.trans (ba.of_same s),RV.fj aP (λz=>na (aG.g9 a z)) (bu.val.same s),q0,λl=>(q0 (hl.1 l)).one,λ_ ds e=>?_⟩ (aG.grow s);cases e;exact⟨a,xs,rfl,aG.eK bu.ext ha,aP,(bu.val.avoid ha).same s,λl=>((bu.dy (hl.2 l)).avoid ha).same s⟩
theorem B5 (b:BI) (ds:List Dt):∀k,d5 b ds≠ .ex k:=by
 intro k;unfold d5;split <;> split
 all_goals first
  | (intro z;cases z;done)
  | (exact c6 (λk z=>by cases z) k)
  | (split <;> first | (intro z;cases z;done) | (exact c6 (λk z=>by cases z) k) | (split <;> first | (intro z;cases z;done) | (exact c6 (λk z=>by cases z) k)))
  | (rename_i T d;unfold uJ;split <;> (intro z;cases z))
theorem Bv {b:BI} {cs:Cs}:(lk (.bi b cs)=0\/lk (.bi b cs)=2)/\(lk (.bi b cs)<=1->pk cs<=1):=by
 have e:lk (.bi b cs)=if pk cs<=1 then 0 else 2:=by rw[lk]
 rw[e];split
 ·rename_i h;exact⟨.inl rfl,λ_=>h⟩
 ·exact⟨.inr rfl,λz=>by lia⟩
theorem wm {b:BI} {cs:Cs} {σ:L2.St} {H:Hp} {Q:VK} (hK:Φ.K=X.K) (q:bY Φ Γ F fr (.bi b cs) σ H Q):Lv (rP X.K true (d5 b)) (lL Φ Γ F cs) σ H Q:=by
 obtain⟨o,ρ,S,er,q⟩:=q;unfold ev at q;rw[aa] at q;refine⟨o,ρ,S,er,af q λp _ q xs H1 bu aG=>?_⟩;rw[aa] at q;obtain⟨z,hz,q⟩:=jP (B5 _ _) q;refine⟨p.1,z,hK▸Dd bu.val,hz,λv H3 pr=>?_⟩;rw[<-hK] at pr;obtain⟨e1,e2⟩:=EO.pr (fr:=fr) (H:=H) (c:= .bi b cs) aG bu.ext bu.val (λl=>bu.rg (Bv.2 l)) Bv.1 pr λ_=>rfl
 exact q v H3 e1 e2
end
noncomputable def Cs.len:Cs->Nat
 | .nil=>0
 | .cons _ cs=>cs.len + 1
theorem sC {F:FT}:∀{cs:Cs} {ρ:ao} {S:Sx} {p:List Dt×Sx},gN F cs ρ S= .ok p->p.1.length=cs.len
 | .nil,ρ,S,p,h=>by unfold gN at h;cases h;rfl
 | .cons c cs,ρ,S,p,h=>by
  unfold gN at h;cases h1:ev F c ρ S with
  | ok x=>
   rw[h1] at h;simp only[R.ah] at h;cases h2:gN F cs ρ x.2 with
   | ok y=>rw[h2] at h;cases h;simp[Cs.len,sC h2]
   | ex k=>rw[h2] at h;cases h
   | bad=>rw[h2] at h;cases h
  | ex k=>rw[h1] at h;cases h
  | bad=>rw[h1] at h;cases h
section
variable {X:Cx} {Φ:Fm} {Γ:Gm} {F:FT} {g:G} {xv:Nat->Value} {CX:jY} {k:Nat}
theorem oN {H H':Hp} (e:ba (λb=>(none:Option Addr)=some b) H H'):bT H H':=λb o h=>e.kp b o h (by simp)
theorem rd {K:Frag} {A:Addr->Prop} {H:Hp}:∀{ds:List Dt},ds.all ou=true->aq K A H (ds.map qi) ds
 | [],_=>aq.nil
 | d::ds,h=>by rw[List.all_cons,Pd] at h;exact aq.cons (pT h.1) (rd h.2)
theorem s_call {x:Str} {f np j:Nat} {fM:List Dt} {e:Expr} {es:List Expr} {cs:Cs} {p pos:Pos} (hX:HX g xv CX k F Φ X) (hG:Gl X x) (zH:(x==("__debug__":Str))=false) (wN:qF x g.fns=some (f,np,fM,false)) (hj:j<=fM.length) (hn:cs.len + (fM.drop j).length=np)
  (hs:starEach (e::es) X.env=(false,eval e X.env)::starEach es X.env) (qh:(backTo pos (starEach es X.env)).any (·.1)=false) (ha:PA X (e::es) (lL Φ Γ F cs)):PE X (.Call (.Name x p) (e::es) [] pos) (bY Φ Γ F g.fr (.call f cs (fM.drop j))):=by
 obtain⟨n,fx⟩:=hX.fx;obtain⟨fa,fd,ps,IT,hmg,NU,hok,hb,N6⟩:=fx.fn x f np fM false wN;obtain⟨ux,jo,NJ⟩:=hb j hj;refine bB (As hok hX.room hG hmg NU NJ jo hX.pass ha zH hs qh) λσ H Q q=>?_
 obtain⟨o,ρ,S,er,q⟩:=q;unfold ev at q;rw[aa] at q;refine⟨o,ρ,S,er,af q λp hp q vs H1 bu aG=>?_⟩;have Mm:(fM.drop j).all ou=true:=PZ.mpr λd hd=>PZ.mp N6 d (List.mem_of_mem_drop hd)
 rw[aa] at q;have el:lk (.call f cs (fM.drop j))=if pk cs=0 then 0 else 2:=by rw[lk]
 refine⟨?_,?_⟩
 ·rw[Pv,bu.val.length,Pn,sC hp];exact hn
 by_cases hl:pk cs=0
 ·rw[if_pos hl] at el;refine⟨o.A,none,p.1++fM.drop j,none,vs++(fM.drop j).map qi,⟨rfl,rfl,rfl⟩,?_,aG.al,?_⟩
  ·rw[<-hX.K];exact(bu.dy hl).append (rd Mm)
  ·cases hr:F f (p.1++fM.drop j) none with
   | ok y=>rw[hr] at q;intro v H' fo;rw[<-hX.K] at fo;have sm:=oN fo.ext;refine q v H' ⟨bu.ext.trans (ba.of_same sm),fo.val.weak aG.g9,λ_=>fo.val,λ_=>fo.val.one,λfc ds ed=>?_⟩ (aG.grow sm);obtain⟨a,xs,h1,h2,h3,h4⟩:=fo.jB fc ds ed;exact⟨a,xs,h1,aG.eK bu.ext h2,h3,h4.weak λb z=>z.elim (λz=> .inl (aG.g9 b z)) .inr,λ_=>h4⟩
   | ex kk=>rw[hr] at q;intro H' e';exact⟨kk,rfl,q,aG.ent.trans (e'.mono λb z=>by cases z)⟩
   | bad=>rw[hr] at q;exact q.elim
 ·rw[if_neg hl] at el;refine⟨o.wd,none,p.1++fM.drop j,none,vs++(fM.drop j).map qi,⟨rfl,rfl,rfl⟩,?_,aG.vC,?_⟩
  ·rw[<-hX.K];exact bu.val.append (rd Mm)
  ·cases hr:F f (p.1++fM.drop j) none with
   | ok y=>rw[hr] at q;intro v H' fo;rw[<-hX.K] at fo;have sm:=oN fo.ext;refine q v H' ⟨bu.ext.trans (ba.of_same sm),fo.val,λz=>by rw[el] at z;lia,λz=>by rw[el] at z;lia,λfc ds ed=>?_⟩ (aG.grow sm);obtain⟨a,xs,h1,h2,h3,h4⟩:=fo.jB fc ds ed;exact⟨a,xs,h1,aG.eK bu.ext h2,h3,h4,λz=>by rw[el] at z;lia⟩
   | ex kk=>rw[hr] at q;intro H' e';exact⟨kk,rfl,q,aG.ent.trans (e'.mono λb z=>by cases z)⟩
   | bad=>rw[hr] at q;exact q.elim
theorem zu {t:Str} {T:String} (h:rE t=some T):bootBuiltins t=some (.type T):=by
 unfold rE at h;split at h
 ·rename_i e;cases h;rw[PF e];exact PyProof.Rows.boot_str
 split at h
 ·rename_i e;cases h;rw[PF e];exact PyProof.Rows.boot_int
 split at h
 ·rename_i e;cases h;rw[PF e];exact PyProof.Rows.boot_bool
 split at h
 ·rename_i e;cases h;rw[PF e];exact PyProof.Rows.boot_list
 split at h
 ·rename_i e;cases h;rw[PF e];exact PyProof.Rows.boot_tuple
 ·cases h
theorem AZ {t:Str} {T:String} (h:rE t=some T):T="str"\/T="int"\/T="bool"\/T="list"\/T="tuple":=by
 unfold rE at h;split at h
 ·cases h;simp
 split at h
 ·cases h;simp
 split at h
 ·cases h;simp
 split at h
 ·cases h;simp
 split at h
 ·cases h;simp
 ·cases h
theorem CT {K:Frag} {A:Addr->Prop} {H:Hp} {x:V} {d:Dt} {T:String} {b:Bool} (hT:T="str"\/T="int"\/T="bool"\/T="list"\/T="tuple") (hx:RV K A H x d) (h:uJ T d= .ok b):∃t,iy K H x t/\PySem.W.kitOne K t (.type T)=some b:=by
 unfold uJ at h;split at h
 ·cases h;rw[hx.str_inv];refine⟨_,.str _,?_⟩;rcases hT with rfl | rfl | rfl | rfl | rfl <;> rfl
 ·cases h;rw[hx.int_inv];refine⟨_,.int _,?_⟩;rcases hT with rfl | rfl | rfl | rfl | rfl <;> rfl
 ·cases h;rw[hx.ax];refine⟨_,.bl _,?_⟩;rcases hT with rfl | rfl | rfl | rfl | rfl <;> rfl
 ·cases h;obtain⟨a,xs,rfl,h1,_⟩:=hx.lst_inv;refine⟨_,.lst h1,?_⟩;rcases hT with rfl | rfl | rfl | rfl | rfl <;> rfl
 ·cases h;obtain⟨a,xs,rfl,h1,_⟩:=hx.ab;refine⟨_,.tup h1,?_⟩;rcases hT with rfl | rfl | rfl | rfl | rfl <;> rfl
 ·cases h;rw[hx.az];refine⟨_,.aT,?_⟩;rcases hT with rfl | rfl | rfl | rfl | rfl <;> rfl
 ·cases h
theorem zT (T:String) (d:Dt):∀k,uJ T d≠ .ex k:=by intro k;unfold uJ;split <;> (intro z;cases z)
theorem Hk {a:Expr} {a':C} {t:Str} {T:String} {p tp pos:Pos} (hK:Φ.K=X.K) (hG:Gl X "isinstance") (hm:X.mg "isinstance"=none) (Nx:Gl X t) (NY:X.mg t=none) (hT:rE t=some T) (hn:t≠"__name__") (zH:(t==("__debug__":Str))=false)
  (hs:starEach (a::[.Name t tp]) X.env=(false,eval a X.env)::starEach [.Name t tp] X.env) (ha:PE X a (bY Φ Γ F g.fr a')):PE X (.Call (.Name "isinstance" p) [a,.Name t tp] [] pos) (bY Φ Γ F g.fr (.bi (.isi T) (.cons a' .nil))):=by
 refine bB (pH Mx.vT hG hm PyProof.Rows.boot_isinstance (fm ha (fm (Ar (v:= .ty T) Nx NY (zu hT) rfl hn zH) kL) hs) (by decide) (by decide) hs) λσ H Q q=>?_
 obtain⟨o,ρ,S,er,q⟩:=q;unfold ev gN gN at q;rw[aa,aa] at q;refine⟨o,ρ,S,er,af q λp hp q x H1 bu aG=>?_⟩;simp only[R.ah] at q;have q:mR Φ.Ek ((d5 (.isi T) [p.1]).bind λd=>R.ok (d,p.2)) _:=q;unfold d5 at q;simp only at q;rw[aa,aa] at q;obtain⟨b,hb,q⟩:=iK (zT _ _) q;obtain⟨ty,k1,k2⟩:=CT (AZ hT) (hK▸bu.val) hb;refine⟨x,T,ty,b,rfl,k1,k2,q _ _ ?_ aG⟩;exact(EO.sc (Φ:=Φ) (fr:=g.fr) (o:=o) (H:=H1) (c:= .bi (.isi T) (.cons a' .nil)) (d:= .bl b) rfl).uz bu.ext λf=>by simp[fresh] at f
end
noncomputable def KB (K:Frag) (tl:TE):TI:=λσ H R=>tl σ H λx H1=>(∃a xs,x= .ref a/\dB K H1 a xs/\R (Ik K a) H1)\/(∃a xs,x= .ref a/\e9 K H1 a xs/\R (Jp K a) H1)
theorem DL {X:Cx} {tg l:Expr} {tl:TE} (hl:PE X l tl):PI X tg l (KB X.K tl):=by
 intro pins s σ H R I h;refine bV (hl pins s σ H _ I h) λv s1 ⟨x,H1,I1,r1,q1⟩=>?_
 rcases q1 with ⟨a,xs,e,hq,q⟩ | ⟨a,xs,e,hq,q⟩
 ·subst e;cases r1;obtain⟨its,rv,p,hz⟩:=I1.list hq;refine wpAny_pyIter_list p.isList ?_;refine⟨s1.heap.objs.size,[s1.heap.objs.size],_,_,H1,rfl,I1.kept (t':=s1.toks) λb o e=>Pb _ e,vd a _,⟨_,Pl _ rfl,rfl,rfl⟩,λb hb=>?_,q⟩;have e:b=s1.heap.objs.size:=by simpa using hb
  subst e;exact I1.wu (Pj _) (I1.hok.fresh (Pj _))
 ·subst e;cases r1;obtain⟨its,rv,p,hz⟩:=I1.tuple hq;refine wpAny_pyIter_tuple (show s1.heap.IsTuple a its.toArray from p) ?_;refine⟨s1.heap.objs.size,[s1.heap.objs.size],_,_,H1,rfl,I1.kept (t':=s1.toks) λb o e=>Pb _ e,rD a _,⟨_,Pl _ rfl,rfl,rfl⟩,λb hb=>?_,q⟩;have e:b=s1.heap.objs.size:=by simpa using hb
  subst e;exact I1.wu (Pj _) (I1.hok.fresh (Pj _))
section
variable {X:Cx} {Φ:Fm} {Γ:Gm} {F:FT} {g:G} {xv:Nat->Value} {CX:jY} {k:Nat} {K:Frag}
theorem t6 {A Y:Addr->Prop} {a:Addr} {xs:List V} {ds:List Dt} {H:Hp} (ha:H a=some (.lst xs)) (hn:¬Y a) (hY:∀b,Y b->A b) (h:aq K A H xs ds):Wk K A Y (Ik K a) H ds where
 go:=λi H1 hi e=>⟨xs,xs[i]'(by rw[h.length];exact hi),dB.of (e.kp _ _ ha hn),by simp⟩
 stop:=λH1 e=>⟨xs,dB.of (e.kp _ _ ha hn),by rw[h.length];exact Pj _⟩
 yld:=λi x H1 H2 hi e y=>by obtain⟨rfl,y⟩:=y;obtain⟨d,h1,h2⟩:=h.get (y xs (dB.of (e.kp _ _ ha hn)));exact⟨bT.refl _,d,h1,λB hB=>(h2.b8 (B:=λb=>A b\/B b) λb z=>z.elim .inl (hB b)).mono e (λb z=> .inl (hY b z)) λ_ z=> .inr z⟩
theorem rH {A Y:Addr->Prop} {a:Addr} {xs:List V} {ds:List Dt} {H:Hp} (ha:H a=some (.tup xs)) (hY:∀b,Y b->A b) (h:aq K A H xs ds):Wk K A Y (Jp K a) H ds where
 go:=λi H1 hi e=>⟨xs,xs[i]'(by rw[h.length];exact hi),e9.of (e.tp _ _ ha),by simp⟩
 stop:=λH1 e=>⟨xs,e9.of (e.tp _ _ ha),by rw[h.length];exact Pj _⟩
 yld:=λi x H1 H2 hi e y=>by obtain⟨rfl,y⟩:=y;obtain⟨d,h1,h2⟩:=h.get (y xs (e9.of (e.tp _ _ ha)));exact⟨bT.refl _,d,h1,λB hB=>(h2.b8 (B:=λb=>A b\/B b) λb z=>z.elim .inl (hB b)).mono e (λb z=> .inl (hY b z)) λ_ z=> .inr z⟩
theorem yA {A Y:Addr->Prop} {a:Addr} {ns:List Int} {H:Hp} (ha:(Rd H a (.lst (ns.map V.int))/\¬Y a)\/KL K a (ns.map V.int)):Wk K A Y (Ik K a) H (ns.map Dt.int):=by
 have sq:∀H1,ba Y H H1->dB K H1 a (ns.map V.int):=λH1 e=>by
  rcases ha with ⟨h,n⟩ | h
  ·exact .inl (xZ e n h)
  ·exact .inr h
 refine⟨λi H1 hi e=>?_,λH1 e=>⟨_,sq H1 e,by simp⟩,λi x H1 H2 hi e y=>?_⟩
 ·rw[Pn] at hi;exact⟨_,.int ns[i],sq H1 e,by simp[hi]⟩
 ·obtain⟨rfl,y⟩:=y;have:=y _ (sq _ e);rw[Py] at this;obtain⟨m,h1,rfl⟩:=Pu.mp this;exact⟨bT.refl _,.int m,by simp[h1],λ_ _=>RV.df⟩
theorem rG {A Y:Addr->Prop} {lo:Int} {n:Nat} {H:Hp}:Wk K A Y (Il lo n) H (aS lo n) where
 go:=λi H1 hi e=>by unfold aS at hi;simp at hi;exact hi
 stop:=λH1 e=>by unfold aS;simp only[Pn,List.length_range];exact Pj _
 yld:=λi x H1 H2 hi e y=>by obtain⟨rfl,rfl⟩:=y;unfold aS at hi;simp at hi;exact⟨bT.refl _,.int (lo + i),by unfold aS;simp[hi],λ_ _=>RV.df⟩
theorem yb {tg a:Expr} {a':C} (hK:Φ.K=X.K) (ha:PE X a (bY Φ Γ F g.fr a')):PI X tg a (n9 Φ Γ F (.seq a')):=qY (DL ha) λσ H Q q=>by
 obtain⟨o,ρ,S,er,q⟩:=q;unfold dN at q;rw[aa] at q;refine⟨o,ρ,S,er,af q λp he q x H1 bu aG=>?_⟩;have yS:qM (.seq a')=lk a':=rfl;cases hd:p.1 with
 | lst ds=>
  rw[hd] at q;have hv:=bu.val;have h0:=bu.dy;have h1:=bu.rg;rw[hd] at hv h0 h1;obtain⟨b,xs,rfl,f1,fn,f2⟩:=hv.lst_inv;refine .inl ⟨b,xs,rfl,dB.of f1,q _ _ ⟨bu.ext,λl=>?_,λl=>?_,λl=>by unfold lB at l;rw[he] at l;simp only[hd,kH] at l;cases l⟩ aG⟩
  ·rw[<-hK];exact t6 f1 (λz=>fn (.inr z)) aG.da (fw.aO (h1 (by rw[yS] at l;exact l)) f1)
  ·rw[<-hK];have:=h0 (by rw[yS] at l;exact l);obtain⟨b',vh,e',g1,gn,g2⟩:=this.lst_inv;cases e';exact t6 g1 gn (λ_ z=>z) g2
 | tup ds=>
  rw[hd] at q;have hv:=bu.val;have h0:=bu.dy;have h1:=bu.rg;rw[hd] at hv h0 h1;obtain⟨b,xs,rfl,f1,f2⟩:=hv.ab;refine .inr ⟨b,xs,rfl,e9.of f1,q _ _ ⟨bu.ext,λl=>?_,λl=>?_,λl=>?_⟩ aG⟩
  ·rw[<-hK];exact rH f1 aG.da (fw.ar (h1 (by rw[yS] at l;exact l)) f1)
  ·rw[<-hK];exact rH f1 (λ_ z=>z) (fw.ar (h0 (by rw[yS] at l;exact l)).one f1)
  ·rw[<-hK];unfold lB at l;rw[he] at l;simp only[hd] at l;exact rH f1 (λ_ z=>z) (fw.ar (hv.kH l:RV Φ.K o.A H1 (.ref b) (.tup ds)).one f1)
 | dw ns=>
  rw[hd] at q;have hv:=bu.val;have h0:=bu.dy;rw[hd] at hv h0;obtain⟨b,rfl,hb⟩:=hv.dX;have N8:dB X.K H1 b (ns.map V.int):=by
   rw[<-hK];rcases hb with hb | hb
   ·exact .inl hb.1
   ·exact .inr hb
  refine .inl ⟨b,_,rfl,N8,q _ _ ⟨bu.ext,λl=>?_,λl=>?_,λl=>by unfold lB at l;rw[he] at l;simp only[hd,kH] at l;cases l⟩ aG⟩
  ·rw[<-hK];exact yA (hb.imp (λz=>⟨z.1,λw=>z.2 (.inr w)⟩) id)
  ·rw[<-hK];obtain⟨b',e',lh⟩:=(h0 (by rw[yS] at l;exact l)).dX;cases e';exact yA lh
 | _=>rw[hd] at q;exact q.elim
theorem D4 {tg a:Expr} {a':C} {p pos:Pos} (hG:Gl X "range") (hm:X.mg "range"=none) (hs:starEach [a] X.env=[(false,eval a X.env)]) (ha:PE X a (bY Φ Γ F g.fr a')):PI X tg (.Call (.Name "range" p) [a] [] pos) (n9 Φ Γ F (.rng1 a')):=
 qY (uX hG hm (fm ha kL (by rw[hs];rfl)) hs) λσ H Q q=>by
 obtain⟨o,ρ,S,er,q⟩:=q;unfold dN at q;rw[aa] at q;refine⟨o,ρ,S,er,af q λp _ q x H1 bu aG=>?_⟩;cases hd:p.1 with
 | int j=>rw[hd] at q;obtain⟨g1,q⟩:=aZ q;rw[Pd] at g1;have a1:=Pf g1.1;have a2:=Pf g1.2;have hl:lim=1000000:=rfl;have hv:=bu.val;rw[hd] at hv;exact⟨j,by rw[hv.int_inv],by lia,by lia,q _ _ ⟨bu.ext,λ_=>rG,λ_=>rG,λ_=>rG⟩ aG⟩
 | _=>rw[hd] at q;exact q.elim
theorem yB {A Y:Addr->Prop} {b1 b2:Bool} {l1 l2:Addr} {xs ys:List V} {ds es:List Dt} {H:Hp} (h1:H l1=some (Mx.qg b1 xs)) (h2:H l2=some (Mx.qg b2 ys)) (n1:b1=false->¬Y l1) (n2:b2=false->¬Y l2) (hY:∀b,Y b->A b) (g1:aq K A H xs ds) (g2:aq K A H ys es):Wk K A Y (Mx.Jo b1 b2 l1 l2) H (cU ds es):=by
 have k1:∀H1,ba Y H H1->H1 l1=some (Mx.qg b1 xs):=λH1 e=>by
  cases b1 with
  | false=>exact e.kp _ _ h1 (n1 rfl)
  | true=>exact e.tp _ _ h1
 have k2:∀H1,ba Y H H1->H1 l2=some (Mx.qg b2 ys):=λH1 e=>by
  cases b2 with
  | false=>exact e.kp _ _ h2 (n2 rfl)
  | true=>exact e.tp _ _ h2
 have hz:(cU ds es).length=min xs.length ys.length:=by unfold cU;rw[List.length_zipWith,g1.length,g2.length]
 refine⟨λi H1 hi e=>?_,λH1 e=>?_,λi x H1 H2 hi e y=>?_⟩
 ·rw[hz] at hi;exact⟨xs,ys,xs[i]'(by lia),ys[i]'(by lia),k1 H1 e,k2 H1 e,by simp,by simp⟩
 ·exact⟨xs,ys,k1 H1 e,k2 H1 e,by lia⟩
 ·obtain⟨p,x1,y1,rfl,hp,rfl,q⟩:=y;obtain⟨q1,q2⟩:=q xs ys (k1 H1 e) (k2 H1 e);obtain⟨d,a1,a2⟩:=g1.get q1;obtain⟨c,c1,c2⟩:=g2.get q2;have s:=Mx.dG hp (.tup [x1,y1]);refine⟨s,.tup [d,c],by unfold cU;rw[List.getElem?_zipWith,a1,c1],λB hB=>RV.d8 aP ?_⟩;have av:∀{v:V} {dd:Dt},RV K A H v dd->RV K B (upd H1 p (.tup [x1,y1])) v dd:=λh=>((h.b8 (B:=λb=>A b\/B b) λb z=>z.elim .inl (hB b)).mono e (λb z=> .inl (hY b z)) λ_ z=> .inr z).same s
  exact aq.cons (av a2) (aq.cons (av c2) aq.nil)
theorem eO {A B:Addr->Prop} {H:Hp} {x:V} {d:Dt} {ds:List Dt} (h:c8 d=some ds) (hv:RV K A H x d) (h1:fw K B H x d):∃b l xs,x= .ref l/\H l=some (Mx.qg b xs)/\(b=false->¬A l)/\aq K B H xs ds:=by
 unfold c8 at h;split at h
 ·cases h;obtain⟨a,xs,rfl,f1,fn,f2⟩:=hv.lst_inv;exact⟨false,a,xs,rfl,f1,λ_=>fn,fw.aO h1 f1⟩
 ·cases h;obtain⟨a,xs,rfl,f1,f2⟩:=hv.ab;exact⟨true,a,xs,rfl,f1,λz=>(by cases z),fw.ar h1 f1⟩
 ·cases h
theorem Hu {es:List Expr} {kk:Nat} {tp:Pos} {a b:Expr} {a' b':C} {p pos:Pos} (hK:Φ.K=X.K) (hG:Gl X "zip") (hm:X.mg "zip"=none) (hs:starEach [a,b] X.env=[(false,eval a X.env),(false,eval b X.env)]) (EU:starEach [b] X.env=[(false,eval b X.env)]) (ha:PE X a (bY Φ Γ F g.fr a')) (hb:PE X b (bY Φ Γ F g.fr b')):
  PI X (.Tuple es kk tp) (.Call (.Name "zip" p) [a,b] [] pos) (n9 Φ Γ F (.zip a' b')):=
 qY (Mx.Ay hG hm (fm ha (fm hb kL (by rw[EU];rfl)) (by rw[hs,EU])) hs EU) λσ H Q q=>by
 obtain⟨o,ρ,S,er,q⟩:=q;unfold dN at q;rw[aa] at q;refine⟨o,ρ,S,er,af q λp _ q x H1 bu aG=>?_⟩;rw[aa] at q;refine⟨o,ρ,p.2,aG,af q λp2 _ q y H2 eo2 fN=>?_⟩;have yS:qM (.zip a' b')=max (lk a') (lk b'):=rfl;split at q
 ·rename_i ds es e1 e2;obtain⟨k1,k2,k3⟩:=bu.keep eo2.ext er.g9;obtain⟨c1,l1,xs,rfl,f1,Ng,f2⟩:=eO e1 k1 k1.one;obtain⟨c2,l2,ys,rfl,g1,Ni,g2⟩:=eO e2 eo2.val eo2.val.one;refine⟨c1,c2,l1,l2,xs,ys,rfl,f1,g1,q _ _ ⟨bu.ext.trans eo2.ext,λl=>?_,λl=>?_,λl=>by unfold lB at l;cases l⟩ fN⟩
  ·rw[yS] at l;obtain⟨Fk,Og,vh,e',Cr,_,JQ⟩:=eO e1 k1 (k3 (by lia));obtain⟨Fo,Oh,EB,EH,Cv,_,JT⟩:=eO e2 eo2.val (eo2.rg (by lia));cases e';cases EH;have i1:c1=Fk/\xs=vh:=by rw[f1] at Cr;cases c1 <;> cases Fk <;> first | (cases Cr;exact⟨rfl,rfl⟩) | cases Cr
   have i2:c2=Fo/\ys=EB:=by rw[g1] at Cv;cases c2 <;> cases Fo <;> first | (cases Cv;exact⟨rfl,rfl⟩) | cases Cv
   obtain⟨rfl,rfl⟩:=i1;obtain⟨rfl,rfl⟩:=i2;exact yB f1 g1 (λz w=>Ng z (.inr w)) (λz w=>Ni z (.inr w)) fN.da JQ JT
  ·rw[yS] at l;obtain⟨Fk,Og,vh,e',Cr,GG,JQ⟩:=eO e1 (k2 (by lia)) (k2 (by lia)).one;obtain⟨Fo,Oh,EB,EH,Cv,De,JT⟩:=eO e2 (eo2.dy (by lia)) (eo2.dy (by lia)).one;cases e';cases EH;have i1:c1=Fk/\xs=vh:=by rw[f1] at Cr;cases c1 <;> cases Fk <;> first | (cases Cr;exact⟨rfl,rfl⟩) | cases Cr
   have i2:c2=Fo/\ys=EB:=by rw[g1] at Cv;cases c2 <;> cases Fo <;> first | (cases Cv;exact⟨rfl,rfl⟩) | cases Cv
   obtain⟨rfl,rfl⟩:=i1;obtain⟨rfl,rfl⟩:=i2;exact yB f1 g1 GG De (λ_ z=>z) JQ JT
 ·exact q.elim
end
noncomputable def yo:List Nat->vz
 | []=>Cw
 | i::is=>wx (eD i) (yo is)
noncomputable def AV (K:Frag):Tg->TG
 | .nm i=>eD i
 | .tp is=>Cy K is.length (yo is)
section
variable {X:Cx} {Φ:Fm} {Γ:Gm} {F:FT} {g:G} {xv:Nat->Value} {CX:jY} {k:Nat} {K:Frag}
theorem kU {x:Str} {i:Nat} (h:gK Γ x=some i):xt (Γ.names.lookup x)=true/\fk x=true/\Γ.N[i]?=some x:=by
 unfold gK at h;split at h
 ·rename_i c;rw[Pd] at c;exact⟨c.1,c.2,nE h⟩
 ·cases h
theorem tQ {x:Str} {i:Nat} (h:slot Γ x=some i):yz (Γ.names.lookup x)=true/\fk x=true/\Γ.N[i]?=some x:=by
 unfold slot at h;split at h
 ·rename_i c;rw[Pd] at c;exact⟨c.1,c.2,nE h⟩
 ·cases h
theorem iR {e:Expr} {i:Nat} (h:pG Γ e=some i):∃x p,e= .Name x p/\gK Γ x=some i/\plainS Γ i=true:=by
 unfold pG at h;split at h
 ·rename_i x p;obtain⟨j,h1,h2⟩:=Pa.mp h;split at h2
  ·cases h2;exact⟨x,p,rfl,h1,by assumption⟩
  ·cases h2
 ·cases h
theorem BD {e:Expr} {i:Nat} (gx:GX g Γ X) (h:pG Γ e=some i):PG X e (eD i):=by obtain⟨x,p,rfl,h1,_⟩:=iR h;obtain⟨a,b,c⟩:=kU h1;obtain⟨l1,l2⟩:=gx.loc x a;exact Aw (gx.N▸gx.nd) (by rw[gx.N];exact c) l1 l2
theorem BE (gx:GX g Γ X):∀{es:List Expr} {is:List Nat},gT Γ es=some is->E5 X es (yo is)/\es.length=is.length/\∀e∈es,∃x p,e= .Name x p
 | [],is,h=>by cases h;exact⟨Ax,rfl,λe z=>by cases z⟩
 | e::es,is,h=>by
  unfold gT at h;obtain⟨i,h1,h2⟩:=Pa.mp h;obtain⟨js,h3,rfl⟩:=Pu.mp h2;obtain⟨k1,k2,k3⟩:=BE gx h3;obtain⟨x,p,ex,_⟩:=iR h1;refine⟨xP (BD gx h1) k1 (by subst ex;rfl),by simp[k2],λe' z=>?_⟩;rcases Pq.mp z with rfl | z
  ·exact⟨x,p,ex⟩
  ·exact k3 e' z
theorem kG {env:Env}:∀{es:List Expr},(∀e∈es,∃x p,e=Expr.Name x p)->(assignEach es env).length=es.length/\(assignEach es env).findIdx? (·.1)=none
 | [],_=>⟨rfl,rfl⟩
 | e::es,h=>by
  obtain⟨x,p,rfl⟩:=h e Pk;obtain⟨h1,h2⟩:=kG (es:=es) (env:=env) λe' z=>h e' (Ph _ z)
  have q:assignEach (Expr.Name x p::es) env=(false,assign (.Name x p) env)::assignEach es env:=rfl;rw[q];refine⟨by simp[h1],?_⟩;rw[List.findIdx?_cons];simp[h2]
theorem pV {e:Expr} {t:Tg} (gx:GX g Γ X) (h:oF Γ e=some t):PG X e (AV X.K t):=by
 unfold oF at h;split at h
 ·obtain⟨i,h1,rfl⟩:=Pu.mp h;exact BD gx h1
 ·obtain⟨is,h1,rfl⟩:=Pu.mp h;obtain⟨k1,k2,k3⟩:=BE gx h1;obtain⟨n1,n2⟩:=kG (env:=X.env) k3;exact DK gx.calm k1 (by rw[n1,k2]) n2
 ·cases h
theorem eS {e:Expr} {t:Tg} (h:oF Γ e=some t):∀i∈aX t,plainS Γ i=true/\∃x,gK Γ x=some i:=by
 have many:∀{es:List Expr} {is:List Nat},gT Γ es=some is->∀i∈is,plainS Γ i=true/\∃x,gK Γ x=some i:=by
  intro es
  induction es with
  | nil=>intro is h i hi;cases h;cases hi
  | cons e es ih=>
   intro is h i hi;unfold gT at h;obtain⟨j,h1,h2⟩:=Pa.mp h;obtain⟨js,h3,rfl⟩:=Pu.mp h2;rcases Pq.mp hi with rfl | hi
   ·obtain⟨x,p,_,k1,k2⟩:=iR h1;exact⟨k2,x,k1⟩
   ·exact ih h3 i hi
 unfold oF at h;split at h
 ·obtain⟨j,h1,rfl⟩:=Pu.mp h;intro i hi;have:i=j:=by simpa [aX] using hi
  subst this;obtain⟨x,p,_,k1,k2⟩:=iR h1;exact⟨k2,x,k1⟩
 ·obtain⟨is,h1,rfl⟩:=Pu.mp h;exact many h1
 ·cases h
theorem iS {i:Nat} (h:plainS Γ i=true):fH Γ i=false/\Γ.δ≠some i:=by unfold plainS at h;rw[Pd] at h;refine⟨by simpa using h.1,λe=>?_⟩;rw[e] at h;simp at h
theorem ER.set {o:Ow} {ρ:ao} {S:Sx} {σ:L2.St} {H:Hp} {i:Nat} {v:V} {d:Dt} (er:ER Φ Γ o ρ S σ H) (hp:plainS Γ i=true) (h:RV Φ.K o.A H v d):ER Φ Γ o (ρ.set i (some d)) S (σ.set i (some v)) H where
 len:=by rw[List.length_set,List.length_set];exact er.len
 wa:=er.wa
 da:=er.da
 al:=er.al
 val:=λj e he=>by
  by_cases hj:j=i
  ·subst hj;rw[List.getElem?_set] at he;simp only[if_true] at he;split at he
   ·rename_i cJ;cases he;refine⟨v,by rw[Qc (by rw[er.len];exact cJ)],?_⟩;rw[(iS hp).1,if_neg (by simp)];exact h
   ·cases he
  ·rw[Pw (Ne.symm hj)] at he;obtain⟨w,h1,h2⟩:=er.val j e he;exact⟨w,by rw[Pw (Ne.symm hj)];exact h1,h2⟩
 inj:=λa b c e f ha hb h1 h2 h3 h4=>by
  have na:a≠i:=λz=>by rw[z,(iS hp).1] at ha;cases ha
  have nb:b≠i:=λz=>by rw[z,(iS hp).1] at hb;cases hb
  rw[Pw (Ne.symm na)] at h1 h3;rw[Pw (Ne.symm nb)] at h2 h4;exact er.inj a b c e f ha hb h1 h2 h3 h4
 dk:=Dk.set er.dk h.nd
 drw:=er.drw
 drn:=er.drn
 drs:=λj a hj ha=>by rw[Pw (λz=>(iS hp).2 (by rw[z];exact hj))];exact er.drs j a hj ha
 dr0:=er.dr0
 ent:=er.ent
theorem tW {o:Ow} {S:Sx} {H:Hp} {Q:L2.St->Hp->Prop}:∀{is:List Nat} {ds:List Dt} {xs:List V} {ρ ρ1:ao} {σ:L2.St},ER Φ Γ o ρ S σ H->(∀i∈is,plainS Γ i=true)->aq Φ.K o.A H xs ds->jv is ds ρ= .ok ρ1->(∀σ1,ER Φ Γ o ρ1 S σ1 H->(∀k,k∉is->σ1[k]?=σ[k]?/\ρ1[k]?=ρ[k]?)->Q σ1 H)->yo is xs σ H Q/\xs.length=is.length
 | [],ds,xs,ρ,ρ1,σ,er,_,hx,h,q=>by
  cases ds with
  | nil=>cases h;rw[hx.nil_inv];exact⟨⟨rfl,q σ er λ_ _=>⟨rfl,rfl⟩⟩,rfl⟩
  | cons=>cases h
 | i::is,ds,xs,ρ,ρ1,σ,er,hp,hx,h,q=>by
  cases ds with
  | nil=>cases h
  | cons d ds=>
   obtain⟨x,r,rfl,h1,h2⟩:=hx.cons_inv;obtain⟨k1,k2⟩:=tW (er.set (hp i Pk) h1) (λj hj=>hp j (Ph _ hj)) h2 h λσ1 aG hk=>q σ1 aG λk yR=>by
    have n1:k≠i:=λz=>yR (by rw[z];exact Pk)
    obtain⟨a1,a2⟩:=hk k λz=>yR (Ph _ z)
    rw[Pw (Ne.symm n1)] at a1 a2;exact⟨a1,a2⟩
   exact⟨⟨x,r,rfl,k1⟩,by simp[k2]⟩
theorem rj {o:Ow} {S:Sx} {H:Hp} {Q:L2.St->Hp->Prop} {t:Tg} {d:Dt} {x:V} {ρ ρ1:ao} {σ:L2.St} (er:ER Φ Γ o ρ S σ H) (hp:∀i∈aX t,plainS Γ i=true) (hx:RV Φ.K o.A H x d) (h:eQ t d ρ= .ok ρ1) (q:∀σ1,ER Φ Γ o ρ1 S σ1 H->(∀k,k∉aX t->σ1[k]?=σ[k]?/\ρ1[k]?=ρ[k]?)->Q σ1 H):AV Φ.K t x σ H Q:=by
 cases t with
 | nm i=>
  cases h;exact q _ (er.set (hp i (by simp[aX])) hx) λk hk=>by
   have n1:k≠i:=λz=>hk (by simp[aX,z])
   rw[Pw (Ne.symm n1),Pw (Ne.symm n1)];exact⟨rfl,rfl⟩
 | tp is=>
  unfold eQ at h;cases d with
  | tup ds=>obtain⟨a,xs,rfl,h1,h2⟩:=hx.ab;obtain⟨k1,k2⟩:=tW er hp h2 h q;exact⟨a,xs,rfl,e9.of h1,k2,k1⟩
  | _=>cases h
theorem pW:∀(is:List Nat) (ds:List Dt) (ρ:ao) (k:Nat),jv is ds ρ≠ .ex k
 | [],[],_,_=>λz=>by cases z
 | [],_::_,_,_=>λz=>by cases z
 | _::_,[],_,_=>λz=>by cases z
 | _::is,_::ds,ρ,k=>pW is ds _ k
theorem kS (t:Tg) (d:Dt) (ρ:ao):∀k,eQ t d ρ≠ .ex k:=by
 intro k;cases t with
 | nm i=>intro z;cases z
 | tp is=>
  cases d with
  | tup ds=>exact pW is ds ρ k
  | _=>intro z;cases z
theorem kE {Ek:Nat->Prop} {α:Type} {r:R α} {P:α->Prop} (dD:∀k,r≠ .ex k) (h:mR Ek r P):∃d,r= .ok d/\P d:=by
 cases r with
 | ok a=>exact⟨a,rfl,h⟩
 | ex k=>exact absurd rfl (dD k)
 | bad=>exact h.elim
theorem qw {sc:Scope} (gx:GX g Γ X) (hk:sc.kind= .function) (hb:vP sc.names Γ.names (a8 Γ sc).1.N Γ.N (a8 Γ sc).2=true):fv X sc (a8 Γ sc).1.N (a8 Γ sc).2:=by
 unfold vP at hb;rw[Pd,Pd] at hb;obtain⟨⟨h1,h2⟩,h3⟩:=hb;rw[PZ] at h1 h3;refine⟨hk,λy hy=>?_,λy hy e=>?_,λj i hj=>?_,by simpa using h2⟩
 ·have:=h1 y hy;rw[Pd] at this;exact PF this.1
 ·have:=h1 y hy;rw[Pd,e] at this;have h:=this.2;simp at h;exact gx.fre y.1 h
 ·have cJ:j < (a8 Γ sc).2.length:=(Pg.mp hj).1;have:=h3 j (Qd.mpr cJ);rw[hj] at this;simp only at this;cases hx:(a8 Γ sc).1.N[j]? with
  | none=>rw[hx] at this;cases this
  | some x=>rw[hx] at this;simp only[Pd] at this;exact⟨x,rfl,by rw[gx.N];exact PF this.1,PF this.2⟩
theorem fg {sc:Scope} {C:Addr} {s:Shared} {H:Hp} {fp:List Addr} {xe:Value->Shared->Prop} (gx:GX g Γ X) (B:fv X sc (a8 Γ sc).1.N (a8 Γ sc).2) (jq:(a8 Γ sc).1.N.Nodup):GX g (a8 Γ sc).1 (gw X sc (a8 Γ sc).1.N C s H fp xe) where
 N:=rfl
 nd:=jq
 vis:=λx h=>by
  have hn:(a8 Γ sc).1.names=sc.names:=rfl;rw[hn] at h;cases hl:sc.names.lookup x with
  | none=>rw[hl] at h;cases h
  | some kk=>
   have q:=aY (env:=X.env) hl;have q':(gw X sc (a8 Γ sc).1.N C s H fp xe).env.scope.names.lookup x=_:=q;by_cases hc:(kk==NameKind.free&&X.env.scope.kind== .function&&X.env.kindOf x==some .cell)=true
   ·rw[if_pos hc] at q';exact .inr (.inl q')
   ·rw[if_neg hc] at q';rw[hl] at h;cases kk with
    | «local»=>exact .inl q'
    | cell=>exact .inr (.inl q')
    | free=>exact .inr (.inr q')
    | globalExplicit=>cases h
    | globalImplicit=>cases h
 loc:=λx h=>by
  have hn:(a8 Γ sc).1.names=sc.names:=rfl;rw[hn] at h;cases hl:sc.names.lookup x with
  | none=>rw[hl] at h;cases h
  | some kk=>
   have q:=aY (env:=X.env) hl;have q':(gw X sc (a8 Γ sc).1.N C s H fp xe).env.scope.names.lookup x=_:=q;rw[hl] at h;cases kk with
   | «local»=>rw[if_neg (by simp)] at q';exact⟨.inl q',.inr q'⟩
   | cell=>rw[if_neg (by simp)] at q';exact⟨.inr q',.inl (by show (sc.names.lookup x==some .cell)=true;rw[hl];rfl)⟩
   | free=>cases h
   | globalExplicit=>cases h
   | globalImplicit=>cases h
 gl:=λx h=>by
  have hn:(a8 Γ sc).1.names=sc.names:=rfl;rw[hn] at h;cases hl:sc.names.lookup x with
  | none=>rw[hl] at h;cases h
  | some kk=>
   have q:=aY (env:=X.env) hl;have q':(gw X sc (a8 Γ sc).1.N C s H fp xe).env.scope.names.lookup x=_:=q;rw[hl] at h;cases kk with
   | globalImplicit=>rw[if_neg (by simp)] at q';exact q'
   | «local»=>cases h
   | cell=>cases h
   | free=>cases h
   | globalExplicit=>cases h
 fre:=λx h=>by
  have hn:(a8 Γ sc).1.names=sc.names:=rfl;rw[hn] at h;rcases h with hl | hl
  ·have q:=aY (env:=X.env) hl;have q':(gw X sc (a8 Γ sc).1.N C s H fp xe).env.scope.names.lookup x=_:=q;rw[if_neg (by simp)] at q';exact .inl q'
  ·have q:=aY (env:=X.env) hl;have q':(gw X sc (a8 Γ sc).1.N C s H fp xe).env.scope.names.lookup x=_:=q;by_cases hc:(NameKind.free==NameKind.free&&X.env.scope.kind== .function&&X.env.kindOf x==some .cell)=true
   ·rw[if_pos hc] at q';exact .inl q'
   ·rw[if_neg hc] at q';exact .inr q'
 calm:=gx.calm
 un:=gx.un
 con:=gx.con
 bl:=gx.bl
end
theorem join_some {α:Type} {o:Option (Option α)} {a:α} (h:o.join=some a):o=some (some a):=by
 cases o with
 | none=>cases h
 | some x=>cases x with
  | none=>cases h
  | some y=>simp at h;rw[h]
theorem fK {cap:List (Option Nat)} {ρ:ao} {j:Nat} {d:Dt} (h:(jA cap ρ)[j]?=some (some d)):∃i,cap[j]?=some (some i)/\ρ[i]?=some (some d):=by
 unfold jA at h;rw[Py] at h;cases hc:cap[j]? with
 | none=>rw[hc] at h;cases h
 | some o=>
  rw[hc] at h;cases o with
  | none=>cases h
  | some i=>refine⟨i,rfl,join_some ?_⟩;simpa using h
theorem ej {cap:List (Option Nat)} {σ:L2.St} {i j:Nat} {v:V} (hc:cap[j]?=some (some i)) (h:σ[i]?=some (some v)):(cY cap σ)[j]?=some (some v):=by unfold cY;rw[Py,hc];simp[h]
theorem sU {δ:Option Nat}:∀{cap:List (Option Nat)} {j:Nat},yU δ cap=some j->∃i,δ=some i/\cap[j]?=some (some i)
 | [],j,h=>by simp[yU] at h
 | o::r,j,h=>by
  unfold yU at h;split at h
  ·rename_i c;rw[Pd] at c;cases h;cases δ with
   | none=>simp at c
   | some i=>exact⟨i,rfl,by simp[PF c.2]⟩
  ·obtain⟨k,h1,rfl⟩:=Pu.mp h;obtain⟨i,h2,h3⟩:=sU h1;exact⟨i,h2,by simpa using h3⟩
section
variable {X:Cx} {Φ:Fm} {Γ:Gm} {F:FT} {g:G} {xv:Nat->Value} {CX:jY} {k:Nat} {K:Frag}
noncomputable def Ow.plus (o:Ow) (D:Addr):Ow:=⟨o.W,λb=>o.A b\/b=D,o.dr⟩
theorem jM {sc:Scope} {i j:Nat} (hc:(a8 Γ sc).2[j]?=some (some i)):fH (a8 Γ sc).1 j=fH Γ i:=by have e:(a8 Γ sc).1.M=Ca (a8 Γ sc).2 Γ.M:=rfl;unfold fH;rw[e];unfold Ca;rw[Py,hc];simp
theorem pd {i:Nat}:∀{cap:List (Option Nat)} {j:Nat},cap[j]?=some (some i)->∃j',yU (some i) cap=some j'/\cap[j']?=some (some i)
 | [],j,h=>by cases h
 | o::r,j,h=>by
  unfold yU;by_cases e:o=some i
  ·refine⟨0,?_,by rw[e];rfl⟩;rw[e];simp
  ·rw[if_neg (by simp[e])];cases j with
   | zero=>cases h;exact absurd rfl e
   | succ j=>obtain⟨j',h1,h2⟩:=pd (cap:=r) (j:=j) h;exact⟨j' + 1,by rw[h1];rfl,h2⟩
theorem ER.a8 {sc:Scope} {o:Ow} {ρ:ao} {S:Sx} {σ:L2.St} {H:Hp} {D:Addr} (er:ER Φ Γ o ρ S σ H) (B:fv X sc (a8 Γ sc).1.N (a8 Γ sc).2) (jq:(Rx.a8 Γ sc).1.N.Nodup) (hD:H D=none):
  ER Φ (Rx.a8 Γ sc).1 (o.plus D) (jA (Rx.a8 Γ sc).2 ρ) S (cY (Rx.a8 Γ sc).2 σ) (upd H D (.lst [])):=by
 have s:=Mx.dG hD (.lst []);have av:∀b,(o.A b\/b=D)->o.A b\/H b=none:=λb z=>z.elim .inl λe=> .inr (by rw[e];exact hD)
 refine⟨?_,λa h=> .inl (er.wa a h),λa h=> .inl (er.da a h),λa h=>?_,λj d h=>?_,λj ks vs h=>?_,λj j' a d e hm hm' h1 h2 h3 h4=>?_,λa h=>?_,er.drn,λj a hj ha=>?_,er.dr0,er.ent.trans (ba.of_same s)⟩
 ·unfold cY jA;rw[Pn,Pn]
 ·rcases h with h | h
  ·obtain⟨x,hx⟩:=er.al a h;exact⟨x,s _ _ hx⟩
  ·subst h;exact⟨_,aP⟩
 ·obtain⟨i,hc,hr⟩:=fK h;obtain⟨v,h1,h2⟩:=er.val i d hr;refine⟨v,ej hc h1,?_⟩;rw[jM hc];by_cases hm:fH Γ i=true
  ·rw[if_pos hm] at h2 ⊢;cases d with
   | lst ds=>obtain⟨a,xs,e1,e2,e3,e4,e5,e6,e7⟩:=h2;exact⟨a,xs,e1,s _ _ e2,.inl e3,e4,e5,e6,(e7.b8 av).same s⟩
   | f9=>exact h2.elim
   | _=>exact RV.same (RV.b8 av h2) s
  ·rw[if_neg hm] at h2 ⊢;exact(h2.b8 av).same s
 ·obtain⟨i,hc,hr⟩:=fK h;have hk:=er.dk i ks vs hr;obtain⟨j',k1,k2⟩:=pd hc;obtain⟨x,n1,n2,_⟩:=B.uu j i hc;obtain⟨x',GG,De,_⟩:=B.uu j' i k2;rw[n2] at De;cases De;show yU Γ.κ (Rx.a8 Γ sc).2=some j;rw[hk,k1,iO jq n1 GG]
 ·obtain⟨i,hc,hr⟩:=fK h1;obtain⟨i',nq,hJ⟩:=fK h2;rw[jM hc] at hm;rw[jM nq] at hm';obtain⟨v,k1,_⟩:=er.val i _ hr;obtain⟨v',Mq,_⟩:=er.val i' _ hJ;rw[ej hc k1] at h3;rw[ej nq Mq] at h4;cases h3;cases h4;have:=er.inj i i' a d e hm hm' hr hJ k1 Mq;subst this;obtain⟨x,n1,n2,_⟩:=B.uu j i hc;obtain⟨x',GG,De,_⟩:=B.uu j' i nq;rw[n2] at De;cases De;exact iO jq n1 GG
 ·obtain⟨ns,e1,e2⟩:=er.drw a h;exact⟨ns,e1,s _ _ e2⟩
 ·obtain⟨i,h1,h2⟩:=sU (show yU Γ.δ (Rx.a8 Γ sc).2=some j from hj);exact ej h2 (er.drs i a h1 ha)
theorem vV {sc:Scope} {x:Str} {i:Nat} (B:fv X sc (a8 Γ sc).1.N (a8 Γ sc).2) (h:gK (a8 Γ sc).1 x=some i):(a8 Γ sc).2[i]?=some none:=by
 obtain⟨a,b,c⟩:=kU h;have cJ:i < (a8 Γ sc).2.length:=by rw[B.len];exact(Pg.mp c).1
 cases hc:(a8 Γ sc).2[i]? with
 | none=>rw[List.getElem?_eq_none_iff] at hc;lia
 | some o=>
  cases o with
  | none=>rfl
  | some j=>obtain⟨y,n1,_,n3⟩:=B.uu i j hc;rw[c] at n1;cases n1;have hn:(a8 Γ sc).1.names=sc.names:=rfl;rw[hn,n3] at a;cases a
theorem qx {cap:List (Option Nat)} {σ:L2.St} {i:Nat} (h:cap[i]?=some none):(cY cap σ)[i]?=some none:=by unfold cY;rw[Py,h];rfl
theorem ko {σ0:L2.St} {t:Tg} {K:Frag} (h:∀i∈aX t,σ0[i]?=some none):GL σ0 (AV K t):=by
 have many:∀{is:List Nat},(∀i∈is,σ0[i]?=some none)->E3 σ0 (yo is):=by
  intro is
  induction is with
  | nil=>intro _;exact zC
  | cons i is ih=>intro hs;exact wF (hs i Pk) (ih λj hj=>hs j (Ph _ hj))
 cases t with
 | nm i=>exact zB (h i (by simp[aX]))
 | tp is=>exact CA (many h)
theorem oa {sc:Scope} {e:Expr} {t:Tg} {σ:L2.St} (B:fv X sc (a8 Γ sc).1.N (a8 Γ sc).2) (h:oF (a8 Γ sc).1 e=some t):∀i∈aX t,(cY (a8 Γ sc).2 σ)[i]?=some none:=λi hi=>by obtain⟨_,x,hx⟩:=eS h i hi;exact qx (vV B hx)
noncomputable def BS (Γ:Gm) (ρ:ao) (σ:L2.St) (D:Addr):Prop:=∀(j:Nat) (d:List Dt),fH Γ j=true->ρ[j]?=some (some (.lst d))->σ[j]?≠some (some (.ref D))
theorem tZ {H:Hp} {D:Addr} {acc gv:List V} (hD:H D=some (.lst acc)):ba (λb=>b=D) H (upd H D (.lst gv)):=⟨λb o h n=>by rw[aI n];exact h,Mx.k8 hD⟩
theorem ER.emit {o:Ow} {ρ:ao} {S:Sx} {σ:L2.St} {H:Hp} {D:Addr} {acc gv:List V} (er:ER Φ Γ o ρ S σ H) (hD:H D=some (.lst acc)) (hn:BS Γ ρ σ D) (oD:o.A D) (nd:o.dr≠some D) (h0:∀x,Φ.H0 D=some x->Φ.d0=some D):ER Φ Γ o ρ S σ (upd H D (.lst gv)):=by
 have up:ba (λb=>b=D) H (upd H D (.lst gv)):=tZ hD;have uA:∀b,b=D->o.A b:=λb z=>by rw[z];exact oD
 refine⟨er.len,er.wa,er.da,λa ha=>?_,λj dd h=>?_,er.dk,er.inj,λa ha=>?_,er.drn,er.drs,er.dr0,?_⟩
 ·obtain⟨x,hx⟩:=er.al a ha;exact up.al hx λz=>⟨_,by rw[z];exact aP⟩
 ·obtain⟨w,h1,h2⟩:=er.val j dd h;refine⟨w,h1,?_⟩;by_cases hm:fH Γ j=true
  ·rw[if_pos hm] at h2 ⊢;cases dd with
   | lst ds=>
    obtain⟨a,xs,e1,e2,e3,e4,e5,e6,e7⟩:=h2;have aD:a≠D:=λz=>hn j ds hm h (by rw[h1,e1,z])
    exact⟨a,xs,e1,up.kp _ _ e2 aD,e3,e4,e5,e6,e7.mono up uA λ_ z=>z⟩
   | f9=>exact h2.elim
   | _=>exact RV.mono up uA (λ_ z=>z) h2
  ·rw[if_neg hm] at h2 ⊢;exact h2.mono up uA λ_ z=>z
 ·obtain⟨ns,e1,e2⟩:=er.drw a ha;exact⟨ns,e1,up.kp _ _ e2 (λz=>nd (by rw[<-z];exact ha))⟩
 ·refine⟨λb x h n=>up.kp _ _ (er.ent.kp b x h n) λz=>?_,λb xs h=>up.tp _ _ (er.ent.tp b xs h)⟩;subst z;exact n (h0 x h)
theorem Wk.less {A Y Y':Addr->Prop} {J:It} {H:Hp} {ds:List Dt} (w:Wk K A Y J H ds) (h:∀b,Y' b->Y b):Wk K A Y' J H ds:=⟨λi H1 hi e=>w.go i H1 hi (e.mono h),λH1 e=>w.stop H1 (e.mono h),λi x H1 H2 hi e y=>w.yld i x H1 H2 hi (e.mono h) y⟩
theorem IO.MJ {Φ:Fm} {Γ:Gm} {o:Ow} {ρ:ao} {S:Sx} {σ:L2.St} {it:lP} {nl:Bool} {H H1:Hp} {ds:List Dt} {J:It} (io:IO Φ.K o it nl H ds J H1) (er:ER Φ Γ o ρ S σ H1) (h:(decide (qM it<=1)||nl)=true):Wk Φ.K o.A o.d J H1 ds:=by
 rcases Bool.or_eq_true_iff.mp h with h | h
 ·exact io.w1 (Pf h)
 ·exact(io.w2 h).less er.da
theorem Wk.plus {A Y:Addr->Prop} {J:It} {H:Hp} {ds:List Dt} {D:Addr} (w:Wk K A Y J H ds) (hD:H D=none):Wk K (λb=>A b\/b=D) (λb=>Y b\/b=D) J (upd H D (.lst [])) ds:=by
 have ex:∀H1,ba (λb=>Y b\/b=D) (upd H D (.lst [])) H1->ba Y H H1:=λH1 e=>⟨λb o h n=>by
   have nb:b≠D:=λz=>by rw[z,hD] at h;cases h
   exact e.kp b o (by rw[aI nb];exact h) λz=>z.elim n nb,λb xs h=>by
   have nb:b≠D:=λz=>by rw[z,hD] at h;cases h
   exact e.tp b xs (by rw[aI nb];exact h)⟩
 refine⟨λi H1 hi e=>w.go i H1 hi (ex H1 e),λH1 e=>w.stop H1 (ex H1 e),λi x H1 H2 hi e y=>?_⟩;obtain⟨s,d,hd,hv⟩:=w.yld i x H1 H2 hi (ex H1 e) y;refine⟨s,d,hd,λB hB=>hv B λb hb=>?_⟩;rcases hB b hb with (z | z) | z
 ·exact .inl z
 ·exact .inr (by rw[z];exact hD)
 ·by_cases nb:b=D
  ·exact .inr (by rw[nb];exact hD)
  ·rw[aI nb] at z;exact .inr z
structure yY (Φ:Fm) (Γ:Gm) (o:Ow) (D:Addr) (ρ:ao) (σ:L2.St) (S:Sx) (acc:List V) (es:List Dt) (H:Hp):Prop where
 at':H D=some (.lst acc)
 rv:aq Φ.K o.A H acc es
 er:ER Φ Γ o ρ S σ H
structure Ij (Φ:Fm) (o:Ow) (D:Addr):Prop where
 oD:o.A D
 nd:o.dr≠some D
 h0:∀x,Φ.H0 D=some x->Φ.d0=some D
noncomputable def Yd (o:Ow) (D:Addr):Addr->Prop:=λb=>o.d b\/b=D
theorem ER.back {o:Ow} {ρ ρ':ao} {S S':Sx} {σ σ':L2.St} {H H':Hp} {D:Addr} (fx:Ij Φ o D) (hn:BS Γ ρ σ D) (er:ER Φ Γ o ρ S σ H) (Co:ER Φ Γ o ρ' S' σ' H') (e:ba (Yd o D) H H') (ON:∃acc,H D=some (.lst acc)):ER Φ Γ o ρ S' σ H':=by
 have uA:∀b,Yd o D b->o.A b:=λb z=>z.elim (er.da b) λq=>by rw[q];exact fx.oD
 refine⟨er.len,er.wa,er.da,Co.al,λj dd h=>?_,er.dk,er.inj,Co.drw,Co.drn,er.drs,er.dr0,Co.ent⟩;obtain⟨w,h1,h2⟩:=er.val j dd h;refine⟨w,h1,?_⟩;by_cases hm:fH Γ j=true
 ·rw[if_pos hm] at h2 ⊢;cases dd with
  | lst ds=>
   obtain⟨a,xs,e1,e2,e3,e4,e5,e6,e7⟩:=h2;have aD:a≠D:=λz=>hn j ds hm h (by rw[h1,e1,z])
   exact⟨a,xs,e1,e.kp _ _ e2 (λz=>z.elim e5 aD),e3,e4,e5,e6,e7.mono e uA λ_ z=>z⟩
  | f9=>exact h2.elim
  | _=>exact RV.mono e uA (λ_ z=>z) h2
 ·rw[if_neg hm] at h2 ⊢;exact h2.mono e uA λ_ z=>z
theorem rF {tg:Tg} {ts:Cs} {o:Ow} {D:Addr} {ρ:ao} {σ:L2.St} {J:It} {ds:List Dt} {H1:Hp} {tb:TB} {fb:ao->Sx->R (List Dt×Sx)} {m a0:Nat} (fx:Ij Φ o D) (hp:∀i∈aX tg,plainS Γ i=true) (wk:Wk Φ.K o.A (Yd o D) J H1 ds) (hn:BS Γ ρ σ D)
  (hb:∀(ρ1:ao) (σ1:L2.St) (S:Sx) (acc:List V) (es:List Dt) (H2:Hp) (P:List Dt×Sx->Prop),BS Γ ρ1 σ1 D->(∀k,k∉aX tg->σ1[k]?=σ[k]?/\ρ1[k]?=ρ[k]?)->yY Φ Γ o D ρ1 σ1 S acc es H2->ba (Yd o D) H1 H2->acc.length + m<=a0 + ds.length * m->0 < ds.length->mR Φ.Ek (fb ρ1 S) P->
   ∀Q:Hp->Prop,(∀H5 r iz,P r->yY Φ Γ o D ρ1 σ1 r.2 iz (es++r.1) H5->ba (Yd o D) H2 H5->iz.length<=acc.length + m->Q H5)->tb σ1 H2 Q)
  {S:Sx} {acc:List V} {es:List Dt} {P:List Dt×Sx->Prop} (c:yY Φ Γ o D ρ σ S acc es H1) (ha:acc.length<=a0) (q:mR Φ.Ek (aK (aM tg (bh F ts) fb ρ) ds S) P) {Fn:Hp->Prop}
  (fin:∀H5 r iz,P r->yY Φ Γ o D ρ σ r.2 iz (es++r.1) H5->ba (Yd o D) H1 H5->iz.length<=a0 + ds.length * m->Fn H5):ox J (AV Φ.K tg) (mG Φ Γ F ts) tb σ Fn H1:=by
 refine⟨λi mm H2=>mm=ds.length - i/\i<=ds.length/\∃S2 mO we,yY Φ Γ o D ρ σ S2 mO (es++we) H2/\ba (Yd o D) H1 H2/\mO.length<=a0 + i * m/\mR Φ.Ek (aK (aM tg (bh F ts) fb ρ) (ds.drop i) S2) λr=>P (we++r.1,r.2),
  ⟨_,rfl,Nat.zero_le _,S,acc,[],by rw[P6];exact c,ba.refl,by lia,q⟩,?_⟩
 rintro i mm H2 ⟨rfl,hi,S2,mO,we,c2,yK,eF,q⟩;by_cases cJ:i < ds.length
 ·refine .inr ⟨wk.go i H2 cJ yK,λx H3 y=>?_⟩;obtain⟨s3,d,hd,hx⟩:=wk.yld i x H2 H3 cJ yK y;have wZ:=hx o.A λb z=> .inl z
  have FD:=c2.er.grow s3;have JK:ds.drop i=d::ds.drop (i + 1):=by rw[List.drop_eq_getElem_cons cJ];congr 1;exact(Pg.mp hd).2
  rw[JK] at q;unfold aK at q;rw[aa] at q;unfold aM at q;rw[aa] at q;obtain⟨ρ1,hρ,q⟩:=kE (kS _ _ _) q;refine rj FD hp wZ hρ λσ1 JP hk=>?_
  rw[aa] at q;refine⟨o,ρ1,S2,JP,af q λb _ q H4 e4 Iy=>?_⟩;have LV:ba (Yd o D) H3 H4:=e4.mono λb z=> .inl z
  have Om:BS Γ ρ1 σ1 D:=λj dd hm h1 h2=>by
   have nj:j∉aX tg:=λz=>by rw[(iS (hp j z)).1] at hm;cases hm
   obtain⟨k1,k2⟩:=hk j nj;rw[k1] at h2;rw[k2] at h1;exact hn j dd hm h1 h2
  have uA:∀b,Yd o D b->o.A b:=λb z=>z.elim (FD.da b) λq=>by rw[q];exact fx.oD
  have FP:H4 D=some (.lst mO):=e4.kp _ _ (s3 _ _ c2.at') fx.nd;have Ml:aq Φ.K o.A H4 mO (es++we):=(c2.rv.same s3).mono LV uA λ_ z=>z
  have FE:ba (Yd o D) H2 H4:=(ba.of_same s3).trans LV;have hmul:ds.length * m=(ds.length - (i + 1)) * m + (i * m + m):=by
   rw[<-Nat.succ_mul i m,<-Nat.add_mul];congr 1
   lia
  have Mg:(i + 1) * m=i * m + m:=Nat.succ_mul i m;have hz:0<=(ds.length - (i + 1)) * m:=Nat.zero_le _;cases lh:b.1 with
  | false=>rw[lh] at q;refine Gr ?_;refine⟨ds.length - (i + 1),by lia,rfl,cJ,b.2,mO,we,⟨FP,Ml,c2.er.back fx hn Iy FE ⟨_,c2.at'⟩⟩,yK.trans FE,by lia,?_⟩;simp only[Bool.false_eq_true,if_false] at q;have q:mR Φ.Ek ((aK (aM tg (bh F ts) fb ρ) (ds.drop (i + 1)) b.2).bind λq=>R.ok (([]:List Dt)++q.1,q.2)) _:=q;rw[aa] at q;exact af q λr _ q=>q
  | true=>
   rw[lh] at q;refine Gu ?_;simp only[if_true] at q;refine hb ρ1 σ1 b.2 mO (es++we) H4 _ Om hk ⟨FP,Ml,Iy⟩ (yK.trans FE) (by lia) (by lia) q _ λH5 r iz q c5 e5 l5=>?_
   rw[aa] at q;refine⟨ds.length - (i + 1),by lia,rfl,cJ,r.2,iz,we++r.1,⟨c5.at',by rw[<-Pt];exact c5.rv,c2.er.back fx hn c5.er (FE.trans e5) ⟨_,c2.at'⟩⟩,(yK.trans FE).trans e5,by lia,af q λr' _ q=>?_⟩;have q:P (we++(r.1++r'.1),r'.2):=q;rw[Pt];exact q
 ·have e:i=ds.length:=by lia
  subst e;refine .inl ⟨wk.stop H2 yK,?_⟩;rw[List.drop_length] at q;have q:P (we++[],S2):=q;rw[P6] at q;exact fin H2 (we,S2) mO q c2 yK eF
theorem v8 {o:Ow} {D:Addr} {c:C} {ρ:ao} {σ:L2.St} {S:Sx} {acc:List V} {es:List Dt} {H:Hp} {P:List Dt×Sx->Prop} (fx:Ij Φ o D) (hn:BS Γ ρ σ D) (cs:yY Φ Γ o D ρ σ S acc es H) (hl:acc.length < sizeLine)
  (q:mR Φ.Ek ((ev F c ρ S).bind λy=>ae (bO c y.1) (.ok ([y.1],y.2))) P) (Q:Hp->Prop) (fin:∀H5 r iz,P r->yY Φ Γ o D ρ σ r.2 iz (es++r.1) H5->ba (Yd o D) H H5->iz.length<=acc.length + 1->Q H5):tV D (bY Φ Γ F g.fr c) σ H Q:=by
 rw[aa] at q;refine⟨o,ρ,S,cs.er,af q λy _ q v H5 eo5 er6=>?_⟩;obtain⟨gs,q⟩:=aZ q;have e5:ba (Yd o D) H H5:=eo5.ext.mono λb z=> .inl z
 have J1:H5 D=some (.lst acc):=eo5.ext.kp _ _ cs.at' fx.nd;have uA:∀b,Yd o D b->o.A b:=λb z=>z.elim (cs.er.da b) λq=>by rw[q];exact fx.oD
 have hv:RV Φ.K o.A H5 v y.1:=by
  unfold bO at gs;rw[P7] at gs;rcases gs with gs | gs
  ·exact eo5.dy (Pf gs)
  ·exact eo5.val.kH gs
 have up:ba (λb=>b=D) H5 (upd H5 D (.lst (acc++[v]))):=tZ J1;refine⟨acc,J1,hl,fin _ ([y.1],y.2) (acc++[v]) q ⟨aP,?_,er6.emit J1 hn fx.oD fx.nd fx.h0⟩ (e5.trans (up.mono λb z=> .inr z)) (by simp)⟩;exact((cs.rv.mono e5 uA λ_ z=>z).append (aq.cons hv aq.nil)).mono up (λb z=>by rw[z];exact fx.oD) λ_ z=>z
theorem tX:2 * lim < sizeLine:=by rw[sizeLine_eq];decide
theorem lW {sc:Scope} {o:Ow} {ρ:ao} {S:Sx} {σ:L2.St} {H:Hp} {D:Addr} (er:ER Φ Γ o ρ S σ H) (B:fv X sc (a8 Γ sc).1.N (a8 Γ sc).2) (jq:(Rx.a8 Γ sc).1.N.Nodup) (hD:H D=none):
  Ij Φ (o.plus D) D/\BS (a8 Γ sc).1 (jA (a8 Γ sc).2 ρ) (cY (a8 Γ sc).2 σ) D/\yY Φ (a8 Γ sc).1 (o.plus D) D (jA (a8 Γ sc).2 ρ) (cY (a8 Γ sc).2 σ) S [] [] (upd H D (.lst [])):=by
 refine⟨⟨.inr rfl,λz=>?_,λx hx=>?_⟩,λj d hm h1 h2=>?_,⟨aP,aq.nil,er.a8 B jq hD⟩⟩
 ·obtain⟨y,hy⟩:=er.al D (er.da D z);rw[hD] at hy;cases hy
 ·by_cases hz:Φ.d0=some D
  ·exact hz
  ·have:=er.ent.kp D x hx hz;rw[hD] at this;cases this
 ·obtain⟨ii,hc,N3⟩:=fK h1;obtain⟨w',k1,k2⟩:=er.val ii _ N3;rw[<-jM hc,if_pos hm] at k2;obtain⟨a',vh,JI,EH,_⟩:=k2;rw[ej hc k1] at h2;cases h2;cases JI;rw[hD] at EH;cases EH
theorem rV {sc:Scope} {o:Ow} {ρ:ao} {S S2:Sx} {σ:L2.St} {H H1 H2:Hp} {D:Addr} {acc:List V} {ds:List Dt} {c:C} (hc:lk c=0) (io:ba o.d H H1) (aG:ER Φ Γ o ρ S σ H1) (hD:H1 D=none) {ρ2:ao} {σ2:L2.St} (cs:yY Φ (a8 Γ sc).1 (o.plus D) D ρ2 σ2 S2 acc ds H2) (ex:ba (Yd (o.plus D) D) (upd H1 D (.lst [])) H2):
  EO Φ.K g.fr o c H (.lst ds) (.ref D) H2/\ER Φ Γ o ρ S2 σ H2:=by
 have yK:ba o.d H1 H2:=⟨λb x h n=>by
   have nb:b≠D:=λz=>by rw[z,hD] at h;cases h
   exact ex.kp b x (by rw[aI nb];exact h) λz=>z.elim n nb,λb xs h=>by
   have nb:b≠D:=λz=>by rw[z,hD] at h;cases h
   exact ex.tp b xs (by rw[aI nb];exact h)⟩
 have nA:¬o.A D:=λz=>by obtain⟨y,hy⟩:=aG.al D z;rw[hD] at hy;cases hy
 have dn:H D=none:=aG.eK io hD;have v0:RV Φ.K o.A H2 (.ref D) (.lst ds):=RV.fj cs.at' nA (cs.rv.weak λb z=> .inl z);refine⟨⟨io.trans yK,v0.weak aG.g9,λ_=>v0,λ_=>v0.one,λ_ lZ ed=>?_⟩,aG.step yK (λa ha=>cs.er.drw a ha) cs.er.drn⟩;cases ed;exact⟨D,acc,rfl,dn,cs.at',cs.rv.weak λb z=>z.elim (λz=> .inl (aG.g9 b z)) .inr,λ_=>cs.rv⟩
theorem ya {sc:Scope} {tg:Expr} {it:lP} {t:Tg} {ts:Cs} {c:C} (hK:Φ.K=X.K) (B:fv X sc (a8 Γ sc).1.N (a8 Γ sc).2) (jq:(a8 Γ sc).1.N.Nodup) (zN:oF (a8 Γ sc).1 tg=some t) {σ:L2.St} {H:Hp} {Q:VK}
  (q:bY Φ Γ F g.fr (.comp (a8 Γ sc).2 it t ts c) σ H Q):nZ (a8 Γ sc).2 (n9 Φ Γ F it) (AV X.K t) (mG Φ (a8 Γ sc).1 F ts) (λD=>tV D (bY Φ (a8 Γ sc).1 F g.fr c)) σ H Q:=by
 obtain⟨o,ρ,S,er,q⟩:=q;unfold ev at q;rw[aa] at q;refine⟨o,ρ,S,er,af q λp _ q J H1 io aG D hD=>⟨ko (oa B zN),?_⟩⟩;obtain⟨g1,q⟩:=aZ q;rw[Pd] at g1;have d6:=Pf g1.1;have wk:=(io.MJ aG g1.2).plus hD;rw[aa] at q;have l9:=tX;obtain⟨fx,hn,cs⟩:=lW (X:=X) aG B jq hD;rw[<-hK];refine rF (m:=1) (a0:=0) fx (λi hi=>(eS zN i hi).1) wk hn (λρ1 σ1 S1 acc es H2 P n1 hk c1 e1 hl _ q Q fin=>v8 fx n1 c1 (by lia) q Q fin) cs (Nat.zero_le _) q λH5 r iz q c5 e5 l5=>?_
 obtain⟨k1,k2⟩:=rV (g:=g) (c:= .comp (a8 Γ sc).2 it t ts c) rfl io.ext aG hD c5 e5;exact q _ _ k1 k2
theorem tN {sc:Scope} {tg ji:Expr} {it gH:lP} {t t2:Tg} {ts EY:Cs} {c:C} (hK:Φ.K=X.K) (B:fv X sc (a8 Γ sc).1.N (a8 Γ sc).2) (jq:(a8 Γ sc).1.N.Nodup) (zN:oF (a8 Γ sc).1 tg=some t) (Gi:oF (a8 Γ sc).1 ji=some t2) (F4:∀i∈aX t2,i∉aX t) {σ:L2.St} {H:Hp} {Q:VK}
  (q:bY Φ Γ F g.fr (.gF (a8 Γ sc).2 it t ts gH t2 EY c) σ H Q):nZ (a8 Γ sc).2 (n9 Φ Γ F it) (AV X.K t) (mG Φ (a8 Γ sc).1 F ts) (λD=>HM (n9 Φ (a8 Γ sc).1 F gH) (AV X.K t2) (mG Φ (a8 Γ sc).1 F EY) (tV D (bY Φ (a8 Γ sc).1 F g.fr c))) σ H Q:=by
 obtain⟨o,ρ,S,er,q⟩:=q;unfold ev at q;rw[aa] at q;refine⟨o,ρ,S,er,af q λp _ q J H1 io aG D hD=>⟨ko (oa B zN),?_⟩⟩;obtain⟨g1,q⟩:=aZ q;rw[Pd] at g1;have d6:=Pf g1.1;have wk:=(io.MJ aG g1.2).plus hD;rw[aa] at q;have l9:=tX;obtain⟨fx,hn,cs⟩:=lW (X:=X) aG B jq hD;rw[<-hK];have hdiv:p.1.length * (lim / p.1.length)<=lim:=Nat.mul_div_le _ _;refine rF (m:=lim / p.1.length) (a0:=0) fx (λi hi=>(eS zN i hi).1) wk hn (λρ1 σ1 S1 acc es H2 P n1 hk c1 e1 hl Ge q Q fin=>?_) cs (Nat.zero_le _) q λH5 r iz q c5 e5 l5=>?_
 ·refine⟨ko λi hi=>?_,?_⟩
  ·rw[(hk i (F4 i hi)).1];exact oa B Gi i hi
  ·rw[aa] at q;refine⟨o.plus D,ρ1,S1,c1.er,af q λx2 _ q J2 H3 io2 FD=>?_⟩;obtain⟨g2,q⟩:=aZ q;rw[Pd] at g2;have eF:=Pf g2.1;have uA:∀b,Yd (o.plus D) D b->(o.plus D).A b:=λb z=>z.elim (FD.da b) λq=> .inr q
   have OB:=(io2.w0 (Pf g2.2)).less uA;have e3:ba (Yd (o.plus D) D) H2 H3:=io2.ext.mono λb z=> .inl z
   have OX:x2.1.length<=lim / p.1.length:=(Nat.le_div_iff_mul_le Ge).mpr (by rw[Nat.mul_comm];exact eF);refine rF (m:=1) (a0:=acc.length) fx (λi hi=>(eS Gi i hi).1) OB n1 (λρ2 σ2 S2 mO we H4 P2 n2 hk2 c2 e2 hl _ q Q fin=>v8 fx n2 c2 (by lia) q Q fin) ⟨io2.ext.kp _ _ c1.at' fx.nd,c1.rv.mono e3 uA λ_ z=>z,FD⟩ (Pj _) q λH5 r iz q c5 e5 l5=>?_
   exact fin H5 r iz q c5 (e3.trans e5) (by lia)
 ·obtain⟨k1,k2⟩:=rV (g:=g) (c:= .gF (a8 Γ sc).2 it t ts gH t2 EY c) rfl io.ext aG hD c5 e5;exact q _ _ k1 k2
end
noncomputable def uD:Expr->Bool
 | .Starred ..=>false
 | .Slice ..=>false
 | .Set ..=>false
 | .Call (.Name _ _) [] _ _=>false
 | _=>true
theorem dm {e:Expr} (h:uD e=true) (es:List Expr) (env:Env):starEach (e::es) env=(false,eval e env)::starEach es env:=by cases e <;> first | rfl | (simp[uD] at h)
theorem F2 {e:Expr} (h:uD e=true):mL e:=by intro o i;cases e <;> first | rfl | (simp[uD] at h)
theorem zG {e:Expr} (h:uD e=true) (op:CmpOp):behindInMarks op e=false:=by cases e <;> first | rfl | (simp[uD] at h)
theorem gQ {e:Expr} (h:uD e=true) (env:Env):∀x,foldedSetIterable e env x=pure x:=by intro x;cases e <;> first | rfl | (simp[uD] at h)
theorem cP {X:Cx} {Φ:Fm} {Γ:Gm} {F:FT} {e:Expr} {c:C} (h:∀ρ S,cH F c ρ S= .bad):PT X e (fB Φ Γ F c):=λpins s σ H Q I q=>by obtain⟨o,ρ,S,er,q⟩:=q;rw[h] at q;exact q.elim
section
variable {g:G} {xv:Nat->Value} {CX:jY} {k:Nat} {F:FT}
structure MY (g:G) (F:FT) (n:Nat) (Γ:Gm) (X:Cx) (Φ:Fm):Prop where
 e:∀e c,cE n g Γ e=some c->PE X e (bY Φ Γ F g.fr c)/\PT X e (fB Φ Γ F c)/\uD e=true
 es:∀es cs,vQ n g Γ es=some cs->PA X es (lL Φ Γ F cs)/\cs.len=es.length/\∀e∈es,uD e=true
 ts:∀es cs,zv n g Γ es=some cs->A5 X es (mG Φ Γ F cs)
 b:∀o es c pos,cB n g Γ o es=some c->PE X (.BoolOp o es pos) (bY Φ Γ F g.fr c)/\PW X (.BoolOp o es pos) (fB Φ Γ F c)
 i:∀tg e it,cI n g Γ tg e=some it->PI X tg e (n9 Φ Γ F it)/\uD e=true
 c:∀f a as c p pos,rY n g Γ f a as=some c->PE X (.Call (.Name f p) (a::as) [] pos) (bY Φ Γ F g.fr c)/\PT X (.Call (.Name f p) (a::as) [] pos) (fB Φ Γ F c)
theorem oy {es:List Expr} {env:Env} {pos:Pos} (h:∀e∈es,uD e=true):(backTo pos (starEach es env)).any (·.1)=false:=by
 induction es with
 | nil=>rfl
 | cons e es ih=>rw[dm (h e Pk)];show (false||(backTo pos (starEach es env)).any (·.1))=false;rw[ih λe' z=>h e' (Ph _ z)];rfl
theorem qS {x y:Str} (h:(x==y)=false):x≠y:=λe=>by subst e;rw[beq_self_eq_true] at h;cases h
theorem eM {x:Str} (h:fk x=true):(x==("__debug__":Str))=false/\(x==("__classdict__":Str))=false/\x≠"__name__":=by unfold fk at h;rw[Pd,Pd] at h;have h1:=h.1.1;have h2:=h.1.2;have h3:=h.2;rw[Bool.not_eq_true'] at h1 h2 h3;exact⟨h1,h2,qS h3⟩
noncomputable def LC:C->Bool
 | .nt _ | .and .. | .or .. | .cmp .. | .ch .. | .var _ | .mvr _ | .call .. | .callD .. | .bi .. | .idx ..=>true
 | _=>false
theorem bK {F:FT} {c:C} {ρ:ao} {S:Sx} (h:LC c=false):cH F c ρ S= .bad:=by cases c <;> first | rfl | cases h
theorem boot_divmod:bootBuiltins "divmod"=some (.builtin "divmod"):=by decide +kernel
theorem vO:∀t∈vN,DU t.2.2=true/\bootBuiltins t.1=some (EF t.2.2):=by
 intro t ht;simp only[vN,Pq,Pr,or_false] at ht;rcases ht with rfl | rfl | rfl | rfl | rfl | rfl | rfl | rfl | rfl | rfl | rfl
 ·exact⟨rfl,PySem.boot_len⟩
 ·exact⟨rfl,PyProof.Rows.boot_abs⟩
 ·exact⟨rfl,PyProof.Rows.boot_min⟩
 ·exact⟨rfl,PyProof.Rows.boot_max⟩
 ·exact⟨rfl,PyProof.Rows.boot_sum⟩
 ·exact⟨rfl,PyProof.Rows.boot_any⟩
 ·exact⟨rfl,PyProof.Rows.boot_max⟩
 ·exact⟨rfl,PyProof.Rows.boot_sorted⟩
 ·exact⟨rfl,PyProof.Rows.boot_tuple⟩
 ·exact⟨rfl,PyProof.Rows.boot_list⟩
 ·exact⟨rfl,boot_divmod⟩
theorem zo {x:Str} {n:Nat} {b:BI} (h:qt x n=some b):DU b=true/\bootBuiltins x=some (EF b):=by unfold qt at h;obtain⟨t,h1,rfl⟩:=Pu.mp h;have hm:=List.mem_of_find?_eq_some h1;have hp:=List.find?_some h1;rw[Pd] at hp;rw[<-PF hp.1];exact vO t hm
theorem B7 {b:BI} (h:DU b=true):(∃id,EF b= .builtin id)\/∃T,EF b= .type T:=by cases b <;> first | exact .inl ⟨_,rfl⟩ | exact .inr ⟨_,rfl⟩ | cases h
theorem mS {x:Str} (h:g.bls.contains x=true):x∈g.bls:=by simpa using h
theorem Li {X:Cx} {Φ:Fm} {Γ:Gm} {x:Str} {n:Nat} {b:BI} {a:Expr} {as:List Expr} {cs:Cs} {p pos:Pos} (hK:Φ.K=X.K) (gx:GX g Γ X) (hG:Gl X x) (hm:X.mg x=none) (hx:fk x=true) (hb:qt x n=some b) (hs:starEach (a::as) X.env=(false,eval a X.env)::starEach as X.env) (qh:(backTo pos (starEach as X.env)).any (·.1)=false)
  (ha:PA X (a::as) (lL Φ Γ F cs)):PE X (.Call (.Name x p) (a::as) [] pos) (bY Φ Γ F g.fr (.bi b cs)):=by
 obtain⟨h1,h2⟩:=zo hb;obtain⟨n1,n2,n3⟩:=eM hx;have hc:=zp (X:=X) b h1 gx.calm gx.un;rcases B7 h1 with ⟨id,e⟩ | ⟨T,e⟩
 ·rw[e] at h2 hc;exact bB (pH hc hG hm h2 ha n3 n1 hs qh) λσ H Q q=>wm hK q
 ·rw[e] at h2 hc;exact bB (uW hc hG hm h2 ha n3 n1 hs qh) λσ H Q q=>wm hK q
theorem qG {X:Cx} {Φ:Fm} {sc:Scope} {N':List Str} {C:Addr} {s:Shared} {H:Hp} {fp:List Addr} (hX:HX g xv CX k F Φ X):HX g xv CX k F Φ (gw X sc N' C s H fp (vq X sc N' (lO Φ xv) C s H fp)) where
 K:=hX.K
 P:=hX.P
 w:=hX.w
 fx:=hX.fx
 room:=hX.room
 cx:=hX.cx
 st:=AS hX.st
 xgx:=λe s' h=>Ez h
 xk:=hX.xk
theorem iV (n:Nat):∀(Γ:Gm) (X:Cx) (Φ:Fm),GX g Γ X->HX g xv CX k F Φ X->MY g F n Γ X Φ:=by
 induction n with
 | zero=>intro Γ X Φ gx hX;exact⟨λe c h=>by simp[cE] at h,λe c h=>by simp[vQ] at h,λe c h=>by simp[zv] at h,λo e c p h=>by simp[cB] at h,λo e c h=>by simp[cI] at h,λf a as c p q h=>by simp[rY] at h⟩
 | succ n ih=>
  intro Γ X Φ gx hX;have I:=ih Γ X Φ gx hX;have hK:=hX.K;have hu:=gx.un;refine⟨λe c h=>?_,λes cs h=>?_,λes cs h=>?_,λo es c pos h=>?_,λtg e it h=>?_,λf a as c p pos h=>?_⟩
  ·
   unfold cE at h;split at h
   ·split at h
    ·cases h;exact⟨pU rfl DC,cP λρ S=>bK rfl,rfl⟩
    ·cases h;exact⟨pU rfl DH,cP λρ S=>bK rfl,rfl⟩
    ·cases h;exact⟨pU rfl G2,cP λρ S=>bK rfl,rfl⟩
    ·cases h;exact⟨pU rfl DE,cP λρ S=>bK rfl,rfl⟩
    ·cases h
   ·
    rename_i x p;split at h
    ·rename_i i hi;obtain⟨v1,v2,v3⟩:=tQ hi;obtain⟨n1,n2,n3⟩:=eM v2;have hv:PE X (.Name x p) (n8 i):=xO (by rw[gx.N];exact v3) (gx.vis x v1) n1 n2;split at h
     ·cases h
     rename_i hδκ;split at h
     ·rename_i hm;cases h;have:=Hm (Φ:=Φ) (F:=F) (fr:=g.fr) hv hm λz=>hδκ (by simp[z])
      exact⟨this,jR hK this (λ_=>rfl) (λρ S=>by rw[cH,ev];cases eE ρ i <;> rfl),rfl⟩
     ·rename_i hm;cases h;have:=Ht (Φ:=Φ) (F:=F) (fr:=g.fr) hv (by simpa using hm);exact⟨this,jR hK this (λ_=>rfl) (λρ S=>by rw[cH,ev];cases eE ρ i <;> rfl),rfl⟩
    ·split at h
     ·rename_i hg;rw[Pd] at hg;obtain⟨d,h1,rfl⟩:=Pu.mp h;obtain⟨u,k1,k2,k3⟩:=gx.con x d h1;exact⟨pU k1 (Av (gx.gl x hg.1) k2 k3 (eM hg.2).1),cP λρ S=>bK rfl,rfl⟩
     ·cases h
   ·obtain⟨a',h1,h⟩:=Pa.mp h;obtain⟨b',h2,h⟩:=Pa.mp h;cases h;exact⟨Hh hK (I.e _ _ h1).1 (I.e _ _ h2).1,cP λρ S=>bK rfl,rfl⟩
   ·obtain⟨a',h1,h9⟩:=Pa.mp h;clear h;split at h9
    ·cases h9;exact⟨Hn (I.e _ _ h1).1,cP λρ S=>bK rfl,rfl⟩
    ·cases h9;exact⟨Lj (I.e _ _ h1).1,Hq (I.e _ _ h1).2.1,rfl⟩
    ·cases h9
   ·obtain⟨k1,k2⟩:=I.b _ _ _ _ h;exact⟨k1,k2.pt,rfl⟩
   ·split at h
    ·obtain⟨a',h1,h⟩:=Pa.mp h;obtain⟨b',h2,h⟩:=Pa.mp h;cases h;have hm:=zG (I.e _ _ h2).2.2;exact⟨Hi hK hu (hm _) (I.e _ _ h1).1 (I.e _ _ h2).1,D2 hK hu (hm _) (I.e _ _ h1).1 (I.e _ _ h2).1,rfl⟩
    ·cases h
   ·split at h
    ·obtain⟨a',h1,h⟩:=Pa.mp h;obtain⟨b',h2,h⟩:=Pa.mp h;cases h;exact⟨D6 hK (I.e _ _ h1).1 (I.e _ _ h2).1,cP λρ S=>bK rfl,rfl⟩
    ·obtain⟨a',h1,h⟩:=Pa.mp h;obtain⟨b',h2,h⟩:=Pa.mp h;cases h;exact⟨D5 hK (I.e _ _ h1).1 (I.e _ _ h2).1,cP λρ S=>bK rfl,rfl⟩
    ·obtain⟨a',h1,h⟩:=Pa.mp h;obtain⟨b',h2,h⟩:=Pa.mp h;cases h;have k1:=λpos=>Hj (pos:=pos) hK (F2 (I.e _ _ h2).2.2) (I.e _ _ h1).1 (I.e _ _ h2).1
     refine⟨k1 _,jR hK (k1 _) (λ_=>rfl) (λρ S=>?_),rfl⟩;rw[cH,ev];cases ev F a' ρ S with
     | ok x=>
      simp only[R.ah];cases ev F b' ρ x.2 with
      | ok y=>simp only[R.ah];cases cF x.1 y.1 <;> rfl
      | ex k=>rfl
      | bad=>rfl
     | ex k=>rfl
     | bad=>rfl
   ·obtain⟨eY,h1,h⟩:=Pa.mp h;cases h;exact⟨Hs (I.es _ _ h1).1,cP λρ S=>bK rfl,rfl⟩
   ·obtain⟨eY,h1,h⟩:=Pa.mp h;cases h;exact⟨Hl (I.es _ _ h1).1,cP λρ S=>bK rfl,rfl⟩
   ·split at h
    ·obtain⟨k1,k2⟩:=I.c _ _ _ _ _ _ h;exact⟨k1,k2,rfl⟩
    ·cases h
   ·
    rename_i elt gens sc pos;split at h
    ·rename_i hk;split at h
     ·rename_i tg it ifs;obtain⟨jN,h1,h⟩:=Pa.mp h;obtain⟨kY,h2,h⟩:=Pa.mp h;obtain⟨oh,h3,h⟩:=Pa.mp h;obtain⟨e',h4,h⟩:=Pa.mp h;split at h
      ·rename_i hb;cases h;rw[Pd] at hb;have CC:sc.kind= .function:=PF hk;have B:=qw gx CC hb.1;have jq:(a8 Γ sc).1.N.Nodup:=Pf hb.2;have J:=λC s H fp=>ih (a8 Γ sc).1 (gw X sc (a8 Γ sc).1.N C s H fp (vq X sc (a8 Γ sc).1.N (lO Φ xv) C s H fp)) Φ (fg gx B jq) (qG hX)
       refine⟨bB (pI (xb:=vq X sc (a8 Γ sc).1.N (lO Φ xv)) (body:=λacc env=>gM elt acc env) gx.calm B (jX hX.st hX.xgx) (I.i _ _ _ h1).1 (λoq acc env=>p6 ..) (λC s H fp=>pV (fg gx B jq) h2) (λC s H fp=>(J C s H fp).ts _ _ h3) (λC s H fp D=>jQ ((J C s H fp).e _ _ h4).1) (gQ (I.i _ _ _ h1).2 _)) λσ H Q q=>ya hK B jq h2 q,cP λρ S=>bK rfl,rfl⟩
      ·cases h
     ·rename_i tg it ifs ji gH cv;obtain⟨jN,h1,h⟩:=Pa.mp h;obtain⟨kY,h2,h⟩:=Pa.mp h;obtain⟨oh,h3,h⟩:=Pa.mp h;obtain⟨o6,h5,h⟩:=Pa.mp h;obtain⟨kZ,h6,h⟩:=Pa.mp h;obtain⟨p5,h7,h⟩:=Pa.mp h;obtain⟨e',h4,h⟩:=Pa.mp h;split at h
      ·rename_i hb;cases h;rw[Pd,Pd] at hb;have CC:sc.kind= .function:=PF hk;have B:=qw gx CC hb.1.1;have jq:(a8 Γ sc).1.N.Nodup:=Pf hb.1.2;have F4:∀i∈aX kZ,i∉aX kY:=λi hi z=>by have:=PZ.mp hb.2 i hi;simp[z] at this
       have J:=λC s H fp=>ih (a8 Γ sc).1 (gw X sc (a8 Γ sc).1.N C s H fp (vq X sc (a8 Γ sc).1.N (lO Φ xv) C s H fp)) Φ (fg gx B jq) (qG hX)
       refine⟨bB (pI (xb:=vq X sc (a8 Γ sc).1.N (lO Φ xv)) (body:=λacc env=>nextOf (.ListComp elt [⟨tg,it,ifs,0⟩,⟨ji,gH,cv,0⟩] sc pos) 1 gH acc env) gx.calm B (jX hX.st hX.xgx) (I.i _ _ _ h1).1 (λoq acc env=>p7 ..) (λC s H fp=>pV (fg gx B jq) h2) (λC s H fp=>(J C s H fp).ts _ _ h3)
        (λC s H fp D=>tv gx.calm (tu hX.st) ((J C s H fp).i _ _ _ h5).1 (pV (fg gx B jq) h6) ((J C s H fp).ts _ _ h7) (jQ ((J C s H fp).e _ _ h4).1) (gQ ((J C s H fp).i _ _ _ h5).2 _)) (gQ (I.i _ _ _ h1).2 _)) λσ H Q q=>tN hK B jq h2 h6 F4 q,cP λρ S=>bK rfl,rfl⟩
      ·cases h
     ·cases h
    ·cases h
   ·cases h
  ·
   unfold vQ at h;split at h
   ·cases h;exact⟨Ho,rfl,λe z=>by cases z⟩
   ·obtain⟨e',h1,h⟩:=Pa.mp h;obtain⟨eY,h2,h⟩:=Pa.mp h;cases h;obtain⟨k1,k2,k3⟩:=I.es _ _ h2;refine⟨D3 (dm (I.e _ _ h1).2.2 _ _) (I.e _ _ h1).1 k1,by simp[Cs.len,k2],λe z=>?_⟩;rcases Pq.mp z with rfl | z
    ·exact(I.e _ _ h1).2.2
    ·exact k3 e z
  ·
   unfold zv at h;split at h
   ·cases h;exact λpins s σ H Q I q=>AG pins s σ H Q I (by obtain⟨o,ρ,S,er,q⟩:=q;rw[bh] at q;exact q _ ba.refl er)
   ·obtain⟨e',h1,h⟩:=Pa.mp h;cases h;refine λpins s σ H Q I' q=>AH (I.e _ _ h1).2.1 pins s σ H Q I' ?_
    obtain⟨o,ρ,S,er,q⟩:=q;rw[bh] at q;exact⟨o,ρ,S,er,q⟩
   ·cases h
  ·
   unfold cB at h;split at h
   ·rename_i e;have k1:=(I.e _ _ h).1;have k2:=(I.e _ _ h).2.1;refine⟨DG k1,?_⟩;cases o with
    | And=>exact AI k2
    | Or=>exact DR k2
   ·rename_i e es dD;obtain⟨e',h1,h⟩:=Pa.mp h;obtain⟨eY,h2,h⟩:=Pa.mp h;cases h;cases es with
    | nil=>exact(dD rfl).elim
    | cons b rest=>
     obtain⟨k1,k2⟩:=I.b o _ _ pos h2;cases o with
     | And=>exact⟨Hg (I.e _ _ h1).1 k1,D1 (I.e _ _ h1).2.1 k2⟩
     | Or=>exact⟨Lk (I.e _ _ h1).1 k1,Hr (I.e _ _ h1).2.1 k2⟩
   ·cases h
  ·
   unfold cI at h;split at h
   ·rename_i f p a q;split at h
    ·rename_i hf;have ef:=PF hf;subst ef;split at h
     ·rename_i hg;rw[Pd] at hg;obtain⟨a',h1,h⟩:=Pa.mp h;cases h;exact⟨D4 (gx.gl _ hg.1) (gx.bl _ (mS hg.2)) (dm (I.e _ _ h1).2.2 [] _) (I.e _ _ h1).1,rfl⟩
     ·cases h
    ·obtain⟨c,h1,h⟩:=Pa.mp h;cases h;exact⟨yb hK (I.e _ _ h1).1,rfl⟩
   ·rename_i f p a b q;split at h
    ·rename_i hf;have ef:=PF hf;subst ef;split at h
     ·cases h
     ·cases h
    split at h
    ·rename_i hf;have ef:=PF hf;subst ef;split at h
     ·split at h
      ·rename_i hg;rw[Pd] at hg;obtain⟨a',h1,h⟩:=Pa.mp h;obtain⟨b',h2,h⟩:=Pa.mp h;cases h;have e2:=dm (I.e _ _ h2).2.2 [] X.env;exact⟨Hu hK (gx.gl _ hg.1) (gx.bl _ (mS hg.2)) (by rw[dm (I.e _ _ h1).2.2,e2];rfl) e2 (I.e _ _ h1).1 (I.e _ _ h2).1,rfl⟩
      ·cases h
     ·cases h
    ·obtain⟨c,h1,h⟩:=Pa.mp h;cases h;exact⟨yb hK (I.e _ _ h1).1,rfl⟩
   ·obtain⟨c,h1,h⟩:=Pa.mp h;cases h;exact⟨yb hK (I.e _ _ h1).1,(I.e _ _ h1).2.2⟩
  ·
   have tr:∀{c:C},(∀ρ S,cH F c ρ S=(ev F c ρ S).bind λx=>(dO x.1).bind λb=> .ok (b,x.2))->PE X (.Call (.Name f p) (a::as) [] pos) (bY Φ Γ F g.fr c)->PE X (.Call (.Name f p) (a::as) [] pos) (bY Φ Γ F g.fr c)/\PT X (.Call (.Name f p) (a::as) [] pos) (fB Φ Γ F c):=λhe h=>⟨h,jR hK h (λ_=>rfl) he⟩
   have LW:∀(b:BI) (cs:Cs) ρ S,cH F (.bi b cs) ρ S=(ev F (.bi b cs) ρ S).bind λx=>(dO x.1).bind λb=> .ok (b,x.2):=λb cs ρ S=>by
    rw[cH,ev];cases gN F cs ρ S with
    | ok x=>simp only[R.ah];cases d5 b x.1 <;> rfl
    | ex k=>rfl
    | bad=>rfl
   have Nc:∀(f:Nat) (cs:Cs) (ds:List Dt) ρ S,cH F (.call f cs ds) ρ S=(ev F (.call f cs ds) ρ S).bind λx=>(dO x.1).bind λb=> .ok (b,x.2):=λf cs ds ρ S=>by
    rw[cH,ev];cases gN F cs ρ S with
    | ok x=>simp only[R.ah];cases F f (x.1++ds) none <;> rfl
    | ex k=>rfl
    | bad=>rfl
   have OG:∀(f:Nat) (cs:Cs) ρ S,cH F (.callD f cs) ρ S=(ev F (.callD f cs) ρ S).bind λx=>(dO x.1).bind λb=> .ok (b,x.2):=λf cs ρ S=>by
    rw[cH,ev];cases S.isSome with
    | false=>rfl
    | true=>
     simp only[guard_true];cases gN F cs ρ S with
     | ok x=>
      simp only[R.ah];cases x.2 with
      | none=>rfl
      | some s=>rfl
     | ex k=>rfl
     | bad=>rfl
   unfold rY at h;split at h
   ·rename_i hg;rw[Pd] at hg;have J4:=gx.gl f hg.1;obtain⟨n1,n2,n3⟩:=eM hg.2;split at h
    ·rename_i kk np fM bo wN;split at h
     ·
      rename_i hdp;have:bo=true:=hdp;subst this;split at h
      ·rename_i y yp;split at h
       ·rename_i i hi;split at h
        ·cases h
        ·cases h
       ·cases h
      ·cases h
     ·rename_i hdp;have:bo=false:=by simpa using hdp
      subst this;split at h
      ·rename_i hn;rw[Pd] at hn;have a1:=Pf hn.1;have a2:=Pf hn.2;obtain⟨es,h1,h⟩:=Pa.mp h;cases h;obtain⟨k1,k2,k3⟩:=I.es _ _ h1;refine tr (Nc _ _ _) (s_call hX J4 n1 wN (Nat.sub_le _ _) ?_ (dm (k3 a Pk) _ _) (oy λe z=>k3 e (Ph _ z)) k1);rw[k2,List.length_drop,Px]
       lia
      ·cases h
    ·split at h
     ·rename_i hbl;have hm:=gx.bl f (mS hbl);split at h
      ·cases h
      split at h
      ·rename_i hisi;have ef:=PF hisi;subst ef;split at h
       ·rename_i t tp hnl;split at h
        ·rename_i hg2;rw[Pd] at hg2;obtain⟨T,h1,h⟩:=Pa.mp h;obtain⟨a',h2,h⟩:=Pa.mp h;cases h;have tn:t≠"__name__"/\(t==("__debug__":Str))=false:=by
          unfold rE at h1;split at h1
          ·rename_i e;rw[PF e];exact⟨by decide,by decide⟩
          split at h1
          ·rename_i e;rw[PF e];exact⟨by decide,by decide⟩
          split at h1
          ·rename_i e;rw[PF e];exact⟨by decide,by decide⟩
          split at h1
          ·rename_i e;rw[PF e];exact⟨by decide,by decide⟩
          split at h1
          ·rename_i e;rw[PF e];exact⟨by decide,by decide⟩
          ·cases h1
         exact tr (LW _ _) (Hk hK J4 hm (gx.gl t hg2.1) (gx.bl t (mS hg2.2)) h1 tn.1 tn.2 (dm (I.e _ _ h2).2.2 _ _) (I.e _ _ h2).1)
        ·cases h
       ·cases h
      ·have regular:∀{c:C},((qt f (as.length + 1)).bind λi=>(vQ n g Γ (a::as)).bind λes=>some (C.bi i es))=some c->PE X (.Call (.Name f p) (a::as) [] pos) (bY Φ Γ F g.fr c)/\PT X (.Call (.Name f p) (a::as) [] pos) (fB Φ Γ F c):=λ {c} h=>by obtain⟨b,h1,h⟩:=Pa.mp h;obtain⟨es,h2,h⟩:=Pa.mp h;cases h;obtain⟨k1,k2,k3⟩:=I.es _ _ h2;exact tr (LW _ _) (Li hK gx J4 hm hg.2 h1 (dm (k3 a Pk) _ _) (oy λe z=>k3 e (Ph _ z)) k1)
       split at h
       ·rename_i r rp b rq;split at h
        ·cases h
        split at h
        ·cases h
        ·exact regular h
       ·rename_i r rp b c rq zz;split at h
        ·cases h
        ·exact regular h
       ·exact regular h
     ·cases h
   ·cases h
end
structure OI (Φ:Fm) (W:Addr->Prop) (o:Ow):Prop where
 w:o.W=W
 d:∀a,Φ.d0=some a->o.dr=some a
structure SO (Φ:Fm) (Γ:Gm) (W:Addr->Prop) (o:Ow) (H:Hp) (ρ':ao) (S':Sx) (σ':L2.St) (H':Hp):Prop where
 ex:∃o',OI Φ W o'/\ER Φ Γ o' ρ' S' σ' H'/\∀b,o'.A b->o.A b\/H b=none
 ext:ba o.A H H'
 al:∀b x,H b=some x->∃y,H' b=some y
structure RO (Φ:Fm) (W:Addr->Prop) (fF:Bool) (d:Dt) (S':Sx) (v:V) (H':Hp):Prop where
 val:RV Φ.K W H' v d
 ent:ba (λb=>Φ.d0=some b) Φ.H0 H'
 drw:∀a,Φ.d0=some a->∃ns:List Int,S'=some ns/\H' a=some (.lst (ns.map V.int))
 jB:fF=true->∀ds,d= .lst ds->∃a xs,v= .ref a/\Φ.H0 a=none/\H' a=some (.lst xs)/\aq Φ.K (λb=>W b\/b=a) H' xs ds
noncomputable def cT (Φ:Fm) (Γ:Gm) (W:Addr->Prop) (fF:Bool) (o:Ow) (H:Hp) (D:Ends) (p:Fl×ao×Sx):Prop:=match p.1 with
 | .next=>∀σ' H',SO Φ Γ W o H p.2.1 p.2.2 σ' H'->D.nx σ' H'
 | .brk=>∀σ' H',SO Φ Γ W o H p.2.1 p.2.2 σ' H'->D.bk σ' H'
 | .cnt=>∀σ' H',SO Φ Γ W o H p.2.1 p.2.2 σ' H'->D.ct σ' H'
 | .ret d=>∀v H',RO Φ W fF d p.2.2 v H'->D.rt v H'
inductive jV (Φ:Fm) (Γ:Gm) (F:FT) (W:Addr->Prop) (fF:Bool) (t:T) (D:Ends) (σ:L2.St) (H:Hp):Prop
 | mk (o:Ow) (ρ:ao) (S:Sx) (i:OI Φ W o) (e:ER Φ Γ o ρ S σ H) (m:mR Φ.Ek (ex F t ρ S) (cT Φ Γ W fF o H D)):jV Φ Γ F W fF t D σ H
inductive jE (Φ:Fm) (Γ:Gm) (F:FT) (W:Addr->Prop) (fF:Bool) (t:Ts) (D:Ends) (σ:L2.St) (H:Hp):Prop
 | mk (o:Ow) (ρ:ao) (S:Sx) (i:OI Φ W o) (e:ER Φ Γ o ρ S σ H) (m:mR Φ.Ek (aW F t ρ S) (cT Φ Γ W fF o H D)):jE Φ Γ F W fF t D σ H
theorem bF {X:Cx} {e:Stmt} {t t':TS} (h:PS X e t) (hi:∀D σ H,t' D σ H->t D σ H):PS X e t':=λpins s σ H D I q=>h pins s σ H D I (hi D σ H q)
theorem tF {X:Cx} {e:List Stmt} {t t':TS} (h:t9 X e t) (hi:∀D σ H,t' D σ H->t D σ H):t9 X e t':=λpins s σ H D I q=>h pins s σ H D I (hi D σ H q)
section
variable {X:Cx} {Φ:Fm} {Γ:Gm} {F:FT} {g:G} {W:Addr->Prop} {fF:Bool} {o:Ow} {ρ:ao} {S:Sx} {σ:L2.St} {H H':Hp}
theorem ER.dA (er:ER Φ Γ o ρ S σ H) {H1:Hp} (e:ba o.d H H1):ba o.A H H1:=e.mono er.da
theorem ER.Cm {S1:Sx} {ρ1:ao} {σ1:L2.St} {H1:Hp} (aG:ER Φ Γ o ρ1 S1 σ1 H1) (e:ba o.d H H1):∀b x,H b=some x->∃y,H1 b=some y:=λb x h=>e.al h λz=>aG.al b (aG.da b z)
theorem SO.fX {S':Sx} {ρ':ao} {σ':L2.St} (oi:OI Φ W o) (er:ER Φ Γ o ρ' S' σ' H') (e:ba o.d H H'):SO Φ Γ W o H ρ' S' σ' H':=⟨⟨o,oi,er,λb z=> .inl z⟩,e.mono er.da,er.Cm e⟩
theorem SO.go {o':Ow} {H1 H2:Hp} {ρ2:ao} {S2:Sx} {σ2:L2.St} (e:ba o.A H H1) (hA:∀b,o'.A b->o.A b\/H b=none) (vk:∀b x,H b=some x->∃y,H1 b=some y) (h:SO Φ Γ W o' H1 ρ2 S2 σ2 H2):SO Φ Γ W o H ρ2 S2 σ2 H2:=by
 obtain⟨⟨o2,IY,fN,FN⟩,e2,a2⟩:=h;refine⟨⟨o2,IY,fN,λb z=>?_⟩,⟨λb x h n=>?_,λb xs h=>e2.tp _ _ (e.tp _ _ h)⟩,λb x h=>?_⟩
 ·rcases FN b z with q | q
  ·exact hA b q
  ·refine .inr ?_;cases hb:H b with
   | none=>rfl
   | some x=>obtain⟨y,hy⟩:=vk b x hb;rw[q] at hy;cases hy
 ·refine e2.kp _ _ (e.kp _ _ h n) λz=>?_
  rcases hA b z with q | q
  ·exact n q
  ·rw[h] at q;cases q
 ·obtain⟨y,hy⟩:=vk b x h;exact a2 b y hy
theorem jT {fr:Nat->Bool} {c:C} {d:Dt} {v:V} {H1:Hp} (h:bO c d=true) (eo:EO Φ.K fr o c H d v H1):RV Φ.K o.A H1 v d:=by
 unfold bO at h;rw[P7] at h;rcases h with h | h
 ·exact eo.dy (Pf h)
 ·exact eo.val.kH h
theorem BL {i:Nat} {c:C} {st:Stmt} (hp:plainS Γ i=true) (h:PS X st (nY (bY Φ Γ F g.fr c) (eD i))):PS X st (jV Φ Γ F W fF (.asg i c)):=bF h λD σ H q=>by obtain⟨o,ρ,S,oi,er,q⟩:=q;unfold ex at q;rw[aa] at q;refine⟨o,ρ,S,er,af q λp _ q v H1 eo aG=>?_⟩;obtain⟨gs,q⟩:=aZ q;exact q _ _ (SO.fX oi (aG.set hp (jT gs eo)) eo.ext)
theorem Es {i:Nat} {c:C} {st:Stmt} (hp:plainS Γ i=true) (hf:fresh g.fr c=true) (h:PS X st (nY (bY Φ Γ F g.fr c) (eD i))):PS X st (jV Φ Γ F W fF (.asgM i c)):=bF h λD σ H q=>by
 obtain⟨o,ρ,S,oi,er,q⟩:=q;unfold ex at q;rw[aa] at q;refine⟨o,ρ,S,er,af q λp _ q v H1 eo aG=>?_⟩;obtain⟨gs,q⟩:=aZ q;have hv:RV Φ.K o.A H1 v p.1:=by
  by_cases hd:∃ds,p.1= .lst ds
  ·obtain⟨ds,hd⟩:=hd;obtain⟨a,xs,rfl,h1,h2,h3,h4⟩:=eo.jB hf ds hd;have na:¬o.A a:=λz=>by obtain⟨x,hx⟩:=er.al a z;rw[h1] at hx;cases hx
   rw[hd] at gs ⊢;refine RV.fj h2 na ?_;unfold jw at gs;rcases Bool.or_eq_true_iff.mp gs with z | z
   ·exact(h4 (Pf z)).weak λb w=> .inl w
   ·exact h3.gV z
  ·refine jT ?_ eo;unfold jw at gs;unfold bO;cases hq:p.1 with
   | lst ds=>exact absurd ⟨ds,hq⟩ hd
   | _=>rw[hq] at gs;exact gs
 exact q _ _ (SO.fX oi (aG.set hp hv) eo.ext)
theorem ER.own {S1:Sx} {H1:Hp} {fr:Nat->Bool} {c:C} {d:Dt} {v:V} {i:Nat} (oi:OI Φ W o) (er:ER Φ Γ o ρ S σ H) (aG:ER Φ Γ o ρ S1 σ H1) (hm:fH Γ i=true) (hδ:Γ.δ≠some i) (hf:fresh fr c=true) (hl:jw c d=true) (eo:EO Φ.K fr o c H d v H1):
  ∃o',OI Φ W o'/\ER Φ Γ o' (ρ.set i (some d)) S1 (σ.set i (some v)) H1/\∀b,o'.A b->o.A b\/H b=none:=by
 by_cases hd:∃ds,d= .lst ds
 ·obtain⟨ds,rfl⟩:=hd;obtain⟨a,xs,rfl,h1,h2,h3,h4⟩:=eo.jB hf ds rfl;have h4:aq Φ.K (λb=>o.A b\/b=a) H1 xs ds:=by
   unfold jw at hl;rcases Bool.or_eq_true_iff.mp hl with l | l
   ·exact h4 (Pf l)
   ·exact h3.gV l
  have nA:¬o.A a:=λz=>by obtain⟨y,hy⟩:=er.al a z;rw[h1] at hy;cases hy
  have h0:Φ.H0 a=none:=by
   cases q:Φ.H0 a with
   | none=>rfl
   | some x=>
    by_cases yO:Φ.d0=some a
    ·exact absurd (er.da a (oi.d a yO)) nA
    ·rw[er.ent.kp a x q yO] at h1;cases h1
  have av:∀b,(o.A b\/b=a)->o.A b\/H b=none:=λb z=>z.elim .inl λe=> .inr (by rw[e];exact h1)
  have dA:∀b,o.d b->(o.A b\/b=a):=λb z=> .inl (er.da b z)
  refine⟨⟨o.W,λb=>o.A b\/b=a,o.dr⟩,⟨oi.w,oi.d⟩,⟨?_,λb z=> .inl (er.wa b z),λb z=> .inl (er.da b z),λb z=>?_,λj e he=>?_,Dk.set er.dk rfl,λj j' b e e' m m' k1 k2 k3 k4=>?_,aG.drw,aG.drn,λj b hj hb=>?_,aG.dr0,aG.ent⟩,av⟩
  ·rw[List.length_set,List.length_set];exact er.len
  ·rcases z with z | z
   ·exact aG.al b z
   ·rw[z];exact⟨_,h2⟩
  ·by_cases hj:j=i
   ·subst hj;rw[List.getElem?_set] at he;simp only[if_true] at he;split at he
    ·rename_i cJ;cases he;refine⟨.ref a,by rw[Qc (by rw[er.len];exact cJ)],?_⟩;rw[if_pos hm];exact⟨a,xs,rfl,h2,.inr rfl,λz=>nA (er.wa a z),λz=>nA (er.da a z),h0,h4⟩
    ·cases he
   ·rw[Pw (Ne.symm hj)] at he;obtain⟨w,k1,k2⟩:=er.val j e he;refine⟨w,by rw[Pw (Ne.symm hj)];exact k1,?_⟩;by_cases hmj:fH Γ j=true
    ·rw[if_pos hmj] at k2 ⊢;cases e with
     | lst es=>obtain⟨b,ys,e1,e2,e3,e4,e5,e6,e7⟩:=k2;exact⟨b,ys,e1,eo.ext.kp _ _ e2 e5,.inl e3,e4,e5,e6,(e7.b8 av).mono eo.ext dA λ_ z=>z⟩
     | f9=>exact k2.elim
     | _=>exact(RV.b8 av k2).mono eo.ext dA λ_ z=>z
    ·rw[if_neg hmj] at k2 ⊢;exact(k2.b8 av).mono eo.ext dA λ_ z=>z
  ·
   have other:∀{j:Nat} {e:List Dt} {b:Addr},j≠i->fH Γ j=true->(ρ.set i (some (.lst ds)))[j]?=some (some (.lst e))->(σ.set i (some (.ref a)))[j]?=some (some (.ref b))->b≠a/\ρ[j]?=some (some (.lst e))/\σ[j]?=some (some (.ref b)):=λ {j e b} hj m k1 k3=>by rw[Pw (Ne.symm hj)] at k1 k3;obtain⟨w,n1,n2⟩:=er.val j _ k1;rw[if_pos m] at n2;obtain⟨b',ys,e1,e2,_⟩:=n2;rw[k3] at n1;cases n1;cases e1;refine⟨λz=>?_,k1,k3⟩;rw[z,h1] at e2;cases e2
   by_cases hj:j=i
   ·by_cases uH:j'=i
    ·rw[hj,uH]
    ·obtain⟨n,_,_⟩:=other uH m' k2 k4;subst hj;have cJ:j < σ.length:=by have:=(Pg.mp k3).1;rw[List.length_set] at this;exact this
     rw[Qc cJ] at k3;cases k3;exact absurd rfl n
   ·obtain⟨n,p1,p2⟩:=other hj m k1 k3;by_cases uH:j'=i
    ·subst uH;have cJ:j' < σ.length:=by have:=(Pg.mp k4).1;rw[List.length_set] at this;exact this
     rw[Qc cJ] at k4;cases k4;exact absurd rfl n
    ·obtain⟨_,p3,p4⟩:=other uH m' k2 k4;exact er.inj j j' b e e' m m' p1 p3 p2 p4
  ·rw[Pw (λz=>hδ (by rw[z];exact hj))];exact aG.drs j b hj hb
 ·
  have nl:∀e,d≠ .lst e:=λe z=>hd ⟨e,z⟩
  have hv:RV Φ.K o.A H1 v d:=by
   unfold jw at hl;rcases Bool.or_eq_true_iff.mp hl with l | l
   ·exact eo.dy (Pf l)
   ·cases d with
    | lst ds=>exact absurd rfl (nl ds)
    | _=>exact eo.val.kH l
  refine⟨o,oi,⟨?_,aG.wa,aG.da,aG.al,λj e he=>?_,Dk.set aG.dk hv.nd,λj j' b e e' m m' k1 k2 k3 k4=>?_,aG.drw,aG.drn,λj b hj hb=>?_,aG.dr0,aG.ent⟩,λb z=> .inl z⟩
  ·rw[List.length_set,List.length_set];exact er.len
  ·by_cases hj:j=i
   ·subst hj;rw[List.getElem?_set] at he;simp only[if_true] at he;split at he
    ·rename_i cJ;cases he;refine⟨v,by rw[Qc (by rw[er.len];exact cJ)],?_⟩;rw[if_pos hm];cases d with
     | lst ds=>exact absurd rfl (nl ds)
     | f9=>cases hv.nd
     | _=>exact hv
    ·cases he
   ·rw[Pw (Ne.symm hj)] at he;obtain⟨w,k1,k2⟩:=aG.val j e he;exact⟨w,by rw[Pw (Ne.symm hj)];exact k1,k2⟩
  ·have other:∀{j:Nat} {e:List Dt},(ρ.set i (some d))[j]?=some (some (.lst e))->j≠i:=λ {j e} k1 z=>by
    subst z;rw[List.getElem?_set] at k1;simp only[if_true] at k1;split at k1
    ·cases k1;exact nl e rfl
    ·cases k1
   have n1:=other k1;have n2:=other k2;rw[Pw (Ne.symm n1)] at k1 k3;rw[Pw (Ne.symm n2)] at k2 k4;exact aG.inj j j' b e e' m m' k1 k2 k3 k4
  ·rw[Pw (λz=>hδ (by rw[z];exact hj))];exact aG.drs j b hj hb
theorem Er {i:Nat} {c:C} {st:Stmt} (hm:fH Γ i=true) (hδ:Γ.δ≠some i) (hf:fresh g.fr c=true) (h:PS X st (nY (bY Φ Γ F g.fr c) (eD i))):PS X st (jV Φ Γ F W fF (.asgM i c)):=bF h λD σ H q=>by obtain⟨o,ρ,S,oi,er,q⟩:=q;unfold ex at q;rw[aa] at q;refine⟨o,ρ,S,er,af q λp _ q v H1 eo aG=>?_⟩;obtain⟨gs,q⟩:=aZ q;exact q _ _ ⟨ER.own oi er aG hm hδ hf gs eo,er.dA eo.ext,aG.Cm eo.ext⟩
end
section
variable {X:Cx} {Φ:Fm} {Γ:Gm} {F:FT} {g:G} {W:Addr->Prop} {fF:Bool} {o:Ow} {ρ:ao} {S:Sx} {σ:L2.St} {H H':Hp}
theorem nI {Ek:Nat->Prop} {ρ:ao} {i:Nat} {P:List Dt->Prop} (h:mR Ek (pq ρ i) P):∃ds,ρ[i]?=some (some (.lst ds))/\P ds:=by
 unfold pq at h;split at h
 ·exact⟨_,by assumption,h⟩
 ·exact h.elim
theorem yy {a:Addr} {u:HO}:∀b x,H b=some x->∃y,upd H a u b=some y:=λb x h=>by
 by_cases z:b=a
 ·subst z;exact⟨_,aP⟩
 ·exact⟨x,by rw[aI z];exact h⟩
theorem sS {ρ:ao} {i:Nat} (h:isLE ρ i=true):∃ds,ρ[i]?=some (some (.lst ds)):=by
 unfold isLE at h;split at h
 ·exact⟨_,by assumption⟩
 ·cases h
theorem ER.chg {i:Nat} {a:Addr} {ds es:List Dt} {xs ys:List V} (er:ER Φ Γ o ρ S σ H) (hm:fH Γ i=true) (hr:ρ[i]?=some (some (.lst ds))) (hs:σ[i]?=some (some (.ref a))) (hx:H a=some (.lst xs)) (hy:aq Φ.K o.A H ys es):
  ER Φ Γ o (ρ.set i (some (.lst es))) S σ (upd H a (.lst ys))/\ba o.A H (upd H a (.lst ys))/\∀b x,H b=some x->∃y,upd H a (.lst ys) b=some y:=by
 obtain⟨v,h1,h2⟩:=er.val i _ hr;rw[if_pos hm] at h2;rw[hs] at h1;cases h1;obtain⟨b,zs,e1,e2,e3,e4,e5,e6,e7⟩:=h2;cases e1;have up:ba (λb=>b=a) H (upd H a (.lst ys)):=⟨λb o h n=>by rw[aI n];exact h,Mx.k8 hx⟩;have sub:∀b,b=a->o.A b:=λb z=>by rw[z];exact e3
 refine⟨⟨by rw[List.length_set];exact er.len,er.wa,er.da,λb hb=>?_,λj d hd=>?_,Dk.set er.dk rfl,λj j' b d d' m m' k1 k2 k3 k4=>?_,λb hb=>?_,er.drn,er.drs,er.dr0,?_⟩,up.mono sub,yy⟩
 ·obtain⟨x,hx⟩:=er.al b hb;exact yy b x hx
 ·by_cases hj:j=i
  ·subst hj;rw[List.getElem?_set] at hd;simp only[if_true] at hd;split at hd
   ·cases hd;refine⟨.ref a,hs,?_⟩;rw[if_pos hm];exact⟨a,ys,rfl,aP,e3,e4,e5,e6,hy.mono up sub λ_ z=>z⟩
   ·cases hd
  ·rw[Pw (Ne.symm hj)] at hd;obtain⟨w,k1,k2⟩:=er.val j d hd;refine⟨w,k1,?_⟩;by_cases hmj:fH Γ j=true
   ·rw[if_pos hmj] at k2 ⊢;cases d with
    | lst dl=>obtain⟨b,OD,n1,n2,n3,n4,n5,n6,n7⟩:=k2;refine⟨b,OD,n1,up.kp _ _ n2 (λz=>?_),n3,n4,n5,n6,n7.mono up sub λ_ z=>z⟩;subst n1 z;exact hj (er.inj j i b dl ds hmj hm hd hr k1 hs)
    | f9=>exact k2.elim
    | _=>exact RV.mono up sub (λ_ z=>z) k2
   ·rw[if_neg hmj] at k2 ⊢;exact k2.mono up sub λ_ z=>z
 ·have same:∀{j:Nat} {d:List Dt},(ρ.set i (some (.lst es)))[j]?=some (some (.lst d))->∃d',ρ[j]?=some (some (.lst d')):=λ {j d} q=>by
   by_cases hj:j=i
   ·subst hj;exact⟨ds,hr⟩
   ·rw[Pw (Ne.symm hj)] at q;exact⟨d,q⟩
  obtain⟨d1,q1⟩:=same k1;obtain⟨d2,q2⟩:=same k2;exact er.inj j j' b d1 d2 m m' q1 q2 k3 k4
 ·obtain⟨ns,n1,n2⟩:=er.drw b hb;exact⟨ns,n1,up.kp _ _ n2 λz=>e5 (by rw[<-z];exact hb)⟩
 ·refine⟨λb x h n=>up.kp _ _ (er.ent.kp b x h n) λz=>?_,λb xs h=>up.tp _ _ (er.ent.tp b xs h)⟩;subst z;rw[h] at e6;cases e6
theorem kK {i:Nat} {ds:List Dt} (er:ER Φ Γ o ρ S σ H) (hm:fH Γ i=true) (hr:ρ[i]?=some (some (.lst ds))):∃a xs,σ[i]?=some (some (.ref a))/\H a=some (.lst xs)/\aq Φ.K o.A H xs ds:=by obtain⟨v,h1,h2⟩:=er.val i _ hr;rw[if_pos hm] at h2;obtain⟨a,xs,e1,e2,e3,e4,e5,e6,e7⟩:=h2;subst e1;exact⟨a,xs,h1,e2,e7⟩
theorem HY {i:Nat} {c:C} {st:Stmt} (hm:fH Γ i=true) (h:PS X st (tU (MF X.K "list" tJ (n8 i) (BG (bY Φ Γ F g.fr c) HK)))):PS X st (jV Φ Γ F W fF (.app i c)):=bF h λD σ H q=>by obtain⟨o,ρ,S,oi,er,q⟩:=q;unfold ex at q;obtain⟨gl,q⟩:=aZ q;obtain⟨ds,hr⟩:=sS gl;obtain⟨a,xs,h1,h2,h3⟩:=kK er hm hr;rw[aa] at q;refine⟨.ref a,h1,.inl ⟨rfl,_,dB.of h2⟩,o,ρ,S,er,af q λp _ q v H1 eo aG=>?_⟩;obtain⟨gs,q⟩:=aZ q;rw[aa] at q;obtain⟨lZ,e1,q⟩:=nI q;rw[hr] at e1;cases e1;obtain⟨gl,q⟩:=aZ q;obtain⟨a',vh,oS,oT,FM⟩:=kK aG hm hr;rw[h1] at oS;cases oS;have l9:=eJ;have Bq:=sizeLine_eq;have OW:lim=1000000:=rfl;have IH:=Pf gl;refine⟨a,vh,v,rfl,rfl,oT,by rw[FM.length];lia,?_⟩;obtain⟨k1,k2,k3⟩:=aG.chg hm hr h1 oT (FM.append (aq.cons (jT gs eo) aq.nil));exact q _ _ (SO.go (er.dA eo.ext) (λb z=> .inl z) (aG.Cm eo.ext) ⟨⟨o,oi,k1,λb z=> .inl z⟩,k2,k3⟩)
theorem Ia {i:Nat} {st:Stmt} (hm:fH Γ i=true) (h:PS X st (tU (HE X.K "list" xX (n8 i)))):PS X st (jV Φ Γ F W fF (.Be i)):=bF h λD σ H q=>by obtain⟨o,ρ,S,oi,er,q⟩:=q;unfold ex at q;rw[aa] at q;obtain⟨ds,hr,q⟩:=nI q;obtain⟨a,xs,h1,h2,h3⟩:=kK er hm hr;obtain⟨k1,k2,k3⟩:=er.chg hm hr h1 h2 (aq.nil (K:=Φ.K) (A:=o.A));exact⟨.ref a,h1,.inl ⟨rfl,_,dB.of h2⟩,a,xs,rfl,rfl,h2,q _ _ ⟨⟨o,oi,k1,λb z=> .inl z⟩,k2,k3⟩⟩
theorem Ey {i:Nat} {k v:C} {st:Stmt} (hm:fH Γ i=true) (h:PS X st (nY (bY Φ Γ F g.fr v) (FH (n8 i) (bY Φ Γ F g.fr k) BC))):PS X st (jV Φ Γ F W fF (.ye i k v)):=bF h λD σ H q=>by
 obtain⟨o,ρ,S,oi,er,q⟩:=q;unfold ex at q;obtain⟨gl,q⟩:=aZ q;obtain⟨ds,hr⟩:=sS gl;obtain⟨a,xs,h1,h2,h3⟩:=kK er hm hr;rw[aa] at q;refine⟨o,ρ,S,er,af q λp _ q x H1 eo aG=>?_⟩;rw[aa] at q;refine⟨.ref a,h1,o,ρ,p.2,aG,af q λp2 _ q y H2 eo2 fN=>?_⟩;obtain⟨gs,q⟩:=aZ q;rw[aa] at q;obtain⟨lZ,e1,q⟩:=nI q;rw[hr] at e1;cases e1;obtain⟨a',vh,oS,oT,FM⟩:=kK fN hm hr;rw[h1] at oS;cases oS;cases hd:p2.1 with
 | int n=>
  rw[hd] at q eo2;simp only at q;cases hj:ot ds.length n with
  | none=>rw[hj] at q;exact q.elim
  | some j=>
   rw[hj] at q;have hx:RV Φ.K o.A H2 x p.1:=by
    unfold bO at gs;rw[P7] at gs;obtain⟨k1,k2,k3⟩:=eo.keep eo2.ext er.g9;rcases gs with gs | gs
    ·exact k2 (Pf gs)
    ·exact k1.kH gs
   refine⟨a,vh,n,j,rfl,eo2.val.int_inv,oT,by rw[FM.length];exact hj,?_⟩;obtain⟨k1,k2,k3⟩:=fN.chg hm hr h1 oT (FM.set j hx);exact q _ _ (SO.go (er.dA (eo.ext.trans eo2.ext)) (λb z=> .inl z) (fN.Cm (eo.ext.trans eo2.ext)) ⟨⟨o,oi,k1,λb z=> .inl z⟩,k2,k3⟩)
 | _=>rw[hd] at q;exact q.elim
theorem Ic {c:C} {st:Stmt} (h:PS X st (tU (bY Φ Γ F g.fr c))):PS X st (jV Φ Γ F W fF (.Ir c)):=bF h λD σ H q=>by obtain⟨o,ρ,S,oi,er,q⟩:=q;unfold ex at q;rw[aa] at q;exact⟨o,ρ,S,er,af q λp _ q v H1 eo aG=>q _ _ (SO.fX oi aG eo.ext)⟩
theorem Et {is:List Nat} {c:C} {st:Stmt} (hK:Φ.K=X.K) (hp:∀i∈is,plainS Γ i=true) (h:PS X st (nY (bY Φ Γ F g.fr c) (AV X.K (.tp is)))):PS X st (jV Φ Γ F W fF (.asgT is c)):=bF h λD σ H q=>by obtain⟨o,ρ,S,oi,er,q⟩:=q;unfold ex at q;rw[aa] at q;refine⟨o,ρ,S,er,af q λp _ q v H1 eo aG=>?_⟩;obtain⟨gs,q⟩:=aZ q;rw[aa] at q;obtain⟨ρ1,hρ,q⟩:=kE (kS _ _ _) q;rw[<-hK];exact rj aG hp (jT gs eo) hρ λσ1 fN _=>q _ _ (SO.fX oi fN eo.ext)
theorem ER.h0 {a:Addr} (oi:OI Φ W o) (er:ER Φ Γ o ρ S σ H) (h:H a=none):Φ.H0 a=none:=by
 cases q:Φ.H0 a with
 | none=>rfl
 | some x=>
  by_cases yO:Φ.d0=some a
  ·obtain⟨y,hy⟩:=er.al a (er.da a (oi.d a yO));rw[h] at hy;cases hy
  ·rw[er.ent.kp a x q yO] at h;cases h
theorem BM {c:C} {st:Stmt} (hf:fF=true->fresh g.fr c=true) (h:PS X st (Eg (bY Φ Γ F g.fr c))):PS X st (jV Φ Γ F W fF (.ret c)):=bF h λD σ H q=>by
 obtain⟨o,ρ,S,oi,er,q⟩:=q;unfold ex at q;rw[aa] at q;refine⟨o,ρ,S,er,af q λp yP q v H1 eo aG=>?_⟩;have hw:∀b,W b->o.wd b:=λb z=> .inl (by rw[oi.w];exact z)
 refine q _ _ ⟨eo.val.weak hw,aG.ent,λa ha=>aG.drw a (oi.d a ha),λhfF ds ed=>?_⟩;obtain⟨a,xs,h1,h2,h3,h4,_⟩:=eo.jB (hf hfF) ds ed;exact⟨a,xs,h1,er.h0 oi h2,h3,h4.weak λb z=>z.imp (hw b) id⟩
theorem Ew {i:Nat} {st:Stmt} (hm:fH Γ i=true) (hκ:Γ.κ≠some i) (h:PS X st (Eg (n8 i))):PS X st (jV Φ Γ F W fF (.ret (.mvr i))):=bF h λD σ H q=>by
 obtain⟨o,ρ,S,oi,er,q⟩:=q;unfold ex ev at q;rw[aa,aa] at q;obtain⟨d,hd,q⟩:=nk q;obtain⟨v,k1,k2⟩:=er.val i d hd;rw[if_pos hm] at k2;have hw:∀b,W b->o.wd b:=λb z=> .inl (by rw[oi.w];exact z)
 have Ob:∀b,W b->o.A b:=λb z=>er.wa b (by rw[oi.w];exact z)
 refine⟨v,k1,q _ _ ⟨(k2.val (er.nd hd hκ) er.wa er.da).weak hw,er.ent,λa ha=>er.drw a (oi.d a ha),λhfF ds ed=>?_⟩⟩;simp only at ed;subst ed;obtain⟨a,xs,e1,e2,e3,e4,e5,e6,e7⟩:=k2;exact⟨a,xs,e1,e6,e2,e7.weak λb z=>z.elim (Ob b) λy=>by rw[y];exact e3⟩
theorem Ex {st:Stmt} (h:PS X st BJ):PS X st (jV Φ Γ F W fF .retN):=bF h λD σ H q=>by obtain⟨o,ρ,S,oi,er,q⟩:=q;exact q _ _ ⟨RV.gU,er.ent,λa ha=>er.drw a (oi.d a ha),λ_ ds ed=>by cases ed⟩
theorem Eu {st:Stmt} (h:PS X st ym):PS X st (jV Φ Γ F W fF .pas):=bF h λD σ H q=>by obtain⟨o,ρ,S,oi,er,q⟩:=q;exact q _ _ (SO.fX oi er ba.refl)
theorem HZ {st:Stmt} (h:PS X st yl):PS X st (jV Φ Γ F W fF .brk):=bF h λD σ H q=>by obtain⟨o,ρ,S,oi,er,q⟩:=q;exact q _ _ (SO.fX oi er ba.refl)
theorem Ib {st:Stmt} (h:PS X st BH):PS X st (jV Φ Γ F W fF .cnt):=bF h λD σ H q=>by obtain⟨o,ρ,S,oi,er,q⟩:=q;exact q _ _ (SO.fX oi er ba.refl)
theorem cT.go {o':Ow} {H1:Hp} {D D':Ends} {p:Fl×ao×Sx} (e:ba o.A H H1) (hA:∀b,o'.A b->o.A b\/H b=none) (vk:∀b x,H b=some x->∃y,H1 b=some y)
  (hn:∀σ' H',D.nx σ' H'->D'.nx σ' H') (hb:∀σ' H',D.bk σ' H'->D'.bk σ' H') (hc:∀σ' H',D.ct σ' H'->D'.ct σ' H') (hr:∀v H',D.rt v H'->D'.rt v H') (h:cT Φ Γ W fF o H D p):cT Φ Γ W fF o' H1 D' p:=by
 unfold cT at h ⊢;cases hp:p.1 with
 | next=>rw[hp] at h;exact λσ' H' so=>hn _ _ (h σ' H' (SO.go e hA vk so))
 | brk=>rw[hp] at h;exact λσ' H' so=>hb _ _ (h σ' H' (SO.go e hA vk so))
 | cnt=>rw[hp] at h;exact λσ' H' so=>hc _ _ (h σ' H' (SO.go e hA vk so))
 | ret d=>rw[hp] at h;exact λv H' ro=>hr _ _ (h v H' ro)
theorem yF:t9 X [] (jE Φ Γ F W fF .nil):=tF AE λD σ H q=>by obtain⟨o,ρ,S,oi,er,q⟩:=q;exact q _ _ (SO.fX oi er ba.refl)
theorem A3 {st:Stmt} {nW:List Stmt} {t:T} {ts:Ts} (h1:PS X st (jV Φ Γ F W fF t)) (h2:t9 X nW (jE Φ Γ F W fF ts)):t9 X (st::nW) (jE Φ Γ F W fF (.cons t ts)):=tF (xU h1 h2) λD σ H q=>by
 obtain⟨o,ρ,S,oi,er,q⟩:=q;unfold aW at q;rw[aa] at q;refine⟨o,ρ,S,oi,er,af q λp _ q=>?_⟩;unfold cT;cases hp:p.1 with
 | next=>rw[hp] at q;intro σ1 H1 so;obtain⟨⟨o1,KR,aG,JZ⟩,e1,a1⟩:=so;exact⟨o1,p.2.1,p.2.2,KR,aG,af q λp2 _ q=>cT.go e1 JZ a1 (λ_ _ z=>z) (λ_ _ z=>z) (λ_ _ z=>z) (λ_ _ z=>z) q⟩
 | brk=>rw[hp] at q;exact q
 | cnt=>rw[hp] at q;exact q
 | ret d=>rw[hp] at q;exact q
theorem Ig {t:C} {a b:Ts} {st:Stmt} (h:PS X st (HJ (fB Φ Γ F t) (jE Φ Γ F W fF a) (jE Φ Γ F W fF b))):PS X st (jV Φ Γ F W fF (.ifs t a b)):=bF h λD σ H q=>by
 obtain⟨o,ρ,S,oi,er,q⟩:=q;unfold ex at q;rw[aa] at q;refine⟨o,ρ,S,er,af q λp _ q H1 e1 aG=>?_⟩;have go:∀{ts:Ts},mR Φ.Ek (aW F ts ρ p.2) (cT Φ Γ W fF o H D)->jE Φ Γ F W fF ts D σ H1:=λq=>⟨o,ρ,p.2,oi,aG,af q λp2 _ q=>cT.go (er.dA e1) (λb z=> .inl z) (aG.Cm e1) (λ_ _ z=>z) (λ_ _ z=>z) (λ_ _ z=>z) (λ_ _ z=>z) q⟩
 cases hp:p.1 with
 | true=>rw[hp] at q;exact Gu (go q)
 | false=>rw[hp] at q;exact Gr (go q)
theorem Ie {tg:Tg} {it:lP} {b:Ts} {st:Stmt} (hK:Φ.K=X.K) (hp:∀i∈aX tg,plainS Γ i=true) (h:PS X st (HG (n9 Φ Γ F it) (AV X.K tg) (jE Φ Γ F W fF b))):PS X st (jV Φ Γ F W fF (.fr tg it b)):=bF h λD σ H q=>by
 obtain⟨o,ρ,S,oi,er,q⟩:=q;unfold ex at q;rw[aa] at q;refine⟨o,ρ,S,er,af q λp _ q J H1 io aG=>?_⟩;obtain⟨gs,q⟩:=aZ q;have wk:Wk Φ.K o.A o.A J H1 p.1:=(Bool.or_eq_true_iff.mp gs).elim (λz=>io.w0 (Pf z)) io.w2;refine⟨λi m σ2 H2=>m=p.1.length - i/\i<=p.1.length/\∃o2 ρ2 S2,OI Φ W o2/\ER Φ Γ o2 ρ2 S2 σ2 H2/\ba o.A H1 H2/\(∀b,o2.A b->o.A b\/H1 b=none)/\(∀b x,H1 b=some x->∃y,H2 b=some y)/\mR Φ.Ek (forL tg (aW F b) (p.1.drop i) ρ2 S2) (cT Φ Γ W fF o H D),
  ⟨_,rfl,Nat.zero_le _,o,ρ,p.2,oi,aG,ba.refl,λb z=> .inl z,λb x hx=>⟨x,hx⟩,q⟩,?_⟩
 rintro i m σ2 H2 ⟨rfl,hi,o2,ρ2,S2,IY,fN,e2,FN,LM,q⟩;have eH:ba o.A H H2:=(er.dA io.ext).trans e2;have aH:∀b x,H b=some x->∃y,H2 b=some y:=λb x hx=>by obtain⟨y,hy⟩:=aG.Cm io.ext b x hx;exact LM b y hy
 have A1:∀b,o2.A b->o.A b\/H b=none:=λb z=>(FN b z).imp id λq=>by
  cases hb:H b with
  | none=>rfl
  | some x=>obtain⟨y,hy⟩:=aG.Cm io.ext b x hb;rw[q] at hy;cases hy
 by_cases cJ:i < p.1.length
 ·refine .inr ⟨wk.go i H2 cJ e2,?_⟩;have hd:∃d,p.1[i]?=some d:=⟨p.1[i],by simp[cJ]⟩;obtain⟨d0,yO⟩:=hd;have JK:p.1.drop i=d0::p.1.drop (i + 1):=by rw[List.drop_eq_getElem_cons cJ];congr 1;exact(Pg.mp yO).2
  rw[JK] at q;unfold forL at q;rw[aa] at q;obtain⟨ρ3,hρ,q⟩:=kE (kS _ _ _) q;rw[aa] at q;refine⟨λσ3 H3=>i + 1<=p.1.length/\∃o3 ρ3 S3,OI Φ W o3/\ER Φ Γ o3 ρ3 S3 σ3 H3/\ba o.A H1 H3/\(∀b,o3.A b->o.A b\/H1 b=none)/\(∀b x,H1 b=some x->∃y,H3 b=some y)/\mR Φ.Ek (forL tg (aW F b) (p.1.drop (i + 1)) ρ3 S3) (cT Φ Γ W fF o H D),λσ3 H3 z=>⟨p.1.length - (i + 1),by lia,rfl,z⟩,λx H3 y=>?_⟩;obtain⟨s3,d,hd,hx⟩:=wk.yld i x H2 H3 cJ e2 y;rw[yO] at hd;cases hd;have wZ:=hx o2.A FN;rw[<-hK];refine rj (fN.grow s3) hp wZ hρ λσ4 JP _=>?_
  refine⟨o2,ρ3,S2,IY,JP,af q λp2 _ q=>?_⟩;have again:∀{σ5:L2.St} {H5:Hp},SO Φ Γ W o2 H3 p2.2.1 p2.2.2 σ5 H5->mR Φ.Ek (forL tg (aW F b) (p.1.drop (i + 1)) p2.2.1 p2.2.2) (cT Φ Γ W fF o H D)->i + 1<=p.1.length/\∃o3 ρ3 S3,OI Φ W o3/\ER Φ Γ o3 ρ3 S3 σ5 H5/\ba o.A H1 H5/\(∀b,o3.A b->o.A b\/H1 b=none)/\(∀b x,H1 b=some x->∃y,H5 b=some y)/\mR Φ.Ek (forL tg (aW F b) (p.1.drop (i + 1)) ρ3 S3) (cT Φ Γ W fF o H D):=λ {σ5 H5} so q=>by have Ot:=SO.go (o:=o) (H:=H1) (e2.trans (ba.of_same s3)) FN (λb x hx=>by obtain⟨y,hy⟩:=LM b x hx;exact⟨y,s3 _ _ hy⟩) so;obtain⟨⟨o5,On,Iy,Nq⟩,e5,a5⟩:=Ot;exact⟨cJ,o5,_,_,On,Iy,e5,Nq,a5,q⟩
  unfold cT;cases fG:p2.1 with
  | next=>rw[fG] at q;exact λσ5 H5 so=>again so q
  | cnt=>rw[fG] at q;exact λσ5 H5 so=>again so q
  | brk=>rw[fG] at q;intro σ5 H5 so;have q:cT Φ Γ W fF o H D (.next,p2.2):=q;unfold cT at q;exact q σ5 H5 (SO.go (eH.trans (ba.of_same s3)) A1 (λb x hx=>by obtain⟨y,hy⟩:=aH b x hx;exact⟨y,s3 _ _ hy⟩) so)
  | ret d=>rw[fG] at q;have q:cT Φ Γ W fF o H D (.ret d,p2.2):=q;exact q
 ·have e:i=p.1.length:=by lia
  subst e;rw[List.drop_length] at q;have q:cT Φ Γ W fF o H D (.next,ρ2,S2):=q;unfold cT at q;exact .inl ⟨wk.stop H2 e2,q _ _ ⟨⟨o2,IY,fN,A1⟩,eH,aH⟩⟩
end
noncomputable def xa:Expr->Bool
 | .Tuple ..=>true
 | .List ..=>true
 | _=>false
noncomputable def kr:Expr->Bool
 | .ListComp ..=>true
 | .SetComp ..=>true
 | .DictComp ..=>true
 | _=>false
noncomputable def Cc (n:Nat) (g:G) (Γ:Gm) (i:Nat) (e:Expr):Option T:=match e with
 | .Name y p=>match slot Γ y with
  | some j=>if fH Γ j then none else(cE n g Γ (.Name y p)).bind λc=>some (.asg i c)
  | none=>(cE n g Γ (.Name y p)).bind λc=>some (.asg i c)
 | e=>(cE n g Γ e).bind λc=>some (if fresh g.fr c&&lk c != 0 then .asgM i c else .asg i c)
noncomputable def Ce (n:Nat) (g:G) (Γ:Gm) (fF:Bool) (e:Expr):Option T:=match e with
 | .Name y p=>match slot Γ y with
  | some j=>if fH Γ j then(if Γ.δ==some j||Γ.κ==some j then none else some (.ret (.mvr j))) else(cE n g Γ (.Name y p)).bind λc=>if fF then none else some (.ret c)
  | none=>(cE n g Γ (.Name y p)).bind λc=>if fF then none else some (.ret c)
 | e=>(cE n g Γ e).bind λc=>if !fF||fresh g.fr c then some (.ret c) else none
mutual
noncomputable def cS:Nat->G->Gm->Bool->Bool->Stmt->Option T
 | 0,_,_,_,_,_=>none
 | n + 1,g,Γ,dp,fF,st=>match st with
  | .Assign tgs e _=>match tgs with
   | [.Name x _]=>(gK Γ x).bind λi=>
     if Γ.δ==some i then none
     else if fH Γ i then(if Γ.κ==some i then none else(cE n g Γ e).bind λc=>if fresh g.fr c then some (.asgM i c) else none)
     else Cc n g Γ i e
   | [.Tuple es _ _]=>if xa e then none else(gT Γ es).bind λis=>(cE n g Γ e).bind λc=>some (.asgT is c)
   | [.Subscript (.Name x _) k _]=>(slot Γ x).bind λi=>if fH Γ i then(cE n g Γ e).bind λv'=>(cE n g Γ k).bind λk'=>if Γ.κ==some i then none else some (.ye i k' v') else none
   | _=>none
  | .Expr ex _=>match ex with
   | .Call (.Attribute (.Name x _) m ap) [a] [] cp=>(slot Γ x).bind λi=>if fH Γ i&&ap.endLine==cp.line then(cE n g Γ a).bind λa'=>
     (if m==("append":Str) then some (.app i a') else none) else none
   | .Call (.Attribute (.Name x _) m ap) [] [] cp=>(slot Γ x).bind λi=>if fH Γ i&&ap.endLine==cp.line&&m==("clear":Str) then some (.Be i) else none
   | e=>if kr e then none else(cE n g Γ e).bind λc=>some (.Ir c)
  | .Return (some e) _=>Ce n g Γ fF e
  | .Return none _=>some .retN
  | .If t a b _=>(cE n g Γ t).bind λt'=>(Cf n g Γ dp fF a).bind λa'=>(Cf n g Γ dp fF b).bind λb'=>some (.ifs t' a' b')
  | .For tg it b els _=>match els with
   | []=>(cI n g Γ tg it).bind λjN=>(oF Γ tg).bind λkY=>(Cf n g Γ dp fF b).bind λb'=>some (.fr kY jN b')
   | _=>none
  | .Raise _ _ _=>some (.rs 0 [])
  | .Break _=>some .brk
  | .Continue _=>some .cnt
  | .Pass _=>some .pas
  | _=>none
noncomputable def Cf:Nat->G->Gm->Bool->Bool->List Stmt->Option Ts
 | 0,_,_,_,_,_=>none
 | n + 1,g,Γ,dp,fF,nW=>match nW with
  | []=>some .nil
  | st::nW=>(cS n g Γ dp fF st).bind λt=>(Cf n g Γ dp fF nW).bind λts=>some (.cons t ts)
end
section
variable {g:G} {xv:Nat->Value} {CX:jY} {k:Nat} {F:FT} {X:Cx} {Φ:Fm} {Γ:Gm} {W:Addr->Prop}
theorem pZ {e:Expr} (h:kr e=false) (t:Option Expr) (l:Nat) (env:Env):swapsWith e t l env=pure false:=by cases e <;> first | rfl | (simp[kr] at h)
theorem mF {e:Expr} {t:Expr} (ht:∀x p,t≠ .Name x p) (l:Nat) (env:Env):swapsWith e (some t) l env=pure false:=by cases e <;> first | rfl | (cases t <;> first | rfl | exact absurd rfl (ht _ _))
theorem oH {n:Nat} {elt:Expr} {gens:List Comprehension} {sc:Scope} {fL:Pos} {c:C} (h:cE (n + 1) g Γ (.ListComp elt gens sc fL)=some c):sc.kind= .function/\vP sc.names Γ.names (a8 Γ sc).1.N Γ.N (a8 Γ sc).2=true/\(a8 Γ sc).1.N.Nodup/\
  ((∃tg it ifs jN kY oh e',gens=[⟨tg,it,ifs,0⟩]/\cI n g Γ tg it=some jN/\oF (a8 Γ sc).1 tg=some kY/\zv n g (a8 Γ sc).1 ifs=some oh/\cE n g (a8 Γ sc).1 elt=some e'/\c= .comp (a8 Γ sc).2 jN kY oh e')\/
   (∃tg it ifs ji gH cv jN kY oh o6 kZ p5 e',gens=[⟨tg,it,ifs,0⟩,⟨ji,gH,cv,0⟩]/\cI n g Γ tg it=some jN/\oF (a8 Γ sc).1 tg=some kY/\zv n g (a8 Γ sc).1 ifs=some oh/\cI n g (a8 Γ sc).1 ji gH=some o6/\oF (a8 Γ sc).1 ji=some kZ/\zv n g (a8 Γ sc).1 cv=some p5/\cE n g (a8 Γ sc).1 elt=some e'/\
   (∀i∈aX kZ,i∉aX kY)/\c= .gF (a8 Γ sc).2 jN kY oh o6 kZ p5 e')):=by
 unfold cE at h;simp only at h;split at h
 ·rename_i hk;split at h
  ·rename_i tg it ifs;obtain⟨jN,h1,h⟩:=Pa.mp h;obtain⟨kY,h2,h⟩:=Pa.mp h;obtain⟨oh,h3,h⟩:=Pa.mp h;obtain⟨e',h4,h⟩:=Pa.mp h;split at h
   ·rename_i hb;cases h;rw[Pd] at hb;exact⟨PF hk,hb.1,Pf hb.2,.inl ⟨tg,it,ifs,jN,kY,oh,e',rfl,h1,h2,h3,h4,rfl⟩⟩
   ·cases h
  ·rename_i tg it ifs ji gH cv;obtain⟨jN,h1,h⟩:=Pa.mp h;obtain⟨kY,h2,h⟩:=Pa.mp h;obtain⟨oh,h3,h⟩:=Pa.mp h;obtain⟨o6,h5,h⟩:=Pa.mp h;obtain⟨kZ,h6,h⟩:=Pa.mp h;obtain⟨p5,h7,h⟩:=Pa.mp h;obtain⟨e',h4,h⟩:=Pa.mp h;split at h
   ·rename_i hb;cases h;rw[Pd,Pd] at hb;refine⟨PF hk,hb.1.1,Pf hb.1.2,.inr ⟨tg,it,ifs,ji,gH,cv,jN,kY,oh,o6,kZ,p5,e',rfl,h1,h2,h3,h5,h6,h7,h4,λi hi z=>?_,rfl⟩⟩;have:=PZ.mp hb.2 i hi;simp[z] at this
   ·cases h
  ·cases h
 ·cases h
theorem iT {n i:Nat} {x:Str} {e:Expr} {c:C} {pos' pos:Pos} (gx:GX g Γ X) (hX:HX g xv CX k F Φ X) (hs:gK Γ x=some i) (h:cE n g Γ e=some c):PS X (.Assign [.Name x pos'] e pos) (nY (bY Φ Γ F g.fr c) (eD i)):=by
 have S:=iV (F:=F) n Γ X Φ gx hX;obtain⟨a1,a2,a3⟩:=kU hs;obtain⟨l1,l2⟩:=gx.loc x a1;have hN:X.N.Nodup:=gx.N▸gx.nd;have hi:X.N[i]?=some x:=by rw[gx.N];exact a3
 by_cases hc:kr e=true
 ·cases n with
  | zero=>simp[cE] at h
  | succ n=>
   cases e with
   | ListComp elt gens sc fL=>
    have Nz:=(S.e _ _ h).1;obtain⟨hk,hb,jq,Bm⟩:=oH h;cases CP:(X.env.blockKind== .function&&X.env.kindOf x==some .local&&pos'.line==(Expr.ListComp elt gens sc fL).pos.line&& !(sc.names.any λ(n,k)=>n==x&&(k== .local||k== .cell))) with
    | false=>exact xT hN hi l1 Nz (by show pure (X.env.blockKind== .function&&X.env.kindOf x==some .local&&pos'.line==(Expr.ListComp elt gens sc fL).pos.line&& !(sc.names.any λ(n,k)=>n==x&&(k== .local||k== .cell)))=_;rw[CP]) l2
    | true=>
     have hl:X.env.kindOf x=some .local:=by rw[Pd,Pd,Pd] at CP;exact PF CP.1.1.2
     have B:=qw gx hk hb;have S1:=iV (F:=F) n Γ X Φ gx hX;have J:=λC s H fp=>iV (F:=F) n (a8 Γ sc).1 (gw X sc (a8 Γ sc).1.N C s H fp (vq X sc (a8 Γ sc).1.N (lO Φ xv) C s H fp)) Φ (fg gx B jq) (qG hX)
     rcases Bm with ⟨tg,it,ifs,jN,kY,oh,e',rfl,h1,h2,h3,h4,rfl⟩ | ⟨tg,it,ifs,ji,gH,cv,jN,kY,oh,o6,kZ,p5,e',rfl,h1,h2,h3,h5,h6,h7,h4,F4,rfl⟩
     ·refine bF (ju (xb:=vq X sc (a8 Γ sc).1.N (lO Φ xv)) (body:=λacc env=>gM elt acc env) (i:=i) gx.calm hN hi hl B (jX hX.st hX.xgx) (S1.i _ _ _ h1).1 (λoq acc env=>p6 ..) (λC s H fp=>pV (fg gx B jq) h2) (λC s H fp=>(J C s H fp).ts _ _ h3) (λC s H fp D=>jQ ((J C s H fp).e _ _ h4).1) (gQ (S1.i _ _ _ h1).2 _) ?_) λD σ H q=>ya hX.K B jq h2 q
      show pure (X.env.blockKind== .function&&X.env.kindOf x==some .local&&pos'.line==(Expr.ListComp elt [⟨tg,it,ifs,0⟩] sc fL).pos.line&& !(sc.names.any λ(n,k)=>n==x&&(k== .local||k== .cell)))=_;rw[CP]
     ·refine bF (ju (xb:=vq X sc (a8 Γ sc).1.N (lO Φ xv)) (body:=λacc env=>nextOf (.ListComp elt [⟨tg,it,ifs,0⟩,⟨ji,gH,cv,0⟩] sc fL) 1 gH acc env) (i:=i) gx.calm hN hi hl B (jX hX.st hX.xgx) (S1.i _ _ _ h1).1 (λoq acc env=>p7 ..) (λC s H fp=>pV (fg gx B jq) h2) (λC s H fp=>(J C s H fp).ts _ _ h3)
       (λC s H fp D=>tv gx.calm (tu hX.st) ((J C s H fp).i _ _ _ h5).1 (pV (fg gx B jq) h6) ((J C s H fp).ts _ _ h7) (jQ ((J C s H fp).e _ _ h4).1) (gQ ((J C s H fp).i _ _ _ h5).2 _)) (gQ (S1.i _ _ _ h1).2 _) ?_) λD σ H q=>tN hX.K B jq h2 h6 F4 q
      show pure (X.env.blockKind== .function&&X.env.kindOf x==some .local&&pos'.line==(Expr.ListComp elt [⟨tg,it,ifs,0⟩,⟨ji,gH,cv,0⟩] sc fL).pos.line&& !(sc.names.any λ(n,k)=>n==x&&(k== .local||k== .cell)))=_;rw[CP]
   | SetComp=>simp[cE] at h
   | DictComp=>simp[cE] at h
   | _=>simp[kr] at hc
 ·exact xT hN hi l1 (S.e _ _ h).1 (pZ (by simpa using hc) _ _ _) l2
structure Jt (g:G) (F:FT) (n:Nat) (Γ:Gm) (X:Cx) (Φ:Fm) (W:Addr->Prop) (dp fF:Bool):Prop where
 s:∀st t,cS n g Γ dp fF st=some t->PS X st (jV Φ Γ F W fF t)
 ss:∀nW ts,Cf n g Γ dp fF nW=some ts->t9 X nW (jE Φ Γ F W fF ts)
theorem om {x:Str} {i:Nat} {p:Pos} (gx:GX g Γ X) (h:slot Γ x=some i):PE X (.Name x p) (n8 i):=by obtain⟨v1,v2,v3⟩:=tQ h;obtain⟨n1,n2,n3⟩:=eM v2;exact xO (by rw[gx.N];exact v3) (gx.vis x v1) n1 n2
theorem B1 {n i:Nat} {x:Str} {e:Expr} {t:T} {pos' pos:Pos} {fF:Bool} (gx:GX g Γ X) (hX:HX g xv CX k F Φ X) (hs:gK Γ x=some i) (hp:plainS Γ i=true) (h:Cc n g Γ i e=some t):PS X (.Assign [.Name x pos'] e pos) (jV Φ Γ F W fF t):=by
 have DU:∀{e:Expr} {t:T},((cE n g Γ e).bind λc=>some (T.asg i c))=some t->PS X (.Assign [.Name x pos'] e pos) (jV Φ Γ F W fF t):=λ {e t} h=>by obtain⟨c,h1,h⟩:=Pa.mp h;cases h;exact BL hp (iT gx hX hs h1)
 unfold Cc at h;split at h
 ·rename_i y p;split at h
  ·rename_i j hj;split at h
   ·cases h
   ·exact DU h
  ·exact DU h
 ·obtain⟨c,h1,h⟩:=Pa.mp h;cases h;split
  ·rename_i hf;rw[Pd] at hf;exact Es hp hf.1 (iT gx hX hs h1)
  ·exact BL hp (iT gx hX hs h1)
theorem DW {n:Nat} {e:Expr} {t:T} {pos:Pos} {fF:Bool} (gx:GX g Γ X) (hX:HX g xv CX k F Φ X) (h:Ce n g Γ fF e=some t):PS X (.Return (some e) pos) (jV Φ Γ F W fF t):=by
 have S:=iV (F:=F) n Γ X Φ gx hX;have plain:∀{e:Expr} {t:T},((cE n g Γ e).bind λc=>if fF then none else some (T.ret c))=some t->PS X (.Return (some e) pos) (jV Φ Γ F W fF t):=λ {e t} h=>by
  obtain⟨c,h1,h⟩:=Pa.mp h;split at h
  ·cases h
  ·rename_i hf;cases h;exact BM (λz=>absurd z hf) (q9 (S.e _ _ h1).1)
 unfold Ce at h;split at h
 ·rename_i y p;split at h
  ·rename_i j hj;split at h
   ·rename_i hm;split at h
    ·cases h
    ·rename_i hk;cases h;exact Ew hm (λz=>hk (by simp[z])) (q9 (om gx hj))
   ·exact plain h
  ·exact plain h
 ·obtain⟨c,h1,h⟩:=Pa.mp h;split at h
  ·rename_i hf;cases h;refine BM (λz=>?_) (q9 (S.e _ _ h1).1);rw[z] at hf;simpa using hf
  ·cases h
theorem yg {dp fF:Bool} (n:Nat):∀(Γ:Gm) (X:Cx) (Φ:Fm),GX g Γ X->HX g xv CX k F Φ X->(dp=false->Φ.d0=none)->PassesOwn (model X.prog X.w) X.A X.env X.xe->Jt g F n Γ X Φ W dp fF:=by
 induction n with
 | zero=>intro Γ X Φ gx hX hd ho;exact⟨λst t h=>by simp[cS] at h,λst t h=>by simp[Cf] at h⟩
 | succ n ih=>
  intro Γ X Φ gx hX hd ho;have I:=ih Γ X Φ gx hX hd ho;have S:=iV (F:=F) n Γ X Φ gx hX;have hK:=hX.K;refine⟨λst t h=>?_,λnW ts h=>?_⟩
  ·unfold cS at h;split at h
   ·split at h
    ·rename_i e pos x xp;obtain⟨i,hs,h⟩:=Pa.mp h;split at h
     ·cases h
     ·rename_i hδ;have hδ':Γ.δ≠some i:=λz=>hδ (by rw[z];exact beq_self_eq_true _)
      split at h
      ·rename_i hm;split at h
       ·cases h
       obtain⟨c,h1,h⟩:=Pa.mp h;split at h
       ·rename_i hf;cases h;exact Er hm hδ' hf (iT gx hX hs h1)
       ·cases h
      ·rename_i hm;refine B1 gx hX hs ?_ h;unfold plainS;rw[Pd];exact⟨by simpa using hm,by simpa using hδ'⟩
    ·rename_i e pos tg0 es kk tp;split at h
     ·cases h
     ·rename_i hdisp;obtain⟨is,h1,h⟩:=Pa.mp h;obtain⟨c,h2,h⟩:=Pa.mp h;cases h;have zN:oF Γ (.Tuple es kk tp)=some (.tp is):=by rw[oF,h1];rfl
      refine Et hK (λi hi=>(eS zN i hi).1) (xR (S.e _ _ h2).1 (pV gx zN) (show swapsWithSole [Expr.Tuple es kk tp] e pos.line X.env=pure false from mF (e:=e) (t:=Expr.Tuple es kk tp) (λx p z=>by cases z) pos.line X.env) ?_);cases e <;> first | rfl | (simp[xa] at hdisp)
    ·rename_i v pos tg0 x xp kx sp;obtain⟨i,hs,h⟩:=Pa.mp h;split at h
     ·rename_i hm;obtain⟨v',h1,h⟩:=Pa.mp h;obtain⟨k',h2,h⟩:=Pa.mp h;have NS:=(S.e _ _ h2).2.2;split at h
      ·cases h
      ·cases h;refine Ey hm (xR (S.e _ _ h1).1 (DJ (om gx hs) (S.e _ _ h2).1 set_list (by intro _;cases kx <;> first | rfl | (simp[uD] at NS))) (show swapsWithSole [Expr.Subscript (Expr.Name x xp) kx sp] v pos.line X.env=pure false from mF (e:=v) (t:=Expr.Subscript (Expr.Name x xp) kx sp) (λx p z=>by cases z) pos.line X.env) ?_);cases v <;> rfl
     ·cases h
    ·cases h
   ·split at h
    ·rename_i pos x xp m ap a cp;obtain⟨i,hs,h⟩:=Pa.mp h;split at h
     ·rename_i hm;rw[Pd] at hm;obtain⟨a',h1,h9⟩:=Pa.mp h;clear h;have o4:=dm (S.e _ _ h1).2.2 [] X.env;split at h9
      ·rename_i hma;have em:=PF hma;subst em;cases h9;exact HY hm.1 (nN (G3 PySem.F.plainAttrs_list PySem.F.slot_list_append PySem.F.type_list_append my (om gx hs) (fm (S.e _ _ h1).1 kL o4) rfl (by rw[o4];rfl) hm.2 o4 rfl))
      ·cases h9
     ·cases h
    ·rename_i pos x xp m ap cp;obtain⟨i,hs,h9⟩:=Pa.mp h;clear h;split at h9
     ·rename_i hm;rw[Pd,Pd] at hm;have em:=PF hm.2;subst em;cases h9;exact Ia hm.1.1 (nN (DB PySem.F.plainAttrs_list PySem.F.slot_list_clear PySem.F.type_list_clear xB (om gx hs) rfl hm.1.2))
     ·cases h9
    ·split at h
     ·cases h
     ·rename_i hc;obtain⟨c,h1,h⟩:=Pa.mp h;cases h;exact Ic (nN (S.e _ _ h1).1 (pZ (by simpa using hc) _ _ _))
   ·exact DW gx hX h
   ·cases h;exact Ex AC
   ·obtain⟨t',h1,h⟩:=Pa.mp h;obtain⟨a',h2,h⟩:=Pa.mp h;obtain⟨b',h3,h⟩:=Pa.mp h;cases h;exact Ig (G9 (S.e _ _ h1).2.1 (I.ss _ _ h2) (I.ss _ _ h3))
   ·split at h
    ·obtain⟨jN,h1,h⟩:=Pa.mp h;obtain⟨kY,h2,h⟩:=Pa.mp h;obtain⟨b',h3,h⟩:=Pa.mp h;cases h;exact Ie hK (λi hi=>(eS h2 i hi).1) (DO ho gx.calm (S.i _ _ _ h1).1 (pV gx h2) (I.ss _ _ h3) (gQ (S.i _ _ _ h1).2 _))
    ·cases h
   ·cases h;exact λpins s σ H D I q=>by obtain⟨o,ρ,S,oi,er,m⟩:=q;unfold ex at m;exact m.elim
   ·cases h;exact HZ xS
   ·cases h;exact Ib pQ
   ·cases h;exact Eu AB
   ·cases h
  ·unfold Cf at h;split at h
   ·cases h;exact yF
   ·obtain⟨t,h1,h⟩:=Pa.mp h;obtain⟨oh,h2,h⟩:=Pa.mp h;cases h;exact A3 (I.s _ _ h1) (I.ss _ _ h2)
end
noncomputable def Cd (n:Nat) (g:G) (Γ:Gm) (dp fF:Bool):List Stmt->Option Ts
 | []=>some .nil
 | st::nW=>(cS n g Γ dp fF st).bind λt=>(Cd n g Γ dp fF nW).bind λts=>some (.cons t ts)
section
variable {g:G} {xv:Nat->Value} {CX:jY} {k:Nat} {F:FT} {X:Cx} {Φ:Fm} {Γ:Gm} {W:Addr->Prop}
theorem GX.dQ {Γ:Gm} {X:Cx} {E:Value->Shared->Prop} (gx:GX g Γ X):GX g Γ (X.dQ E):=⟨gx.N,gx.nd,gx.vis,gx.loc,gx.gl,gx.fre,gx.calm,gx.un,gx.con,gx.bl⟩
theorem lg {X:Cx} {E:Value->Shared->Prop} {E':XK} {e:Value} {s':Shared} (h:mN (X.dQ E) E' e s'):mN X E' e s':=by cases h
theorem yD {X:Cx} {E:Value->Shared->Prop} {E':XK} {e:Value} {s':Shared} (h:mN X E' e s'):mN (X.dQ E) E' e s':=by cases h
theorem yE {st:Stmt} {nW:List Stmt} {t:T} {ts:Ts} {fF:Bool} (h1:Js X st (jV Φ Γ F W fF t)) (h2:mK X nW (jE Φ Γ F W fF ts)):mK X (st::nW) (jE Φ Γ F W fF (.cons t ts)):=λs σ H D I q=>u3 h1 h2 s σ H D I (by
 obtain⟨o,ρ,S,oi,er,q⟩:=q;unfold aW at q;rw[aa] at q;refine⟨o,ρ,S,oi,er,af q λp _ q=>?_⟩;unfold cT;cases hp:p.1 with
 | next=>rw[hp] at q;intro σ1 H1 so;obtain⟨⟨o1,KR,aG,JZ⟩,e1,a1⟩:=so;exact⟨o1,p.2.1,p.2.2,KR,aG,af q λp2 _ q=>cT.go e1 JZ a1 (λ_ _ z=>z) (λ_ _ z=>z) (λ_ _ z=>z) (λ_ _ z=>z) q⟩
 | brk=>rw[hp] at q;unfold mR cT at q;exact q
 | cnt=>rw[hp] at q;unfold mR cT at q;exact q
 | ret d=>rw[hp] at q;unfold mR cT at q;exact q)
theorem vM {dp fF:Bool} {n:Nat} (Kl:X.env.scope.names=Γ.names) (gx:GX g Γ X) (hX:HX g xv CX k F Φ X) (hd:dp=false->Φ.d0=none) (own:PassesOwn (model X.prog X.w) X.A X.env X.xe):∀{nW:List Stmt} {ts:Ts},Cd n g Γ dp fF nW=some ts->mK X nW (jE Φ Γ F W fF ts)
 | [],ts,h=>by cases h;exact AD yF
 | st::nW,ts,h=>by obtain⟨t,h1,h⟩:=Pa.mp h;obtain⟨oh,h2,h⟩:=Pa.mp h;cases h;refine yE ?_ (vM Kl gx hX hd own h2);exact DN ((yg (dp:=dp) (fF:=fF) (W:=W) n Γ X Φ gx hX hd own).s _ _ h1)
theorem pR {X:Cx} {E:Value->Shared->Prop} {st:List Stmt} {t:TS} (h:mK (X.dQ E) st t) (hx:∀e s',E e s'->X.xe e s'):mK X st t:=λs σ H D I hw=>
 wpAny_mono (h s σ H D (I.dQ _) hw) (λ_ _ q=>q.fZ) λe s' z=>hx e s' z
end
section
variable {P:Program} {w:World} {K:Frag} {mg:Str->Option Value} {base:Heap} {g:G} {xv:Nat->Value} {F:FT} {k:Nat}
structure MG (g:G) (mg:Str->Option Value):Prop where
 con:∀x d,g.cons.lookup x=some d->∃u,ou d=true/\mg x=some u/\RelV (qi d) u
 bl:∀x∈g.bls,mg x=none
noncomputable def XG (g:G) (K:Frag) (mg:Str->Option Value) (xv:Nat->Value):Prop:=∀k x ts,g.xs[k]?=some (x,ts)->∃C,xv k= .ref C/\mg x=some (.ref C)/\Jw K mg C ts
noncomputable def u5 (bo:Bool) (args:List Dt) (n ps:Nat):ao:=(if bo then[none] else[])++args.map some++List.replicate (n - ps) none
theorem kQ {bo:Bool} {args:List Dt} {n ps i:Nat} {d:Dt} (h:(u5 bo args n ps)[i]?=some (some d)):∃j,args[j]?=some d/\i=j + (if bo then 1 else 0):=by
 unfold u5 at h;have tail:∀{i:Nat},(args.map some++List.replicate (n - ps) (none:Option Dt))[i]?=some (some d)->args[i]?=some d:=λ {i} h=>by
  by_cases hi:i < args.length
  ·rw[P8 (by simpa using hi),Py] at h;cases e:args[i]? with
   | none=>rw[e] at h;cases h
   | some a=>rw[e] at h;cases h;rfl
  ·rw[P9 (by simpa using hi),List.getElem?_replicate] at h;split at h <;> cases h
 cases bo with
 | false=>simp only[Bool.false_eq_true,if_false,List.nil_append] at h;exact⟨i,tail h,rfl⟩
 | true=>
  simp only[if_true,Pt] at h;cases i with
  | zero=>cases h
  | succ i=>have h:(args.map some++List.replicate (n - ps) (none:Option Dt))[i]?=some (some d):=h;exact⟨i,tail h,rfl⟩
theorem mD {N:List Str} {vs:List V} {i:Nat} {v:V} (h:vs[i]?=some v):(start N vs)[i]?=some (some v):=by unfold L2.start;have hi:=(Pg.mp h).1;rw[P8 (by simpa using hi),Py,h];rfl
theorem wc {M:List Bool} {δ:Option Nat} {names:List (Str×NameKind)} {N:List Str} {np:Nat} {bo:Bool} {vs vo:List V} {H:Hp} {W:Addr->Prop} {dr:Option Addr} {args:List Dt} {S:Sx} {Ek:Nat->Prop} {κ:Option Nat} {P:Program} {w:World}
  (hM:∀i,i < np->M[i]?≠some true) (hδ:bo=true->δ=some 0) (OY:np<=N.length) (hl:vs.length=np)
  (hd:if bo=true then∃(a:Addr) (ns:List Int),vs= .ref a::vo/\dr=some a/\W a/\S=some ns/\H a=some (.lst (ns.map V.int)) else vs=vo/\dr=none/\S=none)
  (ha:aq K W H vo args) (hw:∀a,W a->∃x,H a=some x):ER ⟨K,H,dr,Ek,P,w⟩ ⟨names,N,M,δ,κ⟩ ⟨W,W,dr⟩ (u5 bo args N.length np) S (start N vs) H/\args.length + (if bo then 1 else 0)=np:=by
 have sI:=ha.length;have FV:args.length + (if bo then 1 else 0)=np:=by
  cases bo with
  | false=>
   simp only[Bool.false_eq_true,if_false] at hd ⊢;obtain⟨e,_,_⟩:=hd;subst e
   lia
  | true=>
   simp only[if_true] at hd ⊢;obtain⟨a,ns,e,_⟩:=hd;rw[e] at hl;simp at hl
   lia
 refine⟨⟨?_,λa z=>z,λa z=>?_,hw,λi d h=>?_,λi ks vs h=>?_,λi j a d e hm hm' h1 h2 _ _=>?_,λa z=>?_,λz=>?_,λi a hi z=>?_,λa z=> .inl z,ba.refl⟩,FV⟩
 ·unfold L2.start u5;simp only[Pv,Pn,List.length_replicate];cases bo <;> simp at FV ⊢ <;> lia
 ·cases bo with
  | false=>simp only[Bool.false_eq_true,if_false] at hd;rw[hd.2.1] at z;cases z
  | true=>simp only[if_true] at hd;obtain⟨b,ns,_,e,hb,_⟩:=hd;rw[e] at z;cases z;exact hb
 ·obtain⟨j,hj,rfl⟩:=kQ h;obtain⟨v,h1,h2⟩:=ha.getD hj;have NQ:=(Pg.mp hj).1;have hm:fH ⟨names,N,M,δ,κ⟩ (j + if bo=true then 1 else 0)=false:=by unfold fH;have:=hM (j + if bo=true then 1 else 0) (by lia);simpa using this
  refine⟨v,mD ?_,?_⟩
  ·cases bo with
   | false=>simp only[Bool.false_eq_true,if_false] at hd ⊢;rw[hd.1];exact h1
   | true=>simp only[if_true] at hd ⊢;obtain⟨b,ns,e,_⟩:=hd;rw[e];simpa using h1
  ·rw[hm,if_neg (by simp)];exact h2
 ·obtain⟨j,hj,rfl⟩:=kQ h;obtain⟨v,h1,h2⟩:=ha.getD hj;cases h2.nd
 ·obtain⟨j1,hj,rfl⟩:=kQ h1;have NQ:=(Pg.mp hj).1;exfalso;unfold fH at hm;exact hM (j1 + if bo=true then 1 else 0) (by lia) (PF hm)
 ·cases bo with
  | false=>simp only[Bool.false_eq_true,if_false] at hd;rw[hd.2.1] at z;cases z
  | true=>simp only[if_true] at hd;obtain⟨b,ns,_,e,_,e2,e3⟩:=hd;rw[e] at z;cases z;exact⟨ns,e2,e3⟩
 ·cases bo with
  | false=>simp only[Bool.false_eq_true,if_false] at hd;exact hd.2.2
  | true=>simp only[if_true] at hd;obtain⟨b,ns,_,e,_⟩:=hd;rw[e] at z;cases z
 ·cases bo with
  | false=>simp only[Bool.false_eq_true,if_false] at hd;rw[hd.2.1] at z;cases z
  | true=>simp only[if_true] at hd;obtain⟨b,ns,e1,e,_⟩:=hd;rw[e] at z;cases z;have hi:δ=some i:=hi;rw[hδ rfl] at hi;cases hi;exact mD (by rw[e1];rfl)
theorem FL {CX:jY} {N ps:List Str} {sc:Scope} {M:List Bool} {δ κ:Option Nat} {qual:Str} {f:Addr} {fD:Value} {A:Around} {outer:List Env} {s:Shared} {H:Hp} {E:XK} (m:MG g mg) (S:eZ N ps sc) (hr:ij k (A.deeper (envOfC qual sc s.heap.objs.size f fD))):
  GX g ⟨sc.names,N,M,δ,κ⟩ (oJ CX P w K mg base N qual sc f fD A outer s H E) where
 N:=rfl
 nd:=S.nd
 vis:=λx h=>by
  have h:yz (sc.names.lookup x)=true:=h;show E9 sc x;unfold E9;cases hl:sc.names.lookup x with
  | none=>rw[hl] at h;cases h
  | some kk=>
   rw[hl] at h;cases kk with
   | «local»=>exact .inl rfl
   | cell=>exact .inr (.inl rfl)
   | free=>exact .inr (.inr rfl)
   | globalExplicit=>cases h
   | globalImplicit=>cases h
 loc:=λx h=>by
  have h:xt (sc.names.lookup x)=true:=h;refine⟨?_,.inl rfl⟩;show L2.Loc sc x;unfold L2.Loc;cases hl:sc.names.lookup x with
  | none=>rw[hl] at h;cases h
  | some kk=>
   rw[hl] at h;cases kk with
   | «local»=>exact .inl rfl
   | cell=>exact .inr rfl
   | free=>cases h
   | globalExplicit=>cases h
   | globalImplicit=>cases h
 gl:=λx h=>by
  have h:Bk (sc.names.lookup x)=true:=h;show sc.names.lookup x=_;cases hl:sc.names.lookup x with
  | none=>rw[hl] at h;cases h
  | some kk=>
   rw[hl] at h;cases kk with
   | globalImplicit=>rfl
   | «local»=>cases h
   | cell=>cases h
   | free=>cases h
   | globalExplicit=>cases h
 fre:=λx h=>h
 calm:=rfl
 un:=by have:=hr.un;show (A.deeper (envOfC qual sc s.heap.objs.size f fD)).units + 150 < cLine;lia
 con:=m.con
 bl:=m.bl
theorem l7 {name qual:Str} {params:Arguments} {body:List Stmt} {scope:Scope} {dV kV doc pm fD ct oc:Value} {an od:Option Addr} {tq:Array (Option Value)} {f:Addr} {N ps:List Str} {M:List Bool} {δ κ:Option Nat} {bo fF:Bool} {n m:Nat} {ts:Ts}
  (lk:K.lookup f=some ⟨oc,od,.func (PySem.W.fnOf name qual params body scope dV kV doc pm an fD ct),tq⟩) (yM:PySem.W.codeIn K fD qual=true) (S:eZ N ps scope) (hm:MG g mg) (zP:XG g K mg xv) (fx:FX g xv (vj P w) P w K mg base m k F)
  (hM:∀i,i < ps.length->M[i]?≠some true) (hδ:bo=true->δ=some 0) (hc:Cd n g ⟨scope.names,N,M,δ,κ⟩ bo fF body=some ts):
  iZ P w K mg base (vj P w) (k + 1) f (PySem.W.fnOf name qual params body scope dV kV doc pm an fD ct) ps (MC K xv (gJ F ⟨ps.length,N.length,bo,ts⟩) ps.length fF bo):=by
 have qh:ps.length<=N.length:=by have:=congrArg List.length S.pre;rw[List.length_take] at this;lia
 refine Ct lk yM S (λvs H Q E h=>h.1) λA outer s H vs Q E hr h=>?_
 obtain⟨hl,W,dr,args,S0,vo,hd,ha,hw,h⟩:=h;have er:=wc (K:=K) (names:=scope.names) (N:=N) (κ:=κ) (P:=P) (w:=w) (Ek:=λkk=>∀H',ba (λb=>dr=some b) H H'->E (xv kk) none H') hM hδ qh hl hd ha hw;obtain⟨er,vk⟩:=er;generalize hXX:oJ (vj P w) P w K mg base N qual scope f fD A outer s H E=X;generalize hΦ:(⟨K,H,dr,λkk=>∀H',ba (λb=>dr=some b) H H'->E (xv kk) none H',P,w⟩:Fm)=Φ at er;have hΦE:∀v a H',lO Φ xv v a H'->E v none H':=λv a H' z=>by obtain⟨kk,rfl,z1,z2⟩:=z;subst hΦ;exact z1 H' z2
 have OA:∀e s',mN X (lO Φ xv) e s'->X.xe e s':=λe s' z=>by subst hXX;cases z
 have st:ir X:=by subst hXX;exact Ee
 have gx:GX g ⟨scope.names,N,M,δ,κ⟩ X:=by subst hXX;exact FL (P:=P) (w:=w) (K:=K) (base:=base) (CX:=vj P w) (M:=M) (δ:=δ) (outer:=outer) (H:=H) (E:=E) hm S hr
 have ME:ir (X.dQ (mN X (lO Φ xv))):=⟨st.pn,st.st⟩;have hX:HX g xv (vj P w) k F Φ (X.dQ (mN X (lO Φ xv))):=by
  refine⟨?_,?_,?_,⟨m,?_⟩,?_,?_,ME,λe s' z=>lg z,?_⟩
  ·subst hΦ hXX;rfl
  ·subst hΦ hXX;rfl
  ·subst hΦ hXX;rfl
  ·subst hXX;exact fx
  ·subst hXX;exact hr
  ·subst hXX;rfl
  ·subst hXX;exact zP
 have own:PassesOwn (model (X.dQ (mN X (lO Φ xv))).prog (X.dQ (mN X (lO Φ xv))).w) (X.dQ (mN X (lO Φ xv))).A (X.dQ (mN X (lO Φ xv))).env (X.dQ (mN X (lO Φ xv))).xe:=A2 (E:=lO Φ xv) ME (λe s' z=>lg z) λe s' z=>yD z
 have d0:Φ.d0=dr:=by subst hΦ;rfl
 have SS:=vM (dp:=bo) (fF:=fF) (W:=W) (n:=n) (Γ:=⟨scope.names,N,M,δ,κ⟩) (by subst hXX;rfl) gx.dQ hX (λz=>by
  rw[d0];subst z;simp only[Bool.false_eq_true,if_false] at hd;exact hd.2.1) own hc
 refine⟨_,pR SS OA,⟨W,W,dr⟩,_,S0,⟨rfl,λa z=>by rw[d0] at z;exact z⟩,er,?_⟩;subst hΦ;unfold gJ at h;simp only at h;rw[if_pos vk] at h;have h:(match (aW F ts (u5 bo args N.length ps.length) S0).bind (λp=>match p.1 with
   | .next=>R.ok (Dt.aT,p.2.2)
   | .ret d=>R.ok (d,p.2.2)
   | _=>R.bad) with
  | .ok p=>∀v H',FO K W dr fF H p.1 p.2 v H'->Q v H'
  | .ex kk=>∀H',ba (λb=>dr=some b) H H'->E (xv kk) none H'
  | .bad=>False):=h
 cases he:aW F ts (u5 bo args N.length ps.length) S0 with
 | ok p=>
  rw[he] at h;simp only[R.ah] at h;show cT _ _ _ _ _ _ _ p;unfold cT;cases hp:p.1 with
  | next=>rw[hp] at h;intro σ' H' so;obtain⟨o',oi,Co,_⟩:=so.ex;exact h _ _ ⟨Co.ent,RV.gU,λa z=>Co.drw a (oi.d a z),λ_ ds e=>by cases e⟩
  | ret d=>rw[hp] at h;intro v H' ro;exact h _ _ ⟨ro.ent,ro.val,ro.drw,ro.jB⟩
  | brk=>rw[hp] at h;exact h.elim
  | cnt=>rw[hp] at h;exact h.elim
 | ex kk=>rw[he] at h;exact h
 | bad=>rw[he] at h;exact h.elim
end
structure vt (g:G) (K:Frag) (mg:Str->Option Value) (e:Str×Nat×List Dt×Bool) (idx:Nat) (fn:Fn):Prop where
 ex:∃(fa:Addr) (ps N:List Str) (M:List Bool) (δ κ:Option Nat) (n:Nat) (oc:Value) (od an:Option Addr) (tq:Array (Option Value)) (params:Arguments) (body:List Stmt) (scope:Scope) (dV kV doc pm fD ct:Value),
  K.lookup fa=some ⟨oc,od,.func (PySem.W.fnOf e.1 e.1 params body scope dV kV doc pm an fD ct),tq⟩/\PySem.W.codeIn K fD e.1=true/\PySem.W.keepIn K (.ref fa)=true/\mg e.1=some (.ref fa)/\eZ N ps scope/\(∀i,i < ps.length->M[i]?≠some true)/\
  (e.2.2.2=true->δ=some 0)/\ps.length=e.2.1/\Cd n g ⟨scope.names,N,M,δ,κ⟩ e.2.2.2 (g.fr idx) body=some fn.body/\fn.ps=ps.length/\fn.n=N.length/\fn.bo=e.2.2.2/\
  (∀j,j<=e.2.2.1.length->∃ds,au ((e.2.2.1.drop j).map qi) ds/\Binds K (PySem.W.fnOf e.1 e.1 params body scope dV kV doc pm an fD ct) ps ds)/\e.2.2.1.all ou=true
noncomputable def ow (g:G) (K:Frag) (mg:Str->Option Value):Nat->List (Str×Nat×List Dt×Bool)->List Fn->Prop
 | _,[],[]=>True
 | i,e::es,f::fs=>vt g K mg e i f/\ow g K mg (i + 1) es fs
 | _,_,_=>False
section
variable {g:G} {K:Frag} {mg:Str->Option Value}
theorem ni {x:Str}:∀{es:List (Str×Nat×List Dt×Bool)} {fs:List Fn} {i j:Nat} {r:Nat×List Dt×Bool},ow g K mg i es fs->qF x es=some (j,r)->∃f,vt g K mg (x,r) (i + j) f/\fs[j]?=some f
 | [],fs,i,j,r,_,h=>by simp[qF] at h
 | e::es,[],i,j,r,h,_=>h.elim
 | e::es,f::fs,i,j,r,ok,h=>by
  obtain⟨o1,o2⟩:=ok;unfold qF at h;split at h
  ·rename_i hx;cases h;have ex:x=e.1:=PF hx;subst ex;exact⟨f,o1,rfl⟩
  ·obtain⟨p,h1,h2⟩:=Pu.mp h;obtain⟨j',r'⟩:=p;cases h2;obtain⟨f',k1,k2⟩:=ni o2 h1;refine⟨f',?_,k2⟩;have:i + (j' + 1)=i + 1 + j':=by lia
   rw[this];exact k1
variable {P:Program} {w:World} {base:Heap} {xv:Nat->Value} {fs:List Fn}
theorem kP (hm:MG g mg) (zP:XG g K mg xv) (ok:ow g K mg 0 g.fns fs):∀n,FX g xv (vj P w) P w K mg base n n (aw fs n)
 | 0=>⟨λx f np fM bo h=>by
   obtain⟨fn,⟨fa,ps,N,M,δ,κ,n,oc,od,an,tq,params,body,scope,dV,kV,doc,pm,fD,ct,h1,h2,h3,h4,h5,h6,h7,h8,h9,JU,JV,JW,JX,JY⟩,hf⟩:=ni ok h;refine⟨fa,_,ps,h8,h4,h3,⟨λvs H Q E q=>q.1.trans h8.symm,λA outer s H args us vs Q E _ _ _ _ q=>?_⟩,JX,JY⟩;obtain⟨_,W,dr,as,S,vo,_,_,_,q⟩:=q;exact q.elim⟩
 | n + 1=>⟨λx f np fM bo h=>by
   have ih:=kP hm zP ok n;obtain⟨fn,⟨fa,ps,N,M,δ,κ,m,oc,od,an,tq,params,body,scope,dV,kV,doc,pm,fD,ct,h1,h2,h3,h4,h5,h6,h7,h8,h9,JU,JV,JW,JX,JY⟩,hf⟩:=ni ok h;rw[Nat.zero_add] at h9;refine⟨fa,_,ps,h8,h4,h3,?_,JX,JY⟩;have:=l7 (xv:=xv) (P:=P) (w:=w) (base:=base) h1 h2 h5 hm zP ih h6 h7 h9;have e:(aw fs (n + 1)) f=gJ (aw fs n) ⟨ps.length,N.length,bo,fn.body⟩:=by funext args S;show (match fs[f]? with | some g=>gJ (aw fs n) g args S | none=>R.bad)=_;rw[hf];obtain⟨a1,a2,a3,a4⟩:=fn;simp only at JU JV JW;subst JU JV JW;rfl
   have Np:ps.length=np:=h8;rw[e,<-Np];exact this⟩
noncomputable def tR (K:Frag):Sp:=λvs H Q _=>∃(a:Addr) (ns:List Int),vs=[.ref a]/\dB K H a (ns.map V.int)/\ns.length<=63/\∀H',Q (.bl true) H'
theorem len0 {P:List Value->Prop} (h:P []):∀us:List Value,us.length=0->P us:=λus e=>List.eq_nil_of_length_eq_zero e▸h
theorem lenS {n:Nat} {P:List Value->Prop} (h:∀a (us:List Value),us.length=n->P (a::us)):∀us:List Value,us.length=n + 1->P us:=λus e=>by
 cases us with
 | nil=>cases e
 | cons a t=>exact h a t (Nat.succ.inj e)
theorem binds0 {fd:FuncData} {ps:List Str} (h:∀us:List Value,us.length=ps.length->bindArgs fd ⟨us,[]⟩=pure (ps.zip us)):∀j,j<=([]:List Dt).length->∃ds,au ((([]:List Dt).drop j).map qi) ds/\Binds K fd ps ds:=λj hj=>by
 have:j=0:=by simpa using hj
 subst this;exact⟨[],.nil,Binds.all h⟩
noncomputable def Oj (names:List (Str×NameKind)) (ps:List Str):List Str:=ps++names.filterMap λp=>if xt (some p.2)&& !ps.contains p.1 then some p.1 else none
noncomputable def EV (N ms:List Str):List Bool:=N.map λx=>ms.contains x
theorem GE {N ms ps:List Str} (h:((EV N ms).take ps.length).all (λb=> !b)=true):∀i,i < ps.length->(EV N ms)[i]?≠some true:=λi hi e=>by have hm:true∈(EV N ms).take ps.length:=List.mem_iff_getElem?.mpr ⟨i,by rw[List.getElem?_take_of_lt hi];exact e⟩;have:=PZ.mp h true hm;cases this
end
end Rx
end
section
namespace Rx
open PySem PySem.W PySem.Spec PyProof.Rows L2
section
variable {F:FT} {S:Sx} {ρ:ao}
theorem bx {tg:Tg} {body:ao->Sx->RS} {ds:List Dt} (P:List Dt->ao->Prop) (h0:P [] ρ)
  (step:∀pre x post ρ,ds=pre++x::post->P pre ρ->∃ρ1 ρ2,eQ tg x ρ= .ok ρ1/\body ρ1 S= .ok (.next,ρ2,S)/\P (pre++[x]) ρ2):∃ρ',forL tg body ds ρ S= .ok (.next,ρ',S)/\P ds ρ':=by
 have key:∀(post pre:List Dt) (ρ:ao),ds=pre++post->P pre ρ->∃ρ',forL tg body post ρ S= .ok (.next,ρ',S)/\P ds ρ':=by
  intro post
  induction post with
  | nil=>intro pre ρ e h;rw[P6] at e;subst e;exact⟨ρ,rfl,h⟩
  | cons x post ih=>intro pre ρ e h;obtain⟨ρ1,ρ2,h1,h2,h3⟩:=step pre x post ρ e h;obtain⟨ρ',h4,h5⟩:=ih (pre++[x]) ρ2 (by rw[e];simp) h3;refine⟨ρ',?_,h5⟩;rw[forL,h1,R.ah,h2,R.ah];exact h4
 exact key ds [] ρ rfl h0
theorem fR {tg:Tg} {body:ao->Sx->RS} {ds:List Dt} (P:List Dt->ao->Prop) (T:Dt->Prop) (h0:P [] ρ)
  (step:∀pre x post ρ,ds=pre++x::post->P pre ρ->∃ρ1 ρ2,eQ tg x ρ= .ok ρ1/\((body ρ1 S= .ok (.next,ρ2,S)/\P (pre++[x]) ρ2)\/∃d,body ρ1 S= .ok (.ret d,ρ2,S)/\T d)):
  (∃ρ',forL tg body ds ρ S= .ok (.next,ρ',S)/\P ds ρ')\/∃d ρ',forL tg body ds ρ S= .ok (.ret d,ρ',S)/\T d:=by
 have key:∀(post pre:List Dt) (ρ:ao),ds=pre++post->P pre ρ->(∃ρ',forL tg body post ρ S= .ok (.next,ρ',S)/\P ds ρ')\/∃d ρ',forL tg body post ρ S= .ok (.ret d,ρ',S)/\T d:=by
  intro post
  induction post with
  | nil=>intro pre ρ e h;rw[P6] at e;subst e;exact .inl ⟨ρ,rfl,h⟩
  | cons x post ih=>
   intro pre ρ e h;obtain⟨ρ1,ρ2,h1,h2 | ⟨d,h2,h3⟩⟩:=step pre x post ρ e h
   ·rw[forL,h1,R.ah,h2.1,R.ah];exact ih (pre++[x]) ρ2 (by rw[e];simp) h2.2
   ·exact .inr ⟨d,ρ2,by rw[forL,h1,R.ah,h2,R.ah],h3⟩
 exact key ds [] ρ rfl h0
theorem jm {α β:Type} (f:α->β):∀l:List α,(l.flatMap λx=>[f x])=l.map f
 | []=>rfl
 | x::l=>by rw[List.flatMap_cons,jm f l];rfl
theorem gO {α β:Type} (p:α->Bool) (f:α->β):∀l:List α,(l.flatMap λx=>if p x=true then[f x] else[])=(l.filter p).map f
 | []=>rfl
 | x::l=>by
  rw[List.flatMap_cons,gO p f l];by_cases h:p x=true
  ·rw[if_pos h,List.filter_cons_of_pos h];rfl
  ·rw[if_neg h,List.filter_cons_of_neg h];rfl
end
theorem AO {fs:List Fn} {n k:Nat} {g:Fn} {args:List Dt} {S:Sx} (h:fs[k]?=some g):aw fs (n + 1) k args S=gJ (aw fs n) g args S:=by show (match fs[k]? with | some g=>gJ (aw fs n) g args S | none=>R.bad)=_;rw[h]
noncomputable def GJ (d:Dt) (S:Sx):R (Dt×Sx):=match d with | .int i=> .ok (.int (-i),S) | _=> .bad
noncomputable def My (d:Dt) (S:Sx):R (Dt×Sx):=match d with | .bl b=> .ok (.bl !b,S) | _=> .bad
noncomputable def Fi (d:Dt) (S:Sx):R (Dt×Sx):=match d with | .bl c=> .ok (.bl c,S) | _=> .bad
noncomputable def BY (f:Sx->R (Dt×Sx)) (d:Dt) (S:Sx):R (Dt×Sx):=match d with | .bl true=>(f S).bind (λy=>Fi y.1 y.2) | .bl false=> .ok (.bl false,S) | _=> .bad
noncomputable def KW (f:Sx->R (Dt×Sx)) (d:Dt) (S:Sx):R (Dt×Sx):=match d with | .bl false=>(f S).bind (λy=>Fi y.1 y.2) | .bl true=> .ok (.bl true,S) | _=> .bad
noncomputable def Bw (k:List Dt->Dt) (ds:List Dt) (S:Sx):R (Dt×Sx):=ae (decide (ds.length<=lim)) (.ok (k ds,S))
noncomputable def KF (o:Option (List Dt)) (S:Sx):R (List Dt×Sx):=match o with | some ds=> .ok (ds,S) | none=> .bad
noncomputable def Hx (d e:Dt) (S:Sx):R (Dt×Sx):=match e with | .int i=>(fq d (some i) none).bind λd=> .ok (d,S) | _=> .bad
noncomputable def Hw (d e:Dt) (S:Sx):R (Dt×Sx):=match e with | .int i=>(fq d none (some i)).bind λd=> .ok (d,S) | _=> .bad
theorem RX:
  (∀{F:FT} {S:Sx} {ρ:ao} {d:Dt},ev F (.con d) ρ S= .ok (d,S))/\
  (∀{F:FT} {S:Sx} {ρ:ao} {i:Nat},ev F (.var i) ρ S=(eE ρ i).bind λd=> .ok (d,S))/\
  (∀{F:FT} {S:Sx} {ρ:ao} {i:Nat},ev F (.mvr i) ρ S=(eE ρ i).bind λd=> .ok (d,S))/\
  (∀{F:FT} {S:Sx} {ρ:ao} {o:Operator} {a b:C},ev F (.bin o a b) ρ S=(ev F a ρ S).bind λx=>(ev F b ρ x.2).bind λy=>(lF o x.1 y.1).bind λd=> .ok (d,y.2))/\
  (∀{F:FT} {S:Sx} {ρ:ao} {o:CmpOp} {a b:C},ev F (.cmp o a b) ρ S=(ev F a ρ S).bind λx=>(ev F b ρ x.2).bind λy=>(cZ o x.1 y.1).bind λd=> .ok (.bl d,y.2))/\
  (∀{F:FT} {S:Sx} {ρ:ao} {a:C},ev F (.neg a) ρ S=(ev F a ρ S).bind λx=>GJ x.1 x.2)/\
  (∀{F:FT} {S:Sx} {ρ:ao} {a:C},ev F (.nt a) ρ S=(ev F a ρ S).bind λx=>My x.1 x.2)/\
  (∀{F:FT} {S:Sx} {ρ:ao} {a b:C},ev F (.and a b) ρ S=(ev F a ρ S).bind λx=>BY (ev F b ρ) x.1 x.2)/\
  (∀{F:FT} {S:Sx} {ρ:ao} {a b:C},ev F (.or a b) ρ S=(ev F a ρ S).bind λx=>KW (ev F b ρ) x.1 x.2)/\
  (∀{F:FT} {S:Sx} {ρ:ao} {a b c:C},ev F (.ite a b c) ρ S=(cH F a ρ S).bind λx=>if x.1=true then ev F b ρ x.2 else ev F c ρ x.2)/\
  (∀{F:FT} {S:Sx} {ρ:ao} {a b:C},ev F (.idx a b) ρ S=(ev F a ρ S).bind λx=>(ev F b ρ x.2).bind λy=>(cF x.1 y.1).bind λd=> .ok (d,y.2))/\
  (∀{F:FT} {S:Sx} {ρ:ao} {a b:C},ev F (.sliL a b) ρ S=(ev F a ρ S).bind λx=>(ev F b ρ x.2).bind λy=>Hx x.1 y.1 y.2)/\
  (∀{F:FT} {S:Sx} {ρ:ao} {a b:C},ev F (.sliH a b) ρ S=(ev F a ρ S).bind λx=>(ev F b ρ x.2).bind λy=>Hw x.1 y.1 y.2)/\
  (∀{F:FT} {S:Sx} {ρ:ao} {f:Nat} {es:Cs} {ds:List Dt},ev F (.call f es ds) ρ S=(gN F es ρ S).bind λx=>(F f (x.1++ds) none).bind λy=> .ok (y.1,x.2))/\
  (∀{F:FT} {S:Sx} {ρ:ao} {u:BI} {es:Cs},ev F (.bi u es) ρ S=(gN F es ρ S).bind λx=>(d5 u x.1).bind λd=> .ok (d,x.2))/\
  (∀{F:FT} {S:Sx} {ρ:ao} {es:Cs},ev F (.tup es) ρ S=(gN F es ρ S).bind λx=>Bw .tup x.1 x.2)/\
  (∀{F:FT} {S:Sx} {ρ:ao} {es:Cs},ev F (.lst es) ρ S=(gN F es ρ S).bind λx=>Bw .lst x.1 x.2)/\
  (∀{F:FT} {S:Sx} {ρ:ao},gN F .nil ρ S= .ok ([],S))/\
  (∀{F:FT} {S:Sx} {ρ:ao} {a:C} {es:Cs},gN F (.cons a es) ρ S=(ev F a ρ S).bind λx=>(gN F es ρ x.2).bind λy=> .ok (x.1::y.1,y.2))/\
  (∀{F:FT} {S:Sx} {ρ:ao} {o:CmpOp} {a b:C},cH F (.cmp o a b) ρ S=(ev F a ρ S).bind λx=>(ev F b ρ x.2).bind λy=>(cZ o x.1 y.1).bind λd=> .ok (d,y.2))/\
  (∀{F:FT} {S:Sx} {ρ:ao} {a b:C},cH F (.and a b) ρ S=(cH F a ρ S).bind λx=>if x.1=true then cH F b ρ x.2 else .ok (false,x.2))/\
  (∀{F:FT} {S:Sx} {ρ:ao} {a b:C},cH F (.or a b) ρ S=(cH F a ρ S).bind λx=>if x.1=true then .ok (true,x.2) else cH F b ρ x.2)/\
  (∀{F:FT} {S:Sx} {ρ:ao} {a:C},cH F (.nt a) ρ S=(cH F a ρ S).bind λx=> .ok (!x.1,x.2))/\
  (∀{F:FT} {S:Sx} {ρ:ao} {f:Nat} {es:Cs} {ds:List Dt},cH F (.call f es ds) ρ S=(gN F es ρ S).bind λx=>(F f (x.1++ds) none).bind λy=>(dO y.1).bind λb=> .ok (b,x.2))/\
  (∀{F:FT} {S:Sx} {ρ:ao} {u:BI} {es:Cs},cH F (.bi u es) ρ S=(gN F es ρ S).bind λx=>(d5 u x.1).bind λd=>(dO d).bind λb=> .ok (b,x.2))/\
  (∀{F:FT} {S:Sx} {ρ:ao} {i:Nat},cH F (.var i) ρ S=(eE ρ i).bind λd=>(dO d).bind λb=> .ok (b,S))/\
  (∀{F:FT} {S:Sx} {ρ:ao} {i:Nat},cH F (.mvr i) ρ S=(eE ρ i).bind λd=>(dO d).bind λb=> .ok (b,S))/\
  (∀{F:FT} {S:Sx} {ρ:ao} {a b:C},cH F (.idx a b) ρ S=(ev F a ρ S).bind λx=>(ev F b ρ x.2).bind λy=>(cF x.1 y.1).bind λd=>(dO d).bind λb=> .ok (b,y.2))/\
  (∀{F:FT} {S:Sx} {ρ:ao},bh F .nil ρ S= .ok (true,S))/\
  (∀{F:FT} {S:Sx} {ρ:ao} {a:C},bh F (.cons a .nil) ρ S=cH F a ρ S)/\
  (∀{F:FT} {S:Sx} {ρ:ao} {a:C},dN F (.seq a) ρ S=(ev F a ρ S).bind λx=>KF (itemsOf x.1) x.2)/\
  (∀{F:FT} {S:Sx} {ρ:ao} {a:C},dN F (.enum a) ρ S=(ev F a ρ S).bind λx=>KF ((c8 x.1).map (v9 0)) x.2)/\
  (∀{d:Dt} {ρ:ao},eE (some d::ρ) 0= .ok d)/\
  (∀{e:Option Dt} {ρ:ao} {i:Nat},eE (e::ρ) (i + 1)=eE ρ i)/\
  (∀{S:Sx} {i:Int},GJ (.int i) S= .ok (.int (-i),S))/\
  (∀{S:Sx} {b:Bool},My (.bl b) S= .ok (.bl !b,S))/\
  (∀{S:Sx} {f:Sx->R (Dt×Sx)},BY f (.bl false) S= .ok (.bl false,S))/\
  (∀{S:Sx} {f:Sx->R (Dt×Sx)},BY f (.bl true) S=(f S).bind λy=>Fi y.1 y.2)/\
  (∀{S:Sx} {f:Sx->R (Dt×Sx)},KW f (.bl true) S= .ok (.bl true,S))/\
  (∀{S:Sx} {f:Sx->R (Dt×Sx)},KW f (.bl false) S=(f S).bind λy=>Fi y.1 y.2)/\
  (∀{S:Sx} {b:Bool},Fi (.bl b) S= .ok (.bl b,S))/\
  (∀{S:Sx} {ds:List Dt},KF (some ds) S= .ok (ds,S))/\
  (∀{ds:List Dt} {f:List Dt->List Dt},(some ds).map f=some (f ds))/\
  (∀{S:Sx} {k:List Dt->Dt},Bw k [] S= .ok (k [],S))/\
  (∀{S:Sx} {k:List Dt->Dt} {a:Dt},Bw k [a] S= .ok (k [a],S))/\
  (∀{S:Sx} {k:List Dt->Dt} {a b:Dt},Bw k [a,b] S= .ok (k [a,b],S))/\
  (∀{S:Sx} {k:List Dt->Dt} {a b c:Dt},Bw k [a,b,c] S= .ok (k [a,b,c],S))/\
  (∀{S:Sx} {k:List Dt->Dt} {a b c d:Dt},Bw k [a,b,c,d] S= .ok (k [a,b,c,d],S))/\
  (∀{S:Sx} {k:List Dt->Dt} {a b c d e:Dt},Bw k [a,b,c,d,e] S= .ok (k [a,b,c,d,e],S))/\
  (∀{S:Sx} {d:Dt} {i:Int},Hx d (.int i) S=(fq d (some i) none).bind λd=> .ok (d,S))/\
  (∀{S:Sx} {d:Dt} {i:Int},Hw d (.int i) S=(fq d none (some i)).bind λd=> .ok (d,S))/\
  (∀{m n:Int},lF .Add (.int m) (.int n)= .ok (.int (m + n)))/\
  (∀{m n:Int},lF .Sub (.int m) (.int n)= .ok (.int (m - n)))/\
  (∀{m n:Int},cZ .Lt (.int m) (.int n)= .ok (decide (m < n)))/\
  (∀{m n:Int},cZ .LtE (.int m) (.int n)= .ok (decide (m<=n)))/\
  (∀{m n:Int},cZ .Gt (.int m) (.int n)= .ok (decide (n < m)))/\
  (∀{m n:Int},cZ .GtE (.int m) (.int n)= .ok (decide (n<=m)))/\
  (∀{m n:Int},cZ .Eq (.int m) (.int n)= .ok (m==n))/\
  (∀{m n:Int},cZ .NotEq (.int m) (.int n)= .ok (!(m==n)))/\
  (∀{m n:Str},cZ .Eq (.str m) (.str n)= .ok (m==n))/\
  (∀{m n:Str},cZ .NotEq (.str m) (.str n)= .ok (!(m==n)))/\
  (∀{ns:List Int},d5 .len [.dw ns]= .ok (.int ns.length))/\
  (∀{ds:List Dt},d5 .len [.lst ds]= .ok (.int ds.length))/\
  (∀{ds:List Dt},d5 .len [.tup ds]= .ok (.int ds.length))/\
  (∀{ds:List Dt},d5 .tuple [.lst ds]= .ok (.tup ds))/\
  (∀{ds:List Dt},d5 .tuple [.tup ds]= .ok (.tup ds))/\
  (∀{ds:List Dt},d5 .list [.lst ds]= .ok (.lst ds))/\
  (∀{ds:List Dt},d5 .list [.tup ds]= .ok (.lst ds))/\
  (∀{m n:Int},d5 .min2 [.int m,.int n]= .ok (.int (if n < m then n else m)))/\
  (∀{m n:Int},d5 .max2 [.int m,.int n]= .ok (.int (if n > m then n else m)))/\
  (∀{t:Bool},dO (.bl t)= .ok t)/\
  (∀{ds:List Dt},dO (.lst ds)= .ok !ds.isEmpty)/\
  (∀{ds:List Dt},dO (.tup ds)= .ok !ds.isEmpty)/\
  (∀{ds:List Dt},itemsOf (.lst ds)=some ds)/\
  (∀{ds:List Dt},itemsOf (.tup ds)=some ds)/\
  (∀{ds:List Dt},c8 (.lst ds)=some ds)/\
  (∀{ds:List Dt},c8 (.tup ds)=some ds)/\
  (∀{α β:Type} {x:α} {f:α->R β},(R.ok x).bind f=f x)/\
  (∀{α:Type} {r:R α},ae true r=r)/\
  (∀{ds:List Dt},(ds++[]:List Dt)=ds)/\
  (∀{e v:Option Dt} {ρ:ao},(e::ρ).set 0 v=v::ρ)/\
  (∀{e v:Option Dt} {ρ:ao} {i:Nat},(e::ρ).set (i + 1) v=e::ρ.set i v)/\
  (∀{d:Dt} {ρ:ao} {i:Nat},eQ (.nm i) d ρ= .ok (ρ.set i (some d)))/\
  (∀{is:List Nat} {ds:List Dt} {ρ:ao},eQ (.tp is) (.tup ds) ρ=jv is ds ρ)/\
  (∀{ρ:ao},jv [] [] ρ= .ok ρ)/\
  (∀{i:Nat} {is:List Nat} {d:Dt} {ds:List Dt} {ρ:ao},jv (i::is) (d::ds) ρ=jv is ds (ρ.set i (some d)))/\
  (∀{d:Dt},cF (.tup [d]) (.int 0)= .ok d)/\
  (∀{d d2:Dt},cF (.tup [d,d2]) (.int 0)= .ok d)/\
  (∀{d d2:Dt},cF (.tup [d,d2]) (.int 1)= .ok d2)/\
  (∀{d d2 d3:Dt},cF (.tup [d,d2,d3]) (.int 0)= .ok d)/\
  (∀{d d2 d3:Dt},cF (.tup [d,d2,d3]) (.int 1)= .ok d2)/\
  (∀{d d2 d3:Dt},cF (.tup [d,d2,d3]) (.int 2)= .ok d3):=
 ⟨@λ_ _ _ _=>rfl,
  @λ_ _ _ _=>rfl,
  @λ_ _ _ _=>rfl,
  @λ_ _ _ _ _ _=>rfl,
  @λ_ _ _ _ _ _=>rfl,
  @λ_ _ _ _=>rfl,
  @λ_ _ _ _=>rfl,
  @λ_ _ _ _ _=>rfl,
  @λ_ _ _ _ _=>rfl,
  @λ_ _ _ _ _ _=>rfl,
  @λ_ _ _ _ _=>rfl,
  @λ_ _ _ _ _=>rfl,
  @λ_ _ _ _ _=>rfl,
  @λ_ _ _ _ _ _=>rfl,
  @λ_ _ _ _ _=>rfl,
  @λ_ _ _ _=>rfl,
  @λ_ _ _ _=>rfl,
  @λ_ _ _=>rfl,
  @λ_ _ _ _ _=>rfl,
  @λ_ _ _ _ _ _=>rfl,
  @λ_ _ _ _ _=>rfl,
  @λ_ _ _ _ _=>rfl,
  @λ_ _ _ _=>rfl,
  @λ_ _ _ _ _ _=>rfl,
  @λ_ _ _ _ _=>rfl,
  @λ_ _ _ _=>rfl,
  @λ_ _ _ _=>rfl,
  @λ_ _ _ _ _=>rfl,
  @λ_ _ _=>rfl,
  @λ_ _ _ _=>rfl,
  @λ_ _ _ _=>rfl,
  @λF S ρ a=>by rw[dN];cases ev F a ρ S with | ok x=>(simp only[R.ah];cases c8 x.1 <;> rfl) | ex k=>rfl | bad=>rfl,
  @λ_ _=>rfl,
  @λ_ _ _=>rfl,
  @λ_ _=>rfl,
  @λ_ _=>rfl,
  @λ_ _=>rfl,
  @λ_ _=>rfl,
  @λ_ _=>rfl,
  @λ_ _=>rfl,
  @λ_ _=>rfl,
  @λ_ _=>rfl,
  @λ_ _=>rfl,
  @λ_ _=>rfl,
  @λ_ _ _=>rfl,
  @λ_ _ _ _=>rfl,
  @λ_ _ _ _ _=>rfl,
  @λ_ _ _ _ _ _=>rfl,
  @λ_ _ _ _ _ _ _=>rfl,
  @λ_ _ _=>rfl,
  @λ_ _ _=>rfl,
  @λ_ _=>rfl,
  @λ_ _=>rfl,
  @λ_ _=>rfl,
  @λ_ _=>rfl,
  @λ_ _=>rfl,
  @λ_ _=>rfl,
  @λ_ _=>rfl,
  @λ_ _=>rfl,
  @λ_ _=>rfl,
  @λ_ _=>rfl,
  @λ_=>rfl,
  @λ_=>rfl,
  @λ_=>rfl,
  @λ_=>rfl,
  @λ_=>rfl,
  @λ_=>rfl,
  @λ_=>rfl,
  @λ_ _=>rfl,
  @λ_ _=>rfl,
  @λ_=>rfl,
  @λ_=>rfl,
  @λ_=>rfl,
  @λ_=>rfl,
  @λ_=>rfl,
  @λ_=>rfl,
  @λ_=>rfl,
  @λ_ _ _ _=>rfl,
  @λ_ _=>rfl,
  @λds=>P6 ds,
  @λ_ _ _=>rfl,
  @λ_ _ _ _=>rfl,
  @λ_ _ _=>rfl,
  @λ_ _ _=>rfl,
  @λ_=>rfl,
  @λ_ _ _ _ _=>rfl,
  @λ_=>rfl,
  @λ_ _=>rfl,
  @λ_ _=>rfl,
  @λ_ _ _=>rfl,
  @λ_ _ _=>rfl,
  @λ_ _ _=>rfl⟩
section
variable {F:FT} {S:Sx} {ρ:ao}
theorem bb {i j:Int} (h:i.natAbs < 2 ^ 64\/j.natAbs < 2 ^ 64):lF .Mult (.int i) (.int j)= .ok (.int (i * j)):=by show ae (decide (i.natAbs < 2 ^ 64)||decide (j.natAbs < 2 ^ 64)) _=_;rw[show (decide (i.natAbs < 2 ^ 64)||decide (j.natAbs < 2 ^ 64))=true by simpa using h];rfl
theorem dU {i j:Int} (h:0 < j):lF .Mod (.int i) (.int j)= .ok (.int (i % j)):=by show ae (decide (0 < j)) _=_;rw[PN h];rfl
theorem Dq {i j:Int} (h:0 < j) (h2:j.natAbs.log2 < 9000):lF .FloorDiv (.int i) (.int j)= .ok (.int (i / j)):=by show ae (decide (0 < j)&&decide (j.natAbs.log2 < 9000)) _=_;rw[PN h,PN h2];rfl
noncomputable def fin (r:RS):R (Dt×Sx):=r.bind λp=>match p.1 with
 | .next=> .ok (.aT,p.2.2)
 | .ret d=> .ok (d,p.2.2)
 | _=> .bad
noncomputable def Ts.app:Ts->Ts->Ts
 | .nil,b=>b
 | .cons t a,b=> .cons t (a.app b)
theorem nc:∀{a b:Ts} {ρ:ao} {S:Sx},aW F (a.app b) ρ S=(aW F a ρ S).bind λp=>match p.1 with
  | .next=>aW F b p.2.1 p.2.2
  | f=> .ok (f,p.2)
 | .nil,b,ρ,S=>rfl
 | .cons t a,b,ρ,S=>by
  show aW F (.cons t (a.app b)) ρ S=_;rw[aW,aW];cases ex F t ρ S with
  | ok p=>
   obtain⟨f,ρ1,S1⟩:=p;cases f with
   | next=>exact nc
   | brk=>rfl
   | cnt=>rfl
   | ret d=>rfl
  | ex k=>rfl
  | bad=>rfl
section
variable {r:R (Dt×Sx)} {ts:Ts}
theorem fQ {t:T} {ρ1:ao} {S1:Sx} (h:ex F t ρ S= .ok (.next,ρ1,S1)) (k:fin (aW F ts ρ1 S1)=r):fin (aW F (.cons t ts) ρ S)=r:=by rw[aW,h];exact k
theorem gg {t:T} {ρ1:ao} {S1:Sx} {d:Dt} (h:ex F t ρ S= .ok (.ret d,ρ1,S1)):fin (aW F (.cons t ts) ρ S)= .ok (d,S1):=by rw[aW,h];rfl
theorem aE {i:Nat} {c:C} {d:Dt} {S1:Sx} (h:ev F c ρ S= .ok (d,S1)) (hs:bO c d=true) (k:fin (aW F ts (ρ.set i (some d)) S1)=r):fin (aW F (.cons (.asg i c) ts) ρ S)=r:=by refine fQ ?_ k;rw[ex,h,R.ah,hs];rfl
theorem fP {i:Nat} {c:C} {d:Dt} {S1:Sx} (h:ev F c ρ S= .ok (d,S1)) (hs:jw c d=true) (k:fin (aW F ts (ρ.set i (some d)) S1)=r):fin (aW F (.cons (.asgM i c) ts) ρ S)=r:=by refine fQ ?_ k;rw[ex,h,R.ah,hs];rfl
theorem ay {c:C} {d:Dt} {S1:Sx} (h:ev F c ρ S= .ok (d,S1)):fin (aW F (.cons (.ret c) ts) ρ S)= .ok (d,S1):=by refine gg (ρ1:=ρ) ?_;rw[ex,h];rfl
theorem wq {t:C} {a b:Ts} {x:Bool} {S1:Sx} (h:cH F t ρ S= .ok (x,S1)) (k:fin (aW F ((if x=true then a else b).app ts) ρ S1)=r):fin (aW F (.cons (.ifs t a b) ts) ρ S)=r:=by rw[<-k,nc,aW,ex,h,R.ah];cases x <;> rfl
theorem l6 {t:C} {a b:Ts} {S1:Sx} (h:cH F t ρ S= .ok (true,S1)) (k:fin (aW F (a.app ts) ρ S1)=r):fin (aW F (.cons (.ifs t a b) ts) ρ S)=r:=wq h (by rw[if_pos rfl];exact k)
theorem dS {t:C} {a b:Ts} {S1:Sx} (h:cH F t ρ S= .ok (false,S1)) (k:fin (aW F (b.app ts) ρ S1)=r):fin (aW F (.cons (.ifs t a b) ts) ρ S)=r:=wq h (by rw[if_neg (by simp)];exact k)
theorem bw {tg:Tg} {it:lP} {b:Ts} {ds:List Dt} {ρ1:ao} {S1 S2:Sx} (h:dN F it ρ S= .ok (ds,S1)) (hl:qM it=0) (hf:forL tg (aW F b) ds ρ S1= .ok (.next,ρ1,S2)) (k:fin (aW F ts ρ1 S2)=r):fin (aW F (.cons (.fr tg it b) ts) ρ S)=r:=by refine fQ ?_ k;rw[ex,h,R.ah,PN hl,Bool.true_or];exact hf
end
end
theorem aB {fs:List Fn} {n k ps m:Nat} {body:Ts} {args:List Dt} {r:R (Dt×Sx)} {S:Sx} (h:fs[k]?=some ⟨ps,m,false,body⟩) (hn:1<=n) (hl:args.length=ps) (q:fin (aW (aw fs (n - 1)) body (args.map some++List.replicate (m - ps) none) S)=r):aw fs n k args S=r:=by obtain⟨n,rfl⟩:∃m,n=m + 1:=⟨n - 1,by lia⟩;rw[AO h];unfold gJ;simp only[Bool.false_eq_true,if_false,Nat.add_zero,hl,if_true,List.nil_append];exact q
noncomputable def rM:Ts:=(.cons (.ifs (.cmp .Lt (.var 1) (.bi .len (.cons (.var 0) .nil))) (.cons (.ret (.idx (.var 0) (.var 1))) .nil) .nil) (.cons (.asg 2 (.bin .Add (.bin .Mult (.var 1) (.con (.int 7919))) (.con (.int 5)))) (.cons (.ifs (.cmp .Gt (.bi .len (.cons (.var 0) .nil)) (.con (.int 0))) (.cons (.asg 2 (.bin .Add (.bin .Add (.bin .Mult (.bin .Mod (.idx (.var 0) (.bin .Mod (.var 1) (.bi .len (.cons (.var 0) .nil)))) (.con (.int 2147483647))) (.con (.int 48271))) (.bin .Mult (.bin .Mult (.var 1) (.var 1)) (.con (.int 7919)))) (.con (.int 11)))) .nil) .nil) (.cons (.ret (.bin .Mod (.bin .Mult (.var 2) (.var 2)) (.con (.int 2147483629)))) .nil))))
theorem sO {ns:List Int} {k:Nat} (h:k < ns.length):cF (.dw ns) (.int k)= .ok (.int ns[k]):=by show ua (ns.map Dt.int) k=_;unfold ua;rw[L2.jF (v:= .int ns[k]) (by simp[h])]
noncomputable def dC (ns:List Int) (k:Nat):Int:=if h:k < ns.length then ns[k] else
 let m:Int:=if h:0 < ns.length then ns[k % ns.length]'(Nat.mod_lt _ h) % 2147483647 * 48271 + k * k * 7919 + 11 else k * 7919 + 5
 m * m % 2147483629
theorem rZ {fs:List Fn} {ic:Nat} (hc:fs[ic]?=some ⟨2,3,false,rM⟩) {n:Nat} (hn:1<=n) {ns:List Int} {k:Nat} (hk:k < 1000000):aw fs n ic [.dw ns,.int k] none= .ok (.int (dC ns k),none):=by
 refine aB hc hn rfl ?_;show fin (aW (aw fs (n - 1)) rM [some (.dw ns),some (.int k),none] none)=_;by_cases h:k < ns.length
 ·refine l6 (S1:=none) (by simp only[RX];simp[h]) ?_;exact(ay (d:= .int ns[k]) (S1:=none) (by simp only[RX,sO h])).trans (by simp[dC,h])
 ·have b1:(k:Int) * k<=1000000 * 1000000:=by
   have:k * k<=1000000 * 1000000:=Nat.mul_le_mul (by lia) (by lia);rw[<-Int.natCast_mul]
   lia
  have b0:(0:Int)<=(k:Int) * k:=Int.mul_nonneg (by lia) (by lia);have m1:=bb (i:=k) (j:=7919) (.inl (by lia));refine dS (S1:=none) (by simp only[RX];simp;lia) (aE (d:= .int (k * 7919 + 5)) (S1:=none) (by simp only[RX,m1]) rfl ?_);by_cases h2:0 < ns.length
  ·have hm:=Nat.mod_lt k h2;have e1:((k:Int) % (ns.length:Int))=((k % ns.length:Nat):Int):=by simp
   generalize hx:ns[k % ns.length]=x;have r1:=P4 x (b:=2147483647) (by decide);have r2:=P5 x (b:=2147483647) (by decide);have m2:=dU (i:=k) (j:=ns.length) (by lia);rw[e1] at m2;have m3:=dU (i:=x) (j:=2147483647) (by decide);have m4:=bb (i:=x % 2147483647) (j:=48271) (.inl (by lia));have m5:=bb (i:=k) (j:=k) (.inl (by lia));have m6:=bb (i:=(k:Int) * k) (j:=7919) (.inl (by lia));have m7:=bb (i:=x % 2147483647 * 48271 + k * k * 7919 + 11) (j:=x % 2147483647 * 48271 + k * k * 7919 + 11) (.inl (by lia));have m8:=dU (i:=(x % 2147483647 * 48271 + k * k * 7919 + 11) * (x % 2147483647 * 48271 + k * k * 7919 + 11)) (j:=2147483629) (by decide);refine l6 (S1:=none) (by simp only[RX];simp;lia) (aE (d:= .int (x % 2147483647 * 48271 + k * k * 7919 + 11)) (S1:=none) ?_ rfl ?_)
   ·simp only[RX,m2,m3,m4,m5,m6,sO hm,hx]
   ·refine(ay (d:=_) (S1:=none) (by simp only[RX,m7,m8];rfl)).trans ?_;simp[dC,h,h2,hx]
  ·have z0:decide ((0:Int) < ns.length)=false:=PJ (by lia);have m7:=bb (i:=k * 7919 + 5) (j:=k * 7919 + 5) (.inl (by lia));have m8:=dU (i:=((k:Int) * 7919 + 5) * (k * 7919 + 5)) (j:=2147483629) (by decide);refine dS (S1:=none) (by simp only[RX,z0]) ((ay (d:=_) (S1:=none) (by simp only[RX,m7,m8];rfl)).trans ?_);simp[dC,h,h2]
section
variable {F:FT} {S S1 S2:Sx} {ρ ρ1:ao} {ts:Ts} {r:RS} {d:Dt} {ds:List Dt}
theorem nx {t:T} (h:ex F t ρ S= .ok (.next,ρ1,S1)) (k:aW F ts ρ1 S1=r):aW F (.cons t ts) ρ S=r:=by rw[aW,h];exact k
theorem dg {i:Nat} {c:C} (h:ev F c ρ S= .ok (d,S1)) (hs:bO c d=true) (k:aW F ts (ρ.set i (some d)) S1=r):aW F (.cons (.asg i c) ts) ρ S=r:=by refine nx ?_ k;rw[ex,h,R.ah,hs];rfl
theorem kI {c:C} (h:ev F c ρ S= .ok (d,S1)):aW F (.cons (.ret c) ts) ρ S= .ok (.ret d,ρ,S1):=by rw[aW,ex,h];rfl
theorem Bx {t:C} {a b:Ts} {x:Bool} (h:cH F t ρ S= .ok (x,S1)) (k:aW F ((if x=true then a else b).app ts) ρ S1=r):aW F (.cons (.ifs t a b) ts) ρ S=r:=by rw[<-k,nc,aW,ex,h,R.ah];cases x <;> rfl
theorem pF {t:C} {a b:Ts} (h:cH F t ρ S= .ok (true,S1)) (k:aW F (a.app ts) ρ S1=r):aW F (.cons (.ifs t a b) ts) ρ S=r:=Bx h (by rw[if_pos rfl];exact k)
theorem gW {t:C} {a b:Ts} (h:cH F t ρ S= .ok (false,S1)) (k:aW F (b.app ts) ρ S1=r):aW F (.cons (.ifs t a b) ts) ρ S=r:=Bx h (by rw[if_neg (by simp)];exact k)
theorem xH {tg:Tg} {it:lP} {b:Ts} (h:dN F it ρ S= .ok (ds,S1)) (hl:qM it=0) (hf:forL tg (aW F b) ds ρ S1= .ok (.next,ρ1,S2)) (k:aW F ts ρ1 S2=r):aW F (.cons (.fr tg it b) ts) ρ S=r:=by refine nx ?_ k;rw[ex,h,R.ah,PN hl,Bool.true_or];exact hf
theorem sQ {i:Nat} (hl:ρ[i]?=some (some (.lst ds))):isLE ρ i=true:=by unfold isLE;rw[hl]
theorem nH {i:Nat} (hl:ρ[i]?=some (some (.lst ds))):pq ρ i= .ok ds:=by unfold pq;rw[hl]
theorem Cp {i:Nat} {c:C} (hl:ρ[i]?=some (some (.lst ds))) (h:ev F c ρ S= .ok (d,S1)) (hs:bO c d=true) (hz:ds.length<=lim):ex F (.app i c) ρ S= .ok (.next,ρ.set i (some (.lst (ds++[d]))),S1):=by rw[ex,sQ hl,guard_true,h,R.ah,hs,guard_true,nH hl,R.ah,PN hz];rfl
theorem zy {i:Nat} {k v:C} {n:Int} {j:Nat} (hl:ρ[i]?=some (some (.lst ds))) (h:ev F v ρ S= .ok (d,S1)) (h2:ev F k ρ S1= .ok (.int n,S2)) (hs:bO v d=true) (hz:ot ds.length n=some j):ex F (.ye i k v) ρ S= .ok (.next,ρ.set i (some (.lst (ds.set j d))),S2):=by rw[ex,sQ hl,guard_true,h,R.ah,h2,R.ah,hs,guard_true,nH hl,R.ah];show (match ot ds.length n with | some j=>R.ok (Fl.next,ρ.set i (some (.lst (ds.set j d))),S2) | none=> .bad)=_;rw[hz]
theorem Cq {i:Nat} (hl:ρ[i]?=some (some (.lst ds))):ex F (.Be i) ρ S= .ok (.next,ρ.set i (some (.lst [])),S):=by rw[ex,nH hl];rfl
theorem qW {i:Nat} {c:C} (hl:ρ[i]?=some (some (.lst ds))) (h:ev F c ρ S= .ok (d,S1)) (hs:bO c d=true) (hz:ds.length<=lim) (k:aW F ts (ρ.set i (some (.lst (ds++[d])))) S1=r):aW F (.cons (.app i c) ts) ρ S=r:=nx (Cp hl h hs hz) k
theorem i8 {c:C} (h:ev F c ρ S= .ok (d,S1)) (hd:itemsOf d=some ds):dN F (.seq c) ρ S= .ok (ds,S1):=by show (ev F c ρ S).bind (λx=>match itemsOf x.1 with | some ds=>R.ok (ds,x.2) | none=> .bad)=_;rw[h,R.ah];show (match itemsOf d with | some ds=>R.ok (ds,S1) | none=> .bad)=_;rw[hd]
theorem d7 {c:C} {n:Nat} (h:ev F c ρ S= .ok (.int n,S1)) (hn:n<=lim):dN F (.rng1 c) ρ S= .ok (aS 0 n,S1):=by show (ev F c ρ S).bind (λx=>match x.1 with | .int j=>ae (decide (j<=lim)&&decide (-lim<=j)) (.ok (aS 0 j.toNat,x.2)) | _=> .bad)=_;rw[h,R.ah];show ae (decide ((n:Int)<=lim)&&decide (-lim<=(n:Int))) (R.ok (aS 0 (n:Int).toNat,S1))=_;rw[show (decide ((n:Int)<=lim)&&decide (-lim<=(n:Int)))=true by have:lim=1000000:=rfl;simp;lia];simp
theorem i9 {a b:C} {da db:Dt} {xs ys:List Dt} (ha:ev F a ρ S= .ok (da,S1)) (hb:ev F b ρ S1= .ok (db,S2)) (h1:c8 da=some xs) (h2:c8 db=some ys):dN F (.zip a b) ρ S= .ok (cU xs ys,S2):=by show (ev F a ρ S).bind (λx=>(ev F b ρ x.2).bind λy=>match c8 x.1,c8 y.1 with | some xs,some ys=>R.ok (cU xs ys,y.2) | _,_=> .bad)=_;rw[ha,R.ah,hb,R.ah];show (match c8 da,c8 db with | some xs,some ys=>R.ok (cU xs ys,S2) | _,_=> .bad)=_;rw[h1,h2]
noncomputable def bq (F:FT) (e:C):ao->Sx->R (List Dt×Sx):=λρ1 S1=>(ev F e ρ1 S1).bind λy=>ae (bO e y.1) (.ok ([y.1],y.2))
theorem aV {cap:List (Option Nat)} {it:lP} {tg:Tg} {cs:Cs} {e:C} {out:List Dt} (h:dN F it ρ S= .ok (ds,S1)) (hl:ds.length<=lim) (hk:(decide (qM it<=1)||lB F it ρ S)=true) (hc:aK (aM tg (bh F cs) (bq F e) (jA cap ρ)) ds S1= .ok (out,S2)):
  ev F (.comp cap it tg cs e) ρ S= .ok (.lst out,S2):=by
 rw[ev,h,R.ah,PN hl,hk,Bool.and_true,guard_true];show (aK (aM tg (bh F cs) (bq F e) (jA cap ρ)) ds S1).bind _=_;rw[hc];rfl
theorem aN {tg:Tg} {e:C} {y:Dt} (hs:eQ tg d ρ= .ok ρ1) (he:ev F e ρ1 S= .ok (y,S1)) (hb:bO e y=true):aM tg (bh F .nil) (bq F e) ρ d S= .ok ([y],S1):=by unfold aM bq;rw[hs,R.ah,bh,R.ah];simp only[if_true,he,R.ah,hb,guard_true]
theorem turn_if {tg:Tg} {c e:C} {b:Bool} {y:Dt} (hs:eQ tg d ρ= .ok ρ1) (hc:cH F c ρ1 S= .ok (b,S)) (he:b=true->ev F e ρ1 S= .ok (y,S)/\bO e y=true):aM tg (bh F (.cons c .nil)) (bq F e) ρ d S= .ok (if b=true then[y] else[],S):=by
 unfold aM bq;rw[hs,R.ah,bh,hc,R.ah];cases b with
 | false=>rfl
 | true=>simp only[if_true,(he rfl).1,R.ah,(he rfl).2,guard_true]
theorem nB {k:Nat} (h:ds[k]?=some d):cF (.tup ds) (.int k)= .ok d/\cF (.lst ds) (.int k)= .ok d:=by
 have:ua ds k= .ok d:=by unfold ua;rw[L2.jF h]
 exact⟨this,this⟩
end
theorem ud {ms:List Mx.D} (h:jz ms=true):d5 .sorted [.lst (ck ms)]= .ok (.lst (ck (dY ms)))/\d5 .sorted [.tup (ck ms)]= .ok (.lst (ck (dY ms))):=by
 constructor
 ·show (match fu (ck ms) with | some ms=>ae (jz ms) (R.ok (Dt.lst (ck (dY ms)))) | none=> .bad)=_;rw[jW];show ae (jz ms) _=_;rw[h];rfl
 ·show (match fu (ck ms) with | some ms=>ae (jz ms) (R.ok (Dt.lst (ck (dY ms)))) | none=> .bad)=_;rw[jW];show ae (jz ms) _=_;rw[h];rfl
theorem Ci {ms:List Mx.D} (k:Mx.SK) (hl:ms.length < 1000000) (hd:Mx.D.dh ms<=100) (hk:∀d∈ms,Gw k d=true) (hp:∀d∈ms,∀e∈ms,uN d e=true):jz ms=true:=by
 have yR:([Mx.SK.tt,.ts,.ti,.s,.i].any λk=>ms.all (Gw k))=true:=by rw[P0];exact⟨k,by cases k <;> simp,PZ.mpr hk⟩
 unfold jz;rw[yR,PN hl,PN hd];simp only[Bool.true_and,P7,Pd];exact .inr (PZ.mpr λd h=>PZ.mpr λe h2=>hp d h e h2)
theorem sk {n:Nat}:∀{ms:List Mx.D},(∀d∈ms,Mx.D.dep d<=n)->Mx.D.dh ms<=n
 | [],_=>by simp[Mx.D.dh]
 | m::ms,h=>by
  have h1:=h m Pk;have h2:=sk λd hd=>h d (Ph _ hd)
  simp only[Mx.D.dh]
  lia
theorem gZ (ms:List Mx.D):(dY ms).Perm ms:=List.mergeSort_perm ..
theorem gu {d:Mx.D} {ms:List Mx.D}:d∈dY ms↔d∈ms:=(gZ ms).mem_iff
theorem uM (a b c:Mx.D) (h1:td a b=true) (h2:td b c=true):td a c=true:=by
 unfold td at *;simp only[Bool.not_eq_true'] at *;cases h:Mx.D.lt c a with
 | false=>rfl
 | true=>
  exfalso;cases h3:Mx.D.lt a b with
  | true=>rw[Mx.D.lt_trans c a b h h3] at h2;cases h2
  | false=>have:=Mx.D.fT a b h3 h1;subst this;rw[h] at h2;cases h2
theorem uL (a b:Mx.D):(td a b||td b a)=true:=by
 unfold td;cases h:Mx.D.lt b a with
 | false=>rfl
 | true=>
  cases h2:Mx.D.lt a b with
  | false=>rfl
  | true=>have:=Mx.D.lt_trans a b a h2 h;rw[Mx.D.lt_irrefl] at this;cases this
theorem nS (ms:List Mx.D):(dY ms).Pairwise λa b=>td a b=true:=List.pairwise_mergeSort uM uL ms
variable {fs:List Fn}
noncomputable def vJ (ic:Nat):Ts:=(.cons (.asg 3 (.bin .Add (.bin .Mult (.bin .Mod (.call ic (.cons (.var 0) (.cons (.var 1) .nil)) []) (.con (.int 2147483647))) (.bin .Add (.con (.int 48271)) (.bin .Mult (.con (.int 2)) (.var 1)))) (.bin .Mult (.con (.int 31)) (.var 1)))) (.cons (.ret (.bin .Mod (.bin .FloorDiv (.bin .Mod (.var 3) (.con (.int 2147483629))) (.con (.int 7))) (.var 2))) .nil))
noncomputable def eN (ns:List Int) (k many:Nat):Nat:=((((dC ns k % 2147483647) * (48271 + 2 * k) + 31 * k) % 2147483629 / 7) % many).toNat
theorem pM {ns:List Int} {k many:Nat} (h:0 < many):eN ns k many < many:=by
 unfold eN;have h1:=P4 (((dC ns k % 2147483647) * (48271 + 2 * k) + 31 * k) % 2147483629 / 7) (b:=many) (by lia);have h2:=P5 (((dC ns k % 2147483647) * (48271 + 2 * k) + 31 * k) % 2147483629 / 7) (b:=many) (by lia)
 lia
structure rJ (fs:List Fn) (ip:Nat):Prop where
 ex:∃ic,fs[ic]?=some ⟨2,3,false,rM⟩/\fs[ip]?=some ⟨3,4,false,vJ ic⟩
theorem nL {ip:Nat} (hp:rJ fs ip) {n:Nat} (hn:2<=n) {ns:List Int} {k many:Nat} (hk:k < 1000000) (hm:0 < many):aw fs n ip [.dw ns,.int k,.int many] none= .ok (.int (eN ns k many),none):=by
 obtain⟨ic,h1,h2⟩:=hp.ex;refine aB h2 (by lia) rfl ?_;show fin (aW (aw fs (n - 1)) (vJ ic) [some (.dw ns),some (.int k),some (.int many),none] none)=_;have hc:=rZ h1 (n:=n - 1) (by lia) (ns:=ns) hk;generalize hx:dC ns k=x at hc;have r1:=P4 x (b:=2147483647) (by decide);have r2:=P5 x (b:=2147483647) (by decide);have m1:=dU (i:=x) (j:=2147483647) (by decide);have m2:=bb (i:=2) (j:=k) (.inl (by decide));have m3:=bb (i:=x % 2147483647) (j:=48271 + 2 * k) (.inl (by lia));have m4:=bb (i:=31) (j:=k) (.inl (by decide));have m5:=dU (i:=x % 2147483647 * (48271 + 2 * k) + 31 * k) (j:=2147483629) (by decide);have m6:=Dq (i:=(x % 2147483647 * (48271 + 2 * k) + 31 * k) % 2147483629) (j:=7) (by decide) (by decide);have m7:=dU (i:=(x % 2147483647 * (48271 + 2 * k) + 31 * k) % 2147483629 / 7) (j:=many) (by lia);refine aE (d:= .int (x % 2147483647 * (48271 + 2 * k) + 31 * k)) (S1:=none) (by simp only[RX,hc,m1,m2,m3,m4]) rfl ?_;refine(ay (d:=_) (S1:=none) (by simp only[RX,m5,m6,m7];rfl)).trans ?_;have h1:=P4 (((x % 2147483647) * (48271 + 2 * k) + 31 * k) % 2147483629 / 7) (b:=many) (by lia);have e:((eN ns k many:Nat):Int)=((x % 2147483647) * (48271 + 2 * k) + 31 * k) % 2147483629 / 7 % many:=by unfold eN;rw[hx];omega
 rw[e]
theorem cQ {n:Nat} {pre post:List Dt} {x:Dt} (h:aS 0 n=pre++x::post):pre.length < n/\x= .int pre.length:=by
 have hl:(aS 0 n).length=n:=by simp[aS]
 have h1:pre.length < n:=by rw[<-hl,h];simp
 refine⟨h1,?_⟩;have e:(aS 0 n)[pre.length]?=some x:=by rw[h];simp
 unfold aS at e;simp[h1] at e;exact e.symm
variable {fs:List Fn}
mutual
noncomputable def sm:Dt->Bool
 | .int _=>true
 | .str _=>true
 | .tup ds=>Lp ds
 | .lst ds=>Lp ds
 | _=>false
noncomputable def Lp:List Dt->Bool
 | []=>true
 | d::ds=>sm d&&Lp ds
end
theorem pj {α:Type}:∀l:List α,l=[]\/∃a x,l=a++[x]
 | []=> .inl rfl
 | x::l=> .inr ⟨(x::l).dropLast,(x::l).getLast (by simp),(List.dropLast_concat_getLast (by simp)).symm⟩
variable {fs:List Fn}
theorem oO {α β:Type} {f:α->List β} {k:Nat}:∀{l:List α},(∀x∈l,(f x).length<=k)->(l.flatMap f).length<=l.length * k
 | [],_=>by simp
 | x::l,h=>by
  have h1:=h x Pk;have h2:=oO λy hy=>h y (Ph _ hy)
  rw[List.flatMap_cons,Pv,Px,Nat.succ_mul]
  lia
theorem Ak {a b:List Dt} (h:a.length + b.length<=lim):lF .Add (.lst a) (.lst b)= .ok (.lst (a++b)):=by show ae (decide (a.length + b.length<=lim)) _=_;rw[PN h];rfl
variable {fs:List Fn}
noncomputable def row (it:Mx.D) (c:Int):Mx.D:= .tup [it,.int c]
variable {fs:List Fn}
section
variable {F:FT} {S:Sx} {ρ:ao}
theorem fO (b:BI) (e:C):ev F (.bi b (.cons e .nil)) ρ S=(ev F e ρ S).bind λx=>(d5 b [x.1]).bind λd=> .ok (d,x.2):=by simp only[RX];cases ev F e ρ S <;> rfl
theorem ints_map (l:List Int):intsOf (l.map Dt.int)=some l:=by
 induction l with
 | nil=>rfl
 | cons x l ih=>rw[Qa,intsOf,ih];rfl
theorem B6 (l:List Int):d5 .sum [.lst (l.map Dt.int)]= .ok (.int l.sum):=by show (match intsOf (l.map Dt.int) with | some ns=>R.ok (Dt.int ns.sum) | none=> .bad)=_;rw[ints_map]
end
variable {fs:List Fn}
noncomputable def j6 (F:FT) (n:Nat) (gH:lP) (ji:Tg) (Bf:Cs) (e:C):ao->Sx->R (List Dt×Sx):=λρ1 S1=>(dN F gH ρ1 S1).bind λx2=>ae (decide (n * x2.1.length<=lim)&&decide (qM gH=0)) (aK (aM ji (bh F Bf) (bq F e) ρ1) x2.1 x2.2)
theorem kf {F:FT} {ρ:ao} {S S1 S2:Sx} {ds:List Dt} {cap:List (Option Nat)} {it gH:lP} {tg ji:Tg} {cs Bf:Cs} {e:C} {out:List Dt} (h:dN F it ρ S= .ok (ds,S1)) (hl:ds.length<=lim) (hk:(decide (qM it<=1)||lB F it ρ S)=true) (hc:aK (aM tg (bh F cs) (j6 F ds.length gH ji Bf e) (jA cap ρ)) ds S1= .ok (out,S2)):
  ev F (.gF cap it tg cs gH ji Bf e) ρ S= .ok (.lst out,S2):=by
 rw[ev,h,R.ah,PN hl,hk,Bool.and_true,guard_true];show (aK (aM tg (bh F cs) (j6 F ds.length gH ji Bf e) (jA cap ρ)) ds S1).bind _=_;rw[hc];rfl
theorem yt {F:FT} {ρ ρ1:ao} {S S1 S2:Sx} {d:Dt} {ds out:List Dt} {n:Nat} {gH:lP} {tg ji:Tg} {Bf:Cs} {e:C} (hs:eQ tg d ρ= .ok ρ1) (h:dN F gH ρ1 S= .ok (ds,S1)) (hl:n * ds.length<=lim) (hk:qM gH=0) (hc:aK (aM ji (bh F Bf) (bq F e) ρ1) ds S1= .ok (out,S2)):
  aM tg (bh F .nil) (j6 F n gH ji Bf e) ρ d S= .ok (out,S2):=by
 unfold aM j6;rw[hs,R.ah,bh,R.ah];simp only[if_true,h,R.ah,PN hl,PN hk,Bool.and_true,guard_true,hc]
variable {fs:List Fn}
noncomputable def tI (l:List Int):Dt:= .tup (l.map Dt.int)
noncomputable def lI (R:List (List Int)):Dt:= .lst (R.map tI)
section
variable {F:FT} {S:Sx} {ρ:ao}
theorem b9 {f:Dt->Sx->R (List Dt×Sx)} {g:Int->Dt}:∀{l:List Int},(∀x∈l,f (.int x) S= .ok ([g x],S))->aK f (l.map Dt.int) S= .ok (l.map g,S)
 | [],_=>rfl
 | x::l,h=>by rw[Qa,aK,h x Pk,R.ah,b9 λy hy=>h y (Ph _ hy)];rfl
theorem cg {α:Type} {t:α->Dt} {f:Dt->Sx->R (List Dt×Sx)} {g:α->List Dt}:∀{l:List α},(∀x∈l,f (t x) S= .ok (g x,S))->aK f (l.map t) S= .ok (l.flatMap g,S)
 | [],_=>rfl
 | x::l,h=>by rw[Qa,aK,h x Pk,R.ah,cg λy hy=>h y (Ph _ hy)];rfl
theorem aU {α:Type} {t:α->Dt} {f:Dt->Sx->R (List Dt×Sx)} {g:α->Dt} {l:List α} (h:∀x∈l,f (t x) S= .ok ([g x],S)):aK f (l.map t) S= .ok (l.map g,S):=by rw[cg (g:=λx=>[g x]) h,jm]
theorem c9 (a b:List Int):cU (a.map Dt.int) (b.map Dt.int)=(a.zip b).map λp=> .tup [.int p.1,.int p.2]:=by
 unfold cU
 induction a generalizing b with
 | nil=>rfl
 | cons x a ih=>cases b with | nil=>rfl | cons y b=>simp[ih]
theorem nX (l:List Int):d5 .sum [tI l]= .ok (.int l.sum):=by show (match intsOf (l.map Dt.int) with | some ns=>R.ok (Dt.int ns.sum) | none=> .bad)=_;rw[ints_map]
end
noncomputable def ag (a b:List Int):Int:=((a.zip b).map λp=>p.1 * p.2).sum
noncomputable abbrev Ea (x:Int):Prop:=x.natAbs < 2 ^ 64
noncomputable def oE:Ts:=(.cons (.ret (.bi .sum (.cons (.comp [none,none,none] (.zip (.var 0) (.var 1)) (.tp [1,2]) .nil (.bin .Mult (.var 1) (.var 2))) .nil))) .nil)
theorem AA {ip N:Nat} (hf:fs[ip]?=some ⟨2,2,false,oE⟩) (hN:1<=N) {a b:List Int} (hb:∀x∈b,Ea x) (hl:a.length<=1000):aw fs N ip [tI a,tI b] none= .ok (.int (ag a b),none):=by
 have d6:lim=1000000:=rfl;refine aB hf hN rfl ?_;show fin (aW (aw fs (N - 1)) oE [some (tI a),some (tI b)] none)=_;refine ay ?_;have hc:aK (aM (.tp [1,2]) (bh (aw fs (N - 1)) .nil) (bq (aw fs (N - 1)) (.bin .Mult (.var 1) (.var 2))) [none,none,none]) (cU (a.map Dt.int) (b.map Dt.int)) none= .ok ((a.zip b).map λp=> .int (p.1 * p.2),none):=by
  rw[c9];refine aU λp hp=>?_
  have m:=bb (i:=p.1) (j:=p.2) (.inr (hb p.2 (List.of_mem_zip hp).2));exact aN (ρ1:=[none,some (.int p.1),some (.int p.2)]) rfl (by simp only[RX,m]) rfl
 rw[fO,aV (ds:=cU (a.map Dt.int) (b.map Dt.int)) (S1:=none) (i9 (S1:=none) (S2:=none) rfl rfl rfl rfl) (by rw[c9,Pn,List.length_zip];lia) rfl hc,R.ah];have e:((a.zip b).map λp=>Dt.int (p.1 * p.2))=((a.zip b).map λp=>p.1 * p.2).map Dt.int:=by rw[List.map_map];rfl
 rw[e,B6];rfl
noncomputable def gI (l:List Int) (p:Nat):Int:=l.getD p 0
noncomputable def bg (r:List Int) (p:Nat) (b:List Int):List Int:=(r.zip b).map λq=>gI b p * q.1 - gI r p * q.2
theorem gR {l:List Int} {p:Nat} (h:p < l.length):cF (tI l) (.int p)= .ok (.int (gI l p)):=by refine(nB (ds:=l.map Dt.int) (k:=p) (d:= .int (gI l p)) ?_).1;rw[Py,PH h];simp[gI,List.getD,PH h]
noncomputable def vE:Ts:=(.cons (.ret (.bi .tuple (.cons (.comp [none,none,none,some 2,some 1,some 0] (.zip (.var 0) (.var 2)) (.tp [1,2]) .nil (.bin .Sub (.bin .Mult (.idx (.var 3) (.var 4)) (.var 1)) (.bin .Mult (.idx (.var 5) (.var 4)) (.var 2)))) .nil))) .nil)
theorem cM {l:List Int} {p:Nat} (h:p < l.length):gI l p∈l:=by simp[gI,List.getD,PH h]
theorem vZ {ic N:Nat} (hf:fs[ic]?=some ⟨3,3,false,vE⟩) (hN:1<=N) {r b:List Int} {p:Nat} (hr:p < r.length) (hb:p < b.length) (N4:∀x∈r,Ea x) (IF:∀x∈b,Ea x) (hl:r.length<=1000):aw fs N ic [tI r,.int p,tI b] none= .ok (tI (bg r p b),none):=by
 have d6:lim=1000000:=rfl;refine aB hf hN rfl ?_;show fin (aW (aw fs (N - 1)) vE [some (tI r),some (.int p),some (tI b)] none)=_;refine ay ?_;have i1:=gR hr;have i2:=gR hb;have hc:aK (aM (.tp [1,2]) (bh (aw fs (N - 1)) .nil) (bq (aw fs (N - 1)) (.bin .Sub (.bin .Mult (.idx (.var 3) (.var 4)) (.var 1)) (.bin .Mult (.idx (.var 5) (.var 4)) (.var 2)))) [none,none,none,some (tI b),some (.int p),some (tI r)]) (cU (r.map Dt.int) (b.map Dt.int)) none= .ok ((r.zip b).map λq=> .int (gI b p * q.1 - gI r p * q.2),none):=by
  rw[c9];refine aU λq hq=>?_
  have m1:=bb (i:=gI b p) (j:=q.1) (.inr (N4 _ (List.of_mem_zip hq).1));have m2:=bb (i:=gI r p) (j:=q.2) (.inr (IF _ (List.of_mem_zip hq).2));exact aN (ρ1:=[none,some (.int q.1),some (.int q.2),some (tI b),some (.int p),some (tI r)]) rfl (by simp only[RX,i1,i2,m1,m2]) rfl
 rw[fO,aV (ds:=cU (r.map Dt.int) (b.map Dt.int)) (S1:=none) (i9 (S1:=none) (S2:=none) rfl rfl rfl rfl) (by rw[c9,Pn,List.length_zip];lia) rfl hc,R.ah];have e:((r.zip b).map λq=>Dt.int (gI b p * q.1 - gI r p * q.2))=(bg r p b).map Dt.int:=by unfold bg;rw[List.map_map];rfl
 rw[e];rfl
theorem cn {r b:List Int} (h:r.length=b.length) (p:Nat):(bg r p b).length=r.length:=by
 unfold bg;rw[Pn,List.length_zip]
 lia
theorem cm {r b:List Int} {p k:Nat} (h:r.length=b.length) (hk:k < r.length):gI (bg r p b) k=gI b p * gI r k - gI r p * gI b k:=by
 have hz:k < (r.zip b).length:=by rw[List.length_zip];lia
 unfold bg gI;rw[List.getD,Py,PH hz,List.getElem_zip];simp[List.getD,PH hk,PH (h▸hk:k < b.length)]
theorem vY {r b:List Int} {p:Nat} {B:Nat} (hr:p < r.length) (hb:p < b.length) (h1:∀x∈r,x.natAbs<=B) (h2:∀x∈b,x.natAbs<=B):∀x∈bg r p b,x.natAbs<=2 * B * B:=by
 intro x hx;obtain⟨q,hq,rfl⟩:=PY.mp hx;have a1:=Nat.mul_le_mul (h2 _ (cM hb)) (h1 _ (List.of_mem_zip hq).1);have a2:=Nat.mul_le_mul (h1 _ (cM hr)) (h2 _ (List.of_mem_zip hq).2);have e1:(gI b p * q.1).natAbs=(gI b p).natAbs * q.1.natAbs:=Int.natAbs_mul ..;have e2:(gI r p * q.2).natAbs=(gI r p).natAbs * q.2.natAbs:=Int.natAbs_mul ..;have:2 * B * B=B * B + B * B:=by rw[Nat.mul_assoc,Nat.two_mul]
 lia
theorem qE {F:FT} {ρ:ao} {S S1:Sx} {b:BI} {es:Cs} {v:Bool} (h:ev F (.bi b es) ρ S= .ok (.bl v,S1)):cH F (.bi b es) ρ S= .ok (v,S1):=by
 rw[ev] at h;rw[cH];cases h1:gN F es ρ S with
 | ok x=>
  rw[h1] at h;simp only[R.ah] at h ⊢;cases h2:d5 b x.1 with
  | ok d=>rw[h2] at h;simp only[R.ah] at h ⊢;cases h;rfl
  | ex k=>rw[h2] at h;cases h
  | bad=>rw[h2] at h;cases h
 | ex k=>rw[h1] at h;cases h
 | bad=>rw[h1] at h;cases h
theorem zq (l:List Bool):iA (l.map Dt.bl)=some l:=by
 induction l with
 | nil=>rfl
 | cons x l ih=>rw[Qa,iA,ih];rfl
theorem qu (l:List Bool):d5 .any [.lst (l.map Dt.bl)]= .ok (.bl (l.any id)):=by show (match iA (l.map Dt.bl) with | some ns=>R.ok (Dt.bl (ns.any id)) | none=> .bad)=_;rw[zq]
theorem mQ (i:Int):d5 .abs [.int i]= .ok (.int i.natAbs):=by show R.ok (Dt.int (if i < 0 then -i else i))=_;congr 2;split <;> lia
noncomputable def rN:C:=(.bi .any (.cons (.gF [none,none,none] (.seq (.var 0)) (.nm 1) .nil (.seq (.var 1)) (.nm 2) .nil (.cmp .Gt (.bi .abs (.cons (.var 2) .nil)) (.con (.int 3)))) .nil))
noncomputable def rO:C:=(.bi .any (.cons (.comp [none,none] (.seq (.var 2)) (.nm 1) .nil (.cmp .Gt (.bi .abs (.cons (.var 1) .nil)) (.con (.int 20)))) .nil))
noncomputable def zf:Ts:=(.cons (.ifs (.cmp .Gt (.bi .len (.cons (.var 0) .nil)) (.con (.int 16))) (.cons (.rs 0 []) .nil) .nil) (.cons (.ifs (.cmp .Gt (.var 1) (.con (.int 4))) (.cons (.rs 0 []) .nil) .nil) (.cons (.ifs rN (.cons (.rs 0 []) .nil) .nil) (.cons (.ifs rO (.cons (.rs 0 []) .nil) .nil) .nil))))
noncomputable def ue (M:List (List Int)):Bool:=M.any λr=>r.any λx=>decide (3 < x.natAbs)
noncomputable def uf (r:List Int):Bool:=r.any λx=>decide (20 < x.natAbs)
noncomputable def brk (M:List (List Int)) (many:Int) (r:List Int):Bool:=decide (16 < M.length)||decide (4 < many)||ue M||uf r
noncomputable def uc:Ts:=(.cons (.fr (.tp [2,3]) (.zip (.var 0) (.var 1)) (.cons (.ifs (.cmp .Gt (.var 2) (.var 3)) (.cons (.ret (.con (.bl false))) .nil) .nil) .nil)) (.cons (.ret (.con (.bl true))) .nil))
noncomputable def B4 (iu:Nat):Ts:=(.cons (.fr (.nm 2) (.seq (.var 1)) (.cons (.ifs (.call iu (.cons (.var 2) (.cons (.var 0) .nil)) []) (.cons (.ret (.con (.bl true))) .nil) .nil) .nil)) (.cons (.ret (.con (.bl false))) .nil))
variable {fs:List Fn}
noncomputable def pD (q:Nat×List Int):Dt:= .tup [.int q.1,tI q.2]
noncomputable def jy:Nat->Nat
 | 0=>20
 | p + 1=>2 * jy p * jy p
theorem rR:∀p,1<=jy p
 | 0=>by decide
 | p + 1=>by have:=rR p;have h:1 * 1<=2 * jy p * jy p:=Nat.mul_le_mul (by lia) this;simpa [jy] using h
theorem mP (p:Nat):jy p<=jy (p + 1):=by have:=rR p;have h:1 * jy p<=2 * jy p * jy p:=Nat.mul_le_mul (by lia) (Pj _);simpa [jy] using h
theorem qr {p q:Nat} (h:p<=q):jy p<=jy q:=by
 induction h with
 | refl=>exact Pj _
 | step _ ih=>exact Pp ih (mP _)
structure vy (m p:Nat) (PS:List (Nat×List Int)) (LS:List (List Int)):Prop where
 len:∀r∈LS,r.length=m + 1
 bd:∀r∈LS,∀x∈r,x.natAbs<=jy p
 pl:∀q∈PS,q.1 < p/\q.2.length=m + 1/\gI q.2 q.1≠0
 pb:∀q∈PS,∀x∈q.2,x.natAbs<=jy p
 zr:∀q∈PS,∀r∈LS,gI r q.1=0
 nd:(PS.map (·.1)).Nodup
 ct:PS.length<=p
theorem vy.next {m p:Nat} {PS:List (Nat×List Int)} {LS:List (List Int)} (h:vy m p PS LS):vy m (p + 1) PS LS:=
 ⟨h.len,λr hr x hx=>Pp (h.bd r hr x hx) (mP p),λq hq=>⟨by have:=(h.pl q hq).1;lia,(h.pl q hq).2⟩,λq hq x hx=>Pp (h.pb q hq x hx) (mP p),h.zr,h.nd,by have:=h.ct;lia⟩
theorem vy.clear {m p:Nat} {PS:List (Nat×List Int)} {LS:List (List Int)} {b:List Int} (h:vy m p PS LS) (hp:p < m) (hb:b∈LS) (hn:gI b p≠0):vy m (p + 1) (PS.map (λq=>(q.1,bg q.2 p b))++[(p,b)]) (LS.map λr=>bg r p b):=by
 have lb:=h.len b hb;refine⟨?_,?_,?_,?_,?_,?_,?_⟩
 ·intro r hr;obtain⟨r0,h0,rfl⟩:=PY.mp hr;rw[cn (by rw[h.len r0 h0,lb]),h.len r0 h0]
 ·intro r hr x hx;obtain⟨r0,h0,rfl⟩:=PY.mp hr;exact vY (by rw[h.len r0 h0];lia) (by rw[lb];lia) (h.bd r0 h0) (h.bd b hb) x hx
 ·intro q hq;rcases PD.mp hq with hq | hq
  ·obtain⟨q0,h0,rfl⟩:=PY.mp hq;obtain⟨h1,h2,h3⟩:=h.pl q0 h0;refine⟨by show q0.1 < p + 1;lia,by show (bg q0.2 p b).length=_;rw[cn (by rw[h2,lb]),h2],?_⟩;show gI (bg q0.2 p b) q0.1≠0;rw[cm (by rw[h2,lb]) (by rw[h2];lia),h.zr q0 h0 b hb,Int.mul_zero,Int.sub_zero];exact Int.mul_ne_zero hn h3
  ·rw[PX] at hq;subst hq;exact⟨by show p < p + 1;lia,lb,hn⟩
 ·intro q hq x hx;rcases PD.mp hq with hq | hq
  ·obtain⟨q0,h0,rfl⟩:=PY.mp hq;exact vY (by rw[(h.pl q0 h0).2.1];lia) (by rw[lb];lia) (h.pb q0 h0) (h.bd b hb) x hx
  ·rw[PX] at hq;subst hq;exact Pp (h.bd b hb x hx) (mP p)
 ·intro q hq r hr;obtain⟨r0,h0,rfl⟩:=PY.mp hr;have l0:=h.len r0 h0;rcases PD.mp hq with hq | hq
  ·obtain⟨q0,h1,rfl⟩:=PY.mp hq;show gI (bg r0 p b) q0.1=0;rw[cm (by rw[l0,lb]) (by rw[l0];have:=(h.pl q0 h1).1;lia),h.zr q0 h1 r0 h0,h.zr q0 h1 b hb,Int.mul_zero,Int.mul_zero,Int.sub_zero]
  ·rw[PX] at hq;subst hq;show gI (bg r0 p b) p=0;rw[cm (by rw[l0,lb]) (by rw[l0];lia),Int.mul_comm,Int.sub_self]
 ·rw[Qb,List.map_map,List.nodup_append];refine⟨h.nd,by simp,λa ha c hc e=>?_⟩;obtain⟨q,hq,rfl⟩:=PY.mp ha;rw[Qa,List.map_nil,PX] at hc;have:=(h.pl q hq).1;have e:q.1=c:=e
  lia
 ·rw[Pv,Pn];have:=h.ct;simp only[Px,List.length_nil]
  lia
noncomputable def Ba:C:=(.comp [none,none,some 5] (.seq (.var 3)) (.nm 1) (.cons (.cmp .NotEq (.idx (.var 1) (.var 2)) (.con (.int 0))) .nil) (.var 1))
noncomputable def vL (ic:Nat):C:=(.comp [none,none,none,some 7,some 5] (.seq (.var 4)) (.tp [1,2]) .nil (.tup (.cons (.var 1) (.cons (.call ic (.cons (.var 2) (.cons (.var 4) (.cons (.var 3) .nil))) []) .nil))))
noncomputable def Bb (ic:Nat):C:=(.comp [none,none,some 7,some 5] (.seq (.var 3)) (.nm 1) .nil (.call ic (.cons (.var 1) (.cons (.var 3) (.cons (.var 2) .nil))) []))
noncomputable def A8 (ic:Nat):Ts:=(.cons (.asg 6 Ba) (.cons (.ifs (.var 6) (.cons (.asg 7 (.idx (.var 6) (.con (.int 0)))) (.cons (.asg 4 (.bin .Add (vL ic) (.lst (.cons (.tup (.cons (.var 5) (.cons (.var 7) .nil))) .nil)))) (.cons (.asg 3 (Bb ic)) .nil))) .nil) .nil))
noncomputable def A9:C:=(.comp [none,none,none] (.zip (.var 0) (.var 2)) (.tp [1,2]) .nil (.bin .Add (.bi .tuple (.cons (.var 1) .nil)) (.tup (.cons (.var 2) .nil))))
noncomputable def vK:C:=(.bi .any (.cons (.comp [none,none,some 1] (.seq (.var 3)) (.nm 1) .nil (.cmp .NotEq (.idx (.var 1) (.var 2)) (.con (.int 0)))) .nil))
noncomputable def zh (ic:Nat):Ts:=(.cons (.asg 3 A9) (.cons (.asg 4 (.lst .nil)) (.cons (.fr (.nm 5) (.rng1 (.var 1)) (A8 ic)) (.cons (.ifs vK (.cons (.ret (.con .aT)) .nil) .nil) (.cons (.ret (.var 4)) .nil)))))
theorem zip_rows (M:List (List Int)) (r:List Int):cU (M.map tI) (r.map Dt.int)=(M.zip r).map λq=> .tup [tI q.1,.int q.2]:=by
 unfold cU
 induction M generalizing r with
 | nil=>rfl
 | cons x a ih=>cases r with | nil=>rfl | cons y b=>simp[ih]
theorem cA (l:List Int):kH (tI l)=true:=by
 show gV (l.map Dt.int)=true
 induction l with
 | nil=>rfl
 | cons x l ih=>rw[Qa,gV,ih];rfl
variable {fs:List Fn}
theorem rT {l:List Int} (h:l≠[]):d5 .maxL [.lst (l.map Dt.int)]= .ok (.int (de l)):=by
 show (match intsOf (l.map Dt.int) with | some ns=>ae (!ns.isEmpty) (R.ok (Dt.int (de ns))) | none=> .bad)=_;rw[ints_map];cases l with
 | nil=>exact absurd rfl h
 | cons=>rfl
noncomputable def gB:Nat->Nat->Nat
 | 0,_=>1
 | 1,f=>20 + 3 * f
 | 2,f=>6 * (20 + 3 * f)
 | 3,f=>36 * (20 + 3 * f)
 | _,_=>0
noncomputable def vI:C:=(.bi .maxL (.cons (.gF [none,none,none] (.seq (.var 0)) (.nm 1) .nil (.seq (.var 1)) (.nm 2) .nil (.bi .abs (.cons (.var 2) .nil))) .nil))
noncomputable def vH:C:=(.bi .maxL (.cons (.comp [none,none] (.seq (.var 1)) (.nm 1) .nil (.bi .abs (.cons (.var 1) .nil))) .nil))
noncomputable def vG:Ts:=(.cons (.ifs (.cmp .Eq (.var 2) (.con (.int 0))) (.cons (.ret (.con (.int 1))) .nil) .nil) (.cons (.asg 4 vI) (.cons (.asg 5 vH) (.cons (.asg 6 (.tup (.cons (.con (.int 1)) (.cons (.bin .Mult (.con (.int 2)) (.var 4)) (.cons (.bin .Mult (.bin .Mult (.con (.int 4)) (.var 4)) (.var 4)) (.cons (.con (.int 0)) .nil)))))) (.cons (.ret (.bin .Mult (.idx (.var 6) (.bin .Sub (.var 2) (.con (.int 1)))) (.bin .Add (.var 5) (.bin .Mult (.var 3) (.var 4))))) .nil)))))
theorem v7 {α:Type} (xs:List α) {p:Nat} (h:p<=xs.length):cutD xs none (some (p:Int))=xs.take p:=by unfold cutD;rw[HT.kR,HT.tM,List.drop_zero,Nat.sub_zero,Nat.min_eq_left h]
theorem qB {α:Type} (xs:List α) {p:Nat} (h:p<=xs.length):cutD xs (some (p:Int)) none=xs.drop p:=by unfold cutD;rw[HT.kR,HT.tM,Nat.min_eq_left h,List.take_of_length_le (by rw[List.length_drop];lia)]
noncomputable def Bc:C:=(.gF [none,none,none,some 2,some 4] (.seq (.var 3)) (.nm 1) .nil (.rng1 (.bin .Add (.var 3) (.con (.int 1)))) (.nm 2) .nil (.bin .Add (.bin .Add (.sliH (.var 1) (.var 4)) (.tup (.cons (.var 2) .nil))) (.sliL (.var 1) (.bin .Add (.var 4) (.con (.int 1))))))
noncomputable def zm:Ts:=(.cons (.asg 3 (.lst (.cons (.bin .Mult (.tup (.cons (.con (.int 0)) .nil)) (.var 0)) .nil))) (.cons (.fr (.nm 4) (.seq (.var 1)) (.cons (.asg 3 Bc) .nil)) (.cons (.ret (.var 3)) .nil)))
theorem tK {m:Nat} (x:Int) (h:m<=1000):lF .Mult (.tup [.int x]) (.int m)= .ok (tI (List.replicate m x)):=by
 show ae (decide (((m:Int)).natAbs<=lim)&&decide ([Dt.int x].length * ((m:Int)).toNat<=lim)) (R.ok (Dt.tup (List.replicate ((m:Int)).toNat [Dt.int x]).flatten))=_;have d6:lim=1000000:=rfl;rw[PN (by lia),PN (by simp;lia)];have e:(List.replicate ((m:Int)).toNat [Dt.int x]).flatten=(List.replicate m x).map Dt.int:=by
  rw[Int.toNat_natCast,List.map_replicate]
  induction m with
  | zero=>rfl
  | succ m ih=>rw[List.replicate_succ,List.flatten_cons,ih (by lia),List.replicate_succ];rfl
 rw[e];rfl
variable {fs:List Fn}
noncomputable abbrev LJ (m:Nat) (q:List Int):Prop:=q.length=m/\∀x∈q,(0:Int)<=x/\x.natAbs < 2 ^ 200
theorem tE {A B:Nat}:∀{l q:List Int},(∀x∈l,x.natAbs<=A)->(∀x∈q,x.natAbs<=B)->(ag l q).natAbs<=l.length * (A * B)
 | [],q,_,_=>by simp[ag]
 | x::l,[],_,_=>by simp[ag]
 | x::l,y::q,h1,h2=>by
  have ih:=tE (l:=l) (q:=q) (λz hz=>h1 z (Ph _ hz)) λz hz=>h2 z (Ph _ hz)
  have e:ag (x::l) (y::q)=x * y + ag l q:=rfl;have h3:=Nat.mul_le_mul (h1 x Pk) (h2 y Pk);have h4:(x * y).natAbs=x.natAbs * y.natAbs:=Int.natAbs_mul ..;have h5:=Int.natAbs_add_le (x * y) (ag l q);rw[e,Px,Nat.succ_mul]
  lia
theorem oI {α:Type} (xs:List α) (h:xs≠[]):cutD xs none (some (-1))=xs.dropLast:=by
 unfold cutD;have:xs.length≠0:=λz=>h (List.eq_nil_of_length_eq_zero z)
 have e:HT.bR xs.length xs.length (some (-1))=xs.length - 1:=by
  show (if (-1:Int) < 0 then((-1:Int) + (xs.length:Int)).toNat else min (-1:Int).toNat xs.length)=_;rw[if_pos (by decide)]
  lia
 rw[HT.kR,e,List.drop_zero,Nat.sub_zero,List.dropLast_eq_take]
noncomputable def vF (ip:Nat):Ts:=(.cons (.asgT [5,6] (.bi .dvm (.cons (.bin .Sub (.idx (.var 4) (.neg (.con (.int 1)))) (.call ip (.cons (.sliH (.var 4) (.neg (.con (.int 1)))) (.cons (.var 0) .nil)) [])) (.cons (.idx (.var 4) (.var 3)) .nil)))) (.cons (.ifs (.or (.cmp .NotEq (.var 6) (.con (.int 0))) (.cmp .Lt (.var 5) (.con (.int 0)))) (.cons (.ret (.con .aT)) .nil) .nil) (.cons (.ye 2 (.var 3) (.var 5)) .nil)))
noncomputable def zg (ip:Nat):Ts:=(.cons (.asgM 2 (.bi .list (.cons (.var 0) .nil))) (.cons (.fr (.tp [3,4]) (.seq (.var 1)) (vF ip)) (.cons (.ret (.bi .tuple (.cons (.mvr 2) .nil))) .nil)))
theorem uO {x:Int} (h:x.natAbs<=jy 4) (h0:x≠0):x.natAbs.log2 < 9000:=by
 have h1:x.natAbs < 2 ^ 100:=Nat.lt_of_le_of_lt h (by decide);have h2:x.natAbs.log2 < 100:=(Nat.log2_lt (by lia)).mpr h1
 lia
noncomputable def zi (is ig iw ic:Nat):Ts:=(.cons (.asg 3 (.call is (.cons (.var 0) (.cons (.var 1) (.cons (.var 2) .nil))) [])) (.cons (.ifs (.cmp .Is (.var 3) (.con .aT)) (.cons (.ret (.lst .nil)) .nil) .nil) (.cons (.asg 4 (.comp [none,none,none] (.seq (.var 3)) (.tp [1,2]) .nil (.var 1))) (.cons (.asg 5 (.comp [none,none,some 4] (.rng1 (.var 1)) (.nm 1) (.cons (.cmp .NotIn (.var 1) (.var 2)) .nil) (.var 1))) (.cons (.asg 6 (.call ig (.cons (.var 0) (.cons (.var 2) (.cons (.bi .len (.cons (.var 4) .nil)) (.cons (.bi .len (.cons (.var 5) .nil)) .nil)))) [])) (.cons (.asg 7 (.comp [none,none,some 3] (.seq (.call iw (.cons (.var 1) (.cons (.var 5) (.cons (.var 6) .nil))) [])) (.nm 1) .nil (.call ic (.cons (.var 1) (.cons (.var 2) .nil)) []))) (.cons (.ret (.comp [none,none] (.seq (.var 7)) (.nm 1) (.cons (.cmp .IsNot (.var 1) (.con .aT)) .nil) (.var 1))) .nil)))))))
structure vx (fs:List Fn) (ip il is ig iw ic io:Nat):Prop where
 p:fs[ip]?=some ⟨2,2,false,oE⟩
 l:fs[il]?=some ⟨3,3,false,vE⟩
 s:fs[is]?=some ⟨3,8,false,zh il⟩
 g:fs[ig]?=some ⟨4,7,false,vG⟩
 w:fs[iw]?=some ⟨3,5,false,zm⟩
 c:fs[ic]?=some ⟨2,7,false,zg ip⟩
 o:fs[io]?=some ⟨3,8,false,zi is ig iw ic⟩
theorem mI {α:Type} (p:α->Bool):∀l:List α,(l.filter p).length + (l.filter λx=> !p x).length=l.length
 | []=>rfl
 | x::l=>by have:=mI p l;rw[List.filter_cons,List.filter_cons];cases p x <;> simp <;> lia
theorem oR {m:Nat} {L:List Nat} (hn:L.Nodup) (hl:∀p∈L,p < m):((List.range m).filter λp=> !decide (p∈L)).length + L.length=m:=by
 have h1:(((List.range m).filter λp=>decide (p∈L))).Perm L:=lG (List.Pairwise.filter _ List.nodup_range) hn λx=>by rw[List.mem_filter,Qd,decide_eq_true_eq];exact⟨λh=>h.2,λh=>⟨hl x h,h⟩⟩
 have h2:=h1.length_eq;have h3:=mI (λp=>decide (p∈L)) (List.range m);rw[List.length_range] at h3
 lia
theorem Ha {m s f g:Nat} (hs:s + f=m) (hm:m<=4) (hg:g<=gB s f):(g + 1) ^ f<=900000:=by
 refine Pp (Nat.pow_le_pow_left (Nat.succ_le_succ hg) f) ?_;have hf:f<=4:=by lia
 have N5:s<=4:=by lia
 match s,f,N5,hf,hs with
 | 0,0,_,_,_=>decide
 | 0,1,_,_,_=>decide
 | 0,2,_,_,_=>decide
 | 0,3,_,_,_=>decide
 | 0,4,_,_,_=>decide
 | 1,0,_,_,_=>decide
 | 1,1,_,_,_=>decide
 | 1,2,_,_,_=>decide
 | 1,3,_,_,_=>decide
 | 1,4,_,_,h=>lia
 | 2,0,_,_,_=>decide
 | 2,1,_,_,_=>decide
 | 2,2,_,_,_=>decide
 | 2,3,_,_,h=>lia
 | 2,4,_,_,h=>lia
 | 3,0,_,_,_=>decide
 | 3,1,_,_,_=>decide
 | 3,2,_,_,h=>lia
 | 3,3,_,_,h=>lia
 | 3,4,_,_,h=>lia
 | 4,0,_,_,_=>decide
 | 4,1,_,_,h=>lia
 | 4,2,_,_,h=>lia
 | 4,3,_,_,h=>lia
 | 4,4,_,_,h=>lia
theorem zR (p:Nat) (L:List Nat):cZ .NotIn (.int p) (.lst (L.map λ(q:Nat)=>Dt.int q))= .ok (!decide (p∈L)):=by
 have h:∀L:List Nat,lH (L.map λ(q:Nat)=>Dt.int q)=true/\oK (L.map λ(q:Nat)=>Dt.int q)=0/\inD (.int p) (L.map λ(q:Nat)=>Dt.int q)=decide (p∈L):=by
  intro L
  induction L with
  | nil=>exact⟨rfl,rfl,rfl⟩
  | cons q L ih=>
   refine⟨by rw[Qa,lH,ih.1];rfl,by rw[Qa,oK,ih.2.1];rfl,?_⟩;have e:du (.int (q:Int)) (.int (p:Int))=decide (p=q):=by
    simp only[du];rw[Bool.eq_iff_iff];simp
    lia
   have:=ih.2.2;unfold inD at this ⊢;rw[Qa,List.any_cons,this,e,Bool.eq_iff_iff];simp
 obtain⟨h1,h2,h3⟩:=h L;show ae (pl (.int (p:Int))&&lH (L.map λ(q:Nat)=>Dt.int q)&&decide (oK (L.map λ(q:Nat)=>Dt.int q)<=100)) (R.ok (!inD (.int p) (L.map λ(q:Nat)=>Dt.int q)))=_;rw[h1,h2,h3];rfl
variable {fs:List Fn}
theorem Ah (rs:List Mx.D):ofD (.tup rs)= .tup (ck rs):=by simp[ofD]
variable {fs:List Fn}
noncomputable def dI (q:List Int):Mx.D:= .tup (q.map Mx.D.int)
noncomputable def HS:Mx.D->List Int
 | .tup ds=>ds.filterMap λd=>match d with | .int i=>some i | _=>none
 | _=>[]
theorem p8 (q:List Int):HS (dI q)=q:=by
 show (q.map Mx.D.int).filterMap _=q;rw[List.filterMap_map]
 induction q with
 | nil=>rfl
 | cons x q ih=>rw[List.filterMap_cons];simp only[Function.comp];exact congrArg _ ih
theorem HH (q:List Int):tI q=ofD (dI q):=by unfold dI;rw[Ah,kJ,List.map_map];exact congrArg Dt.tup (List.map_congr_left λx _=>by simp[ofD])
theorem Bt (Q:List (List Int)):lI Q= .lst (ck (Q.map dI)):=by unfold lI;rw[kJ,List.map_map];congr 1;exact List.map_congr_left λq _=>HH q
theorem nG:∀a b:List Int,lE (a.map Mx.D.int) (b.map Mx.D.int)=true
 | [],_=>by simp[lE]
 | _::_,[]=>by simp[lE]
 | x::a,y::b=>by simp only[Qa,lE,uN,Bool.true_and];exact nG a b
noncomputable def B3 (ik io iv:Nat):Ts:=(.cons (.Ir (.call ik (.cons (.var 0) (.cons (.var 1) (.cons (.tup .nil) .nil))) [])) (.cons (.asgM 2 (.lst .nil)) (.cons (.fr (.nm 3) (.seq (.bi .sorted (.cons (.call io (.cons (.var 0) (.cons (.var 1) (.cons (.bin .Mult (.tup (.cons (.con (.int 0)) .nil)) (.bi .len (.cons (.var 0) .nil))) .nil))) []) .nil))) (.cons (.ifs (.and (.cmp .Gt (.bi .sum (.cons (.var 3) .nil)) (.con (.int 0))) (.nt (.call iv (.cons (.var 3) (.cons (.mvr 2) .nil)) []))) (.cons (.app 2 (.var 3)) .nil) .nil) .nil)) (.cons (.ret (.mvr 2)) .nil))))
theorem aA (x y:Int) (l q:List Int):ag (x::l) (y::q)=x * y + ag l q:=rfl
theorem uZ (q:List Int):ag [] q=0:=rfl
theorem q5 (q:List Int):ag q []=0:=by cases q <;> rfl
theorem pO (α β:Int):∀{r b:List Int} (z:List Int),r.length=b.length->ag ((r.zip b).map λq=>α * q.1 - β * q.2) z=α * ag r z - β * ag b z
 | [],[],z,_=>by simp[ag]
 | x::r,y::b,[],_=>by simp[ag]
 | x::r,y::b,u::z,h=>by
  have ih:=pO α β (r:=r) (b:=b) z (by simpa using h);rw[List.zip_cons_cons,Qa,aA,aA,aA,ih]
  grind
 | [],_::_,_,h=>by simp at h
 | _::_,[],_,h=>by simp at h
theorem kN {r b:List Int} {p:Nat} (z:List Int) (h:r.length=b.length):ag (bg r p b) z=gI b p * ag r z - gI r p * ag b z:=pO _ _ z h
noncomputable def dZ (p:Nat) (S:List (Nat×List Int)×List (List Int)):List (Nat×List Int)×List (List Int):=
 match S.2.filter λq=> !(gI q p==0) with
 | []=>S
 | b::_=>(S.1.map (λq=>(q.1,bg q.2 p b))++[(p,b)],S.2.map λr=>bg r p b)
noncomputable def bN (L0:List (List Int)):Nat->List (Nat×List Int)×List (List Int)
 | 0=>([],L0)
 | p + 1=>dZ p (bN L0 p)
noncomputable def rowsOf (M:List (List Int)) (r:List Int):List (List Int):=(M.zip r).map λq=>q.1++[q.2]
structure Sq (m p:Nat) (L0:List (List Int)) (PS:List (Nat×List Int)) (LS:List (List Int)):Prop where
 st:vy m p PS LS
 zl:∀r∈LS,∀i,i < p->gI r i=0
 pz:∀q∈PS,∀q'∈PS,q'.1≠q.1->gI q.2 q'.1=0
 ev:∀z,(∀r∈L0,ag r z=0)↔(∀q∈PS,ag q.2 z=0)/\∀r∈LS,ag r z=0
 ln:LS.length=L0.length
 o0:PS=[]->LS=L0
 o1:∀q,PS=[q]->q.2∈L0/\LS=L0.map λr=>bg r q.1 q.2
 o2:∀q1 q2,PS=[q1,q2]->∃r1∈L0,∃r2∈L0,q1.1 < q2.1/\gI r1 q1.1≠0/\q2.2=bg r2 q1.1 r1/\q1.2=bg r1 q2.1 q2.2
theorem Sq.next {m p:Nat} {L0:List (List Int)} {PS:List (Nat×List Int)} {LS:List (List Int)} (h:Sq m p L0 PS LS) (hz:∀r∈LS,gI r p=0):Sq m (p + 1) L0 PS LS:=
 ⟨h.st.next,λr hr i hi=>by
  by_cases e:i=p
  ·rw[e];exact hz r hr
  ·exact h.zl r hr i (by lia),h.pz,h.ev,h.ln,h.o0,h.o1,h.o2⟩
theorem Sq.clear {m p:Nat} {L0:List (List Int)} {PS:List (Nat×List Int)} {LS:List (List Int)} {b:List Int} (h:Sq m p L0 PS LS) (hp:p < m) (hb:b∈LS) (hn:gI b p≠0):Sq m (p + 1) L0 (PS.map (λq=>(q.1,bg q.2 p b))++[(p,b)]) (LS.map λr=>bg r p b):=by
 have lb:=h.st.len b hb;have o4:=h.st.clear hp hb hn;refine⟨o4,?_,?_,?_,by rw[Pn,h.ln],λe=>by simp at e,?_,?_⟩
 ·intro r hr i hi;obtain⟨r0,h0,rfl⟩:=PY.mp hr;have l0:=h.st.len r0 h0;rw[cm (by rw[l0,lb]) (by rw[l0];lia)];by_cases e:i=p
  ·rw[e,Int.mul_comm,Int.sub_self]
  ·rw[h.zl r0 h0 i (by lia),h.zl b hb i (by lia),Int.mul_zero,Int.mul_zero,Int.sub_zero]
 ·intro q hq q' hq' dD;rcases PD.mp hq with hq | hq
  ·obtain⟨q0,h0,rfl⟩:=PY.mp hq;have l0:=(h.st.pl q0 h0).2.1;rcases PD.mp hq' with hq' | hq'
   ·obtain⟨q1,h1,rfl⟩:=PY.mp hq';have p1:=(h.st.pl q1 h1).1;show gI (bg q0.2 p b) q1.1=0;rw[cm (by rw[l0,lb]) (by rw[l0];lia),h.pz q0 h0 q1 h1 dD,h.st.zr q1 h1 b hb,Int.mul_zero,Int.mul_zero,Int.sub_zero]
   ·rw[PX] at hq';subst hq';show gI (bg q0.2 p b) p=0;rw[cm (by rw[l0,lb]) (by rw[l0];lia),Int.mul_comm,Int.sub_self]
  ·rw[PX] at hq;subst hq;rcases PD.mp hq' with hq' | hq'
   ·obtain⟨q1,h1,rfl⟩:=PY.mp hq';exact h.st.zr q1 h1 b hb
   ·rw[PX] at hq';subst hq';exact absurd rfl dD
 ·intro z;rw[h.ev z];constructor
  ·rintro⟨h1,h2⟩;have F0:=h2 b hb;refine⟨λq hq=>?_,λr hr=>?_⟩
   ·rcases PD.mp hq with hq | hq
    ·obtain⟨q0,h0,rfl⟩:=PY.mp hq;show ag (bg q0.2 p b) z=0;rw[kN z (by rw[(h.st.pl q0 h0).2.1,lb]),h1 q0 h0,F0,Int.mul_zero,Int.mul_zero,Int.sub_zero]
    ·rw[PX] at hq;subst hq;exact F0
   ·obtain⟨r0,h0,rfl⟩:=PY.mp hr;rw[kN z (by rw[h.st.len r0 h0,lb]),h2 r0 h0,F0,Int.mul_zero,Int.mul_zero,Int.sub_zero]
  ·rintro⟨h1,h2⟩;have F0:ag b z=0:=h1 (p,b) (PU _ (PX.mpr rfl));have back:∀r:List Int,r.length=b.length->ag (bg r p b) z=0->ag r z=0:=λr hl hr=>by rw[kN z hl,F0,Int.mul_zero,Int.sub_zero] at hr;exact(Int.mul_eq_zero.mp hr).resolve_left hn
   exact⟨λq hq=>back q.2 (by rw[(h.st.pl q hq).2.1,lb]) (h1 (q.1,bg q.2 p b) (List.mem_append_left _ (PY.mpr ⟨q,hq,rfl⟩))),λr hr=>back r (by rw[h.st.len r hr,lb]) (h2 _ (PY.mpr ⟨r,hr,rfl⟩))⟩
 ·intro q e;cases PS with
  | nil=>have e0:=h.o0 rfl;simp only[List.map_nil,List.nil_append,List.cons.injEq,and_true] at e;subst e;rw[e0] at hb;exact⟨hb,by rw[e0]⟩
  | cons q0 PS=>have:=congrArg List.length e;simp at this
 ·intro q1 q2 e;cases PS with
  | nil=>have:=congrArg List.length e;simp at this
  | cons q0 PS=>
   cases PS with
   | nil=>obtain⟨k1,k2⟩:=h.o1 q0 rfl;simp only[Qa,List.map_nil,List.singleton_append,List.cons.injEq,and_true] at e;obtain⟨e1,e2⟩:=e;subst e1 e2;rw[k2] at hb;obtain⟨r2,h2,rfl⟩:=PY.mp hb;have:=h.st.pl q0 Pk;exact⟨q0.2,k1,r2,h2,this.1,this.2.2,rfl,rfl⟩
   | cons q' PS=>have:=congrArg List.length e;simp at this
theorem Sq.zero {m:Nat} {L0:List (List Int)} (h:vy m 0 [] L0):Sq m 0 L0 [] L0:=⟨h,λ_ _ i hi=>by lia,by simp,λz=>by simp,rfl,λ_=>rfl,λ_ e=>(by cases e),λ_ _ e=>(by cases e)⟩
theorem Sq.step {m p:Nat} {L0:List (List Int)} {S:List (Nat×List Int)×List (List Int)} (h:Sq m p L0 S.1 S.2) (hp:p < m):Sq m (p + 1) L0 (dZ p S).1 (dZ p S).2:=by
 unfold dZ;cases e:S.2.filter λq=> !(gI q p==0) with
 | nil=>
  refine h.next λr hr=>?_
  have:=List.filter_eq_nil_iff.mp e r hr;simpa using this
 | cons b bs=>
  have:b∈S.2.filter λq=> !(gI q p==0):=by rw[e];exact Pk
  have:=List.mem_filter.mp this;exact h.clear hp this.1 (by simpa using this.2)
theorem Sq.all {m:Nat} {L0:List (List Int)} (h:vy m 0 [] L0):∀p,p<=m->Sq m p L0 (bN L0 p).1 (bN L0 p).2
 | 0,_=>Sq.zero h
 | p + 1,hp=>(Sq.all h p (by lia)).step (by lia)
theorem cC {l x:List Int} (g:Int) (h:l.length=x.length):ag (l++[g]) (x++[-1])=ag l x - g:=by
 induction l generalizing x with
 | nil=>cases x with | nil=>simp[ag] | cons=>simp at h
 | cons a l ih=>cases x with
  | nil=>simp at h
  | cons b x=>
   have:=ih (x:=x) (by simpa using h);rw[List.cons_append,List.cons_append,aA,aA,this]
   lia
noncomputable def fJ (M:List (List Int)) (r x:List Int):Prop:=∀q∈M.zip r,ag q.1 x=q.2
theorem pX {m:Nat} {M:List (List Int)} {r x:List Int} (hl:∀q∈M,q.length=m) (hx:x.length=m):fJ M r x↔∀z∈rowsOf M r,ag z (x++[-1])=0:=by
 unfold fJ rowsOf;constructor
 ·intro h z hz;obtain⟨q,hq,rfl⟩:=PY.mp hz;rw[cC _ (by rw[hl _ (List.of_mem_zip hq).1,hx]),h q hq,Int.sub_self]
 ·intro h q hq;have:=h _ (PY.mpr ⟨q,hq,rfl⟩);rw[cC _ (by rw[hl _ (List.of_mem_zip hq).1,hx])] at this
  lia
theorem aF (a:Int) (l:List Int) (i:Nat):gI (a::l) (i + 1)=gI l i:=by simp[gI]
theorem pP:∀{l:List Int} (z:List Int),(∀i,i < l.length->gI l i=0)->ag l z=0
 | [],z,_=>rfl
 | a::l,[],_=>rfl
 | a::l,u::z,h=>by have h0:a=0:=h 0 (by simp);rw[aA,h0,pP z λi hi=>by have:=h (i + 1) (by simpa using hi);rwa [aF] at this];simp
noncomputable def jx (m:Nat) (LS:List (List Int)):Bool:=(LS.map λq=> !(gI q m==0)).any id
theorem ja {l:List Int} {m:Nat} (h:l.length=m + 1):∃a g,l=a++[g]/\a.length=m/\gI l m=g:=by
 have dD:l≠[]:=λe=>by rw[e] at h;simp at h
 obtain⟨a,g,e⟩:=(pj l).resolve_left dD;refine⟨a,g,e,by rw[e,Pv] at h;simpa using h,?_⟩;subst e;have:a.length=m:=by rw[Pv] at h;simpa using h
 subst this;simp[gI]
theorem bI {a:List Int} {g:Int} {i:Nat} (h:i < a.length):gI (a++[g]) i=gI a i:=by simp[gI,List.getD,P8 h]
theorem Sq.sol {m:Nat} {M:List (List Int)} {r x:List Int} {PS:List (Nat×List Int)} {LS:List (List Int)} (h:Sq m m (rowsOf M r) PS LS) (hl:∀q∈M,q.length=m) (hx:x.length=m):
  fJ M r x↔jx m LS=false/\∀q∈PS,ag q.2 (x++[-1])=0:=by
 rw[pX hl hx,h.ev];have key:∀q∈LS,ag q (x++[-1])= - gI q m:=λq hq=>by
  obtain⟨a,g,e,ha,hg⟩:=ja (h.st.len q hq);rw[hg];have hz:=h.zl q hq;subst e;rw[cC g (by rw[ha,hx]),pP x λi hi=>by have:=hz i (by lia);rwa [bI hi] at this]
  lia
 have:(∀q∈LS,ag q (x++[-1])=0)↔jx m LS=false:=by
  unfold jx;rw[List.any_map,List.any_eq_false];constructor
  ·intro h1 q hq;have:=h1 q hq;rw[key q hq] at this;have:gI q m=0:=by lia
   simp[this]
  ·intro h1 q hq;rw[key q hq];have:=h1 q hq;simp at this
   lia
 rw[this];exact And.comm
theorem bL {l:List Int} {p:Nat} {x:Int} (h:p < l.length):gI (l.set p x) p=x:=by simp[gI,List.getD,h]
theorem bz {l:List Int} {p i:Nat} {x:Int} (h:i≠p):gI (l.set p x) i=gI l i:=by simp[gI,List.getD,List.getElem?_set,Ne.symm h]
theorem kg:∀{a b:List Int},a.length=b.length->(∀i,i < a.length->gI a i=gI b i)->a=b
 | [],[],_,_=>rfl
 | x::a,y::b,h,e=>by have h0:x=y:=e 0 (by simp);rw[h0,kg (a:=a) (b:=b) (by simpa using h) λi hi=>by have:=e (i + 1) (by simpa using hi);rwa [aF,aF] at this]
 | [],_::_,h,_=>by simp at h
 | _::_,[],h,_=>by simp at h
theorem sG {l:List Int} {x:Int} (h:x∈l):∃i,i < l.length/\gI l i=x:=by obtain⟨i,hi,e⟩:=List.getElem_of_mem h;exact⟨i,hi,by simp[gI,List.getD,hi,e]⟩
theorem je:∀{l x q:List Int} {p:Nat},x.length=q.length->p < x.length->x.length<=l.length->(∀i,i < x.length->i≠p->gI l i * gI x i=gI l i * gI q i)->ag l x=ag l q + gI l p * (gI x p - gI q p)
 | [],x,q,p,_,h2,h3,_=>by simp at h3;rw[h3] at h2;simp at h2
 | a::l,[],q,p,_,h2,_,_=>by simp at h2
 | a::l,u::x,[],p,h1,_,_,_=>by simp at h1
 | a::l,u::x,v::q,0,h1,h2,h3,h=>by
  have e:ag l x=ag l q:=by
   have:∀{l x q:List Int},x.length=q.length->x.length<=l.length->(∀i,i < x.length->gI l i * gI x i=gI l i * gI q i)->ag l x=ag l q:=by
    intro l x q
    induction l generalizing x q with
    | nil=>intro _ _ _;rfl
    | cons a l ih=>
     intro h1 h2 h;cases x with
     | nil=>cases q with | nil=>rfl | cons=>simp at h1
     | cons u x=>cases q with
      | nil=>simp at h1
      | cons v q=>rw[aA,aA,ih (by simpa using h1) (by simpa using h2) λi hi=>by have:=h (i + 1) (by simpa using hi);rwa [aF,aF,aF] at this];have:=h 0 (by simp);have:a * u=a * v:=this;rw[this]
   exact this (by simpa using h1) (by simpa using h3) λi hi=>by have:=h (i + 1) (by simpa using hi) (by lia);rwa [aF,aF,aF] at this
  rw[aA,aA,e];show a * u + _=a * v + _ + a * (u - v)
  grind
 | a::l,u::x,v::q,p + 1,h1,h2,h3,h=>by
  have ih:=je (l:=l) (x:=x) (q:=q) (p:=p) (by simpa using h1) (by simpa using h2) (by simpa using h3) λi hi dD=>by have:=h (i + 1) (by simpa using hi) (by lia);rwa [aF,aF,aF] at this
  have h0:a * u=a * v:=h 0 (by simp) (by lia);rw[aA,aA,ih,aF,aF,aF,h0]
  lia
noncomputable def cu (eq q:List Int):Int:= - ag eq (q++[-1])
noncomputable def bP (q:List Int):List (Nat×List Int)->List Int->Option (List Int)
 | [],w=>some w
 | z::PS,w=>if (!((cu z.2 q).fmod (gI z.2 z.1)==0))=true\/(cu z.2 q).fdiv (gI z.2 z.1) < 0 then none else bP q PS (w.set z.1 ((cu z.2 q).fdiv (gI z.2 z.1)))
theorem kb {q:List Int}:∀{PS:List (Nat×List Int)} {w x:List Int},(PS.map (·.1)).Nodup->(∀z∈PS,z.1 < w.length/\gI z.2 z.1≠0)->
  (bP q PS w=some x↔x.length=w.length/\(∀i,i < w.length->i∉PS.map (·.1)->gI x i=gI w i)/\∀z∈PS,gI z.2 z.1 * gI x z.1=cu z.2 q/\0<=gI x z.1)
 | [],w,x,_,_=>by
  unfold bP;constructor
  ·intro h;cases h;exact⟨rfl,λ_ _ _=>rfl,by simp⟩
  ·rintro⟨h1,h2,_⟩;rw[kg h1 λi hi=>h2 i (by lia) (by simp)]
 | z::PS,w,x,nd,hz=>by
  rw[Qa,List.nodup_cons] at nd;obtain⟨z1,z2⟩:=hz z Pk;unfold bP;have jo:=Int.mul_fdiv_add_fmod (cu z.2 q) (gI z.2 z.1);generalize hn:(cu z.2 q).fdiv (gI z.2 z.1)=n at jo;generalize hr:(cu z.2 q).fmod (gI z.2 z.1)=rest at jo;have ih:=kb (q:=q) (PS:=PS) (w:=w.set z.1 n) (x:=x) nd.2 λy hy=>by rw[List.length_set];exact hz y (Ph _ hy)
  by_cases hb:(!(rest==0))=true\/n < 0
  ·rw[if_pos hb];constructor
   ·intro h;cases h
   ·rintro⟨_,_,h3⟩;obtain⟨k1,k2⟩:=h3 z Pk;rw[<-k1,Int.mul_fmod_right] at hr;rw[<-k1,Int.mul_fdiv_cancel_left _ z2] at hn;rcases hb with hb | hb
    ·rw[<-hr] at hb;simp at hb
    ·lia
  ·rw[if_neg hb,ih];have r0:rest=0:=by
    by_cases h:rest=0
    ·exact h
    ·exact absurd (.inl (by simp[h])) hb
   have n0:0<=n:=by have:=λh=>hb (.inr h);lia
   rw[r0,Int.add_zero] at jo;rw[List.length_set];constructor
   ·rintro⟨h1,h2,h3⟩;have xz:gI x z.1=n:=by rw[h2 z.1 z1 nd.1,bL z1]
    refine⟨h1,λi hi oX=>?_,λy hy=>?_⟩
    ·rw[Qa,Pq,not_or] at oX;rw[h2 i hi oX.2,bz oX.1]
    ·rcases Pq.mp hy with rfl | hy
     ·rw[xz];exact⟨jo,n0⟩
     ·exact h3 y hy
   ·rintro⟨h1,h2,h3⟩;obtain⟨k1,k2⟩:=h3 z Pk;have xz:gI x z.1=n:=by rw[<-k1,Int.mul_fdiv_cancel_left _ z2] at hn;exact hn
    refine⟨h1,λi hi oX=>?_,λy hy=>h3 y (Ph _ hy)⟩;by_cases e:i=z.1
    ·rw[e,bL z1,xz]
    ·rw[bz e];exact h2 i hi (by rw[Qa,Pq,not_or];exact⟨e,oX⟩)
noncomputable def HV (g p:Nat) (Q:List (List Int)):List (List Int):=Q.flatMap λq=>(List.range (g + 1)).map λ(n:Nat)=>q.set p (n:Int)
noncomputable def eT (g:Nat):List Nat->List (List Int)->List (List Int)
 | [],Q=>Q
 | p::FR,Q=>eT g FR (HV g p Q)
theorem iM {g:Nat}:∀{FR:List Nat} {Q:List (List Int)} {q':List Int},q'∈eT g FR Q↔∃q∈Q,q'.length=q.length/\(∀i,i < q.length->i∉FR->gI q' i=gI q i)/\∀i,i∈FR->i < q.length->∃n:Nat,n<=g/\gI q' i=n
 | [],Q,q'=>by
  unfold eT;constructor
  ·intro h;exact⟨q',h,rfl,λ_ _ _=>rfl,by simp⟩
  ·rintro⟨q,hq,h1,h2,_⟩;rw[kg h1 λi hi=>h2 i (by lia) (by simp)];exact hq
 | p::FR,Q,q'=>by
  unfold eT;rw[iM];constructor
  ·rintro⟨q1,ET,h1,h2,h3⟩;obtain⟨q,hq,h⟩:=List.mem_flatMap.mp ET;obtain⟨n,hn,rfl⟩:=PY.mp h;have hn:=Qd.mp hn;rw[List.length_set] at h1 h2 h3;refine⟨q,hq,h1,λi hi oX=>?_,λi hi hl=>?_⟩
   ·rw[Pq,not_or] at oX;rw[h2 i hi oX.2,bz oX.1]
   ·by_cases e:i∈FR
    ·exact h3 i e hl
    ·have:i=p:=(Pq.mp hi).resolve_right e;subst this;exact⟨n,by lia,by rw[h2 i hl e,bL hl]⟩
  ·rintro⟨q,hq,h1,h2,h3⟩;by_cases hp:p < q.length
   ·obtain⟨n,hn,en⟩:=h3 p Pk hp;refine⟨q.set p n,List.mem_flatMap.mpr ⟨q,hq,PY.mpr ⟨n,Qd.mpr (by lia),rfl⟩⟩,by rw[List.length_set];exact h1,?_,?_⟩
    ·rw[List.length_set];intro i hi oX;by_cases e:i=p
     ·rw[e,en,bL hp]
     ·rw[bz e];exact h2 i hi (by rw[Pq,not_or];exact⟨e,oX⟩)
    ·rw[List.length_set];exact λi hi hl=>h3 i (Ph _ hi) hl
   ·refine⟨q.set p (0:Nat),List.mem_flatMap.mpr ⟨q,hq,PY.mpr ⟨0,Qd.mpr (by lia),rfl⟩⟩,by rw[List.length_set];exact h1,?_,?_⟩
    ·rw[List.length_set];intro i hi oX;rw[bz (by lia)];exact h2 i hi (by rw[Pq,not_or];exact⟨by lia,oX⟩)
    ·rw[List.length_set];exact λi hi hl=>h3 i (Ph _ hi) hl
noncomputable def bp (m:Nat) (PS:List (Nat×List Int)):List Nat:=(List.range m).filter λp=> !decide (p∈PS.map (·.1))
noncomputable def u9 (m g:Nat) (PS:List (Nat×List Int)):List (List Int):=(eT g (bp m PS) [List.replicate m 0]).filterMap λq=>bP q PS q
theorem jn {x:List Int} {m:Nat} (h:x.length=m):gI (x++[-1]) m= -1:=by subst h;simp[gI]
theorem fS (m i:Nat):gI (List.replicate m 0) i=0:=by simp only[gI,List.getD,List.getElem?_replicate];split <;> rfl
theorem Sq.goal {m:Nat} {L0:List (List Int)} {PS:List (Nat×List Int)} {LS:List (List Int)} (h:Sq m m L0 PS LS) {x q:List Int} (hx:x.length=m) (hq:q.length=m) (h1:∀i,i < m->i∉PS.map (·.1)->gI x i=gI q i) (h2:∀i,i < m->i∈PS.map (·.1)->gI q i=0):
  ∀z∈PS,ag z.2 (x++[-1])=gI z.2 z.1 * gI x z.1 - cu z.2 q:=λz hz=>by
 obtain⟨z1,z2,z3⟩:=h.st.pl z hz;have e:=je (l:=z.2) (x:=x++[-1]) (q:=q++[-1]) (p:=z.1) (by simp[hx,hq]) (by simp[hx];lia) (by simp[hx,z2]) λi hi dD=>by
  have hi:i < m + 1:=by simpa [hx] using hi
  by_cases i7:i=m
  ·rw[i7,jn hx,jn hq]
  ·rw[bI (by lia),bI (by lia)];by_cases hp:i∈PS.map (·.1)
   ·obtain⟨z',Oe,e⟩:=PY.mp hp;have e:z'.1=i:=e;rw[<-e,h.pz z hz z' Oe (by rw[e];exact dD),Int.zero_mul,Int.zero_mul]
   ·rw[h1 i (by lia) hp]
 rw[e,bI (by lia),bI (by lia),h2 z.1 (by lia) (PY.mpr ⟨z,hz,rfl⟩)];unfold cu;rw[Int.sub_zero]
 lia
theorem Aa {m g:Nat} {L0:List (List Int)} {PS:List (Nat×List Int)} {LS:List (List Int)} (h:Sq m m L0 PS LS) {x:List Int}:
  x∈u9 m g PS↔x.length=m/\(∀i,i < m->0<=gI x i)/\(∀z∈PS,ag z.2 (x++[-1])=0)/\∀i∈bp m PS,gI x i<=g:=by
 unfold u9;rw[List.mem_filterMap];have jL:∀i,i∈bp m PS↔i < m/\i∉PS.map (·.1):=λi=>by unfold bp;rw[List.mem_filter,Qd];simp
 constructor
 ·rintro⟨q,hq,hc⟩;obtain⟨q0,h0,h1,h2,h3⟩:=iM.mp hq;rw[PX] at h0;subst h0;rw[List.length_replicate] at h1 h2 h3;obtain⟨k1,k2,k3⟩:=(kb h.st.nd λz hz=>⟨by rw[h1];exact(h.st.pl z hz).1,(h.st.pl z hz).2.2⟩).mp hc;rw[h1] at k1 k2;have qz:∀i,i < m->i∈PS.map (·.1)->gI q i=0:=λi hi hp=>by rw[h2 i hi λz=>((jL i).mp z).2 hp,fS]
  refine⟨k1,λi hi=>?_,λz hz=>?_,λi hi=>?_⟩
  ·by_cases hp:i∈PS.map (·.1)
   ·obtain⟨z,hz,rfl⟩:=PY.mp hp;exact(k3 z hz).2
   ·obtain⟨n,_,e⟩:=h3 i ((jL i).mpr ⟨hi,hp⟩) hi;rw[k2 i hi hp,e]
    lia
  ·rw[h.goal k1 h1 k2 qz z hz,(k3 z hz).1,Int.sub_self]
  ·obtain⟨i7,hp⟩:=(jL i).mp hi;obtain⟨n,hn,e⟩:=h3 i hi i7;rw[k2 i i7 hp,e]
   lia
 ·rintro⟨h1,h2,h3,h4⟩
  let q:=(List.range m).map λi=>if i∈PS.map (·.1) then 0 else gI x i
  have lq:q.length=m:=by simp[q]
  have gq:∀i,i < m->gI q i=if i∈PS.map (·.1) then 0 else gI x i:=λi hi=>by simp only[q,gI,List.getD,Py,List.getElem?_range hi];rfl
  have q1:∀i,i < m->i∉PS.map (·.1)->gI x i=gI q i:=λi hi hp=>by rw[gq i hi,if_neg hp]
  have q2:∀i,i < m->i∈PS.map (·.1)->gI q i=0:=λi hi hp=>by rw[gq i hi,if_pos hp]
  refine⟨q,iM.mpr ⟨_,PX.mpr rfl,by rw[lq,List.length_replicate],λi hi oX=>?_,λi hi hl=>?_⟩,(kb h.st.nd λz hz=>⟨by rw[lq];exact(h.st.pl z hz).1,(h.st.pl z hz).2.2⟩).mpr ⟨by rw[lq,h1],λi hi hp=>q1 i (by lia) hp,λz hz=>⟨?_,h2 z.1 (h.st.pl z hz).1⟩⟩⟩
  ·rw[List.length_replicate] at hi;rw[fS];by_cases hp:i∈PS.map (·.1)
   ·exact q2 i hi hp
   ·exact absurd ((jL i).mpr ⟨hi,hp⟩) oX
  ·obtain⟨i7,hp⟩:=(jL i).mp hi;have:=h2 i i7;have:=h4 i hi;exact⟨(gI x i).toNat,by lia,by rw[<-q1 i i7 hp];lia⟩
  ·have:=h3 z hz;rw[h.goal h1 lq q1 q2 z hz] at this
   lia
noncomputable def dH (a b:List Int):Bool:=(a.zip b).all λq=>decide (q.1<=q.2)
noncomputable def cO (a:List Int) (F:List (List Int)):Bool:=F.any λf=>dH f a
noncomputable def aR:List (List Int)->List (List Int)->List (List Int)
 | [],F=>F
 | q::Q,F=>aR Q (if (decide (0 < q.sum)&& !cO q F)=true then F++[q] else F)
noncomputable def iW (Q:List (List Int)):List (List Int):=(dY (Q.map dI)).map HS
noncomputable def ltI (a b:List Int):Bool:=Mx.D.dc (a.map Mx.D.int) (b.map Mx.D.int)
theorem p9 (x y:Int) (a b:List Int):dH (x::a) (y::b)=(decide (x<=y)&&dH a b):=rfl
theorem d4:∀{a b:List Int},a.length=b.length->(dH a b=true↔∀i,i < a.length->gI a i<=gI b i)
 | [],[],_=>⟨λ_ i hi=>by simp at hi,λ_=>rfl⟩
 | x::a,y::b,h=>by
  have ih:=d4 (a:=a) (b:=b) (by simpa using h);rw[p9,Pd,decide_eq_true_eq,ih];constructor
  ·rintro⟨h1,h2⟩ i hi;cases i with
   | zero=>exact h1
   | succ i=>rw[aF,aF];exact h2 i (by simpa using hi)
  ·intro h;exact⟨h 0 (by simp),λi hi=>by have:=h (i + 1) (by simpa using hi);rwa [aF,aF] at this⟩
 | [],_::_,h=>by simp at h
 | _::_,[],h=>by simp at h
theorem k9 (a:List Int):dH a a=true:=(d4 rfl).mpr λ_ _=>Int.le_refl _
theorem vf {a b c:List Int} (h1:a.length=b.length) (h2:b.length=c.length) (k1:dH a b=true) (k2:dH b c=true):dH a c=true:=
 (d4 (h1.trans h2)).mpr λi hi=>Int.le_trans ((d4 h1).mp k1 i hi) ((d4 h2).mp k2 i (by lia))
theorem pv (x y:Int) (a b:List Int):ltI (x::a) (y::b)=if x=y then ltI a b else decide (x < y):=by
 show Mx.D.dc (.int x::a.map Mx.D.int) (.int y::b.map Mx.D.int)=_;rw[Mx.D.c7];by_cases h:x=y
 ·rw[if_pos (by rw[h]),if_pos h];rfl
 ·rw[if_neg (λz=>h (by injection z)),if_neg h];simp[Mx.D.lt]
theorem tY:∀{a b:List Int},a.length=b.length->dH a b=true->ltI b a=false
 | [],[],_,_=>by simp[ltI,Mx.D.dc]
 | x::a,y::b,h,u=>by
  rw[p9,Pd,decide_eq_true_eq] at u;rw[pv];by_cases e:y=x
  ·rw[if_pos e];exact tY (by simpa using h) u.2
  ·rw[if_neg e];exact PJ (by lia)
 | [],_::_,h,_=>by simp at h
 | _::_,[],h,_=>by simp at h
theorem tj:∀{a b:List Int},a.length=b.length->ltI a b=false->ltI b a=false->a=b
 | [],[],_,_,_=>rfl
 | x::a,y::b,h,h1,h2=>by
  rw[pv] at h1 h2;by_cases e:x=y
  ·rw[if_pos e] at h1;rw[if_pos e.symm] at h2;rw[e,tj (by simpa using h) h1 h2]
  ·rw[if_neg e] at h1;rw[if_neg (Ne.symm e)] at h2;have:=of_decide_eq_false h1;have:=of_decide_eq_false h2
   lia
 | [],_::_,h,_,_=>by simp at h
 | _::_,[],h,_,_=>by simp at h
theorem nT {Q:List (List Int)} {q:List Int}:q∈iW Q↔q∈Q:=by
 unfold iW;rw[PY];constructor
 ·rintro⟨d,hd,rfl⟩;obtain⟨q,hq,rfl⟩:=PY.mp (gu.mp hd);rwa [p8]
 ·intro h;exact⟨dI q,gu.mpr (PY.mpr ⟨q,h,rfl⟩),p8 q⟩
theorem rf (Q:List (List Int)):(iW Q).Pairwise λa b=>ltI b a=false:=by
 unfold iW;rw[List.pairwise_map];refine List.Pairwise.imp_of_mem ?_ (nS (Q.map dI));intro a b ha hb h;obtain⟨p,_,rfl⟩:=PY.mp (gu.mp ha);obtain⟨q,_,rfl⟩:=PY.mp (gu.mp hb);rw[p8,p8];have h:(!Mx.D.lt (dI q) (dI p))=true:=h;unfold ltI;have e:Mx.D.lt (dI q) (dI p)=Mx.D.dc (q.map Mx.D.int) (p.map Mx.D.int):=by unfold dI Mx.D.lt;rfl
 rw[e] at h;simpa using h
theorem Aq {a:List Int} {F G:List (List Int)} (h:cO a F=true):cO a (F++G)=true:=by unfold cO at *;rw[List.any_append,h,Bool.true_or]
theorem mq:∀{Q F:List (List Int)},∃t,aR Q F=F++t
 | [],F=>⟨[],by simp[aR]⟩
 | q::Q,F=>by
  unfold aR;obtain⟨t,e⟩:=mq (Q:=Q) (F:=if (decide (0 < q.sum)&& !cO q F)=true then F++[q] else F);rw[e];split
  ·exact⟨[q]++t,by simp⟩
  ·exact⟨t,rfl⟩
theorem ml:∀{Q F:List (List Int)} {f:List Int},f∈aR Q F->f∈F\/(f∈Q/\0 < f.sum)
 | [],F,f,h=> .inl h
 | q::Q,F,f,h=>by
  unfold aR at h;rcases ml h with h | ⟨h1,h2⟩
  ·split at h
   ·rename_i hc;rcases PD.mp h with h | h
    ·exact .inl h
    ·rw[PX] at h;subst h;rw[Pd,decide_eq_true_eq] at hc;exact .inr ⟨Pk,hc.1⟩
   ·exact .inl h
  ·exact .inr ⟨Ph _ h1,h2⟩
theorem mn:∀{Q F:List (List Int)} {q:List Int},q∈Q->0 < q.sum->cO q (aR Q F)=true
 | [],F,q,h,_=>by cases h
 | p::Q,F,q,h,h0=>by
  unfold aR;rcases Pq.mp h with rfl | h
  ·obtain⟨t,e⟩:=mq (Q:=Q) (F:=if (decide (0 < q.sum)&& !cO q F)=true then F++[q] else F);rw[e];refine Aq ?_;rw[PN h0,Bool.true_and];cases ho:cO q F with
   | true=>exact ho
   | false=>show cO q (F++[q])=true;unfold cO;rw[List.any_append];simp[k9]
  ·exact mn h h0
noncomputable def y7 (a b:List Int):Prop:=ltI a b=true/\dH a b=false/\dH b a=false
theorem C6 {a b:List Int} (hl:a.length=b.length) (h1:ltI b a=false) (h2:dH a b=false):y7 a b:=by
 have h3:ltI a b=true:=by
  cases h:ltI a b with
  | true=>rfl
  | false=>have:=tj hl h h1;rw[this,k9] at h2;cases h2
 refine⟨h3,h2,?_⟩;cases h:dH b a with
 | false=>rfl
 | true=>rw[tY hl.symm h] at h3;cases h3
theorem iI {m:Nat}:∀{Q F:List (List Int)},(∀q∈Q,q.length=m)->(∀f∈F,f.length=m)->Q.Pairwise (λa b=>ltI b a=false)->(∀f∈F,∀q∈Q,ltI q f=false)->F.Pairwise y7->(aR Q F).Pairwise y7
 | [],F,_,_,_,_,h=>h
 | q::Q,F,hQ,hF,hs,hc,h=>by
  rw[List.pairwise_cons] at hs;unfold aR;refine iI (λz hz=>hQ z (Ph _ hz)) ?_ hs.2 ?_ ?_
  ·intro f hf;split at hf
   ·rcases PD.mp hf with hf | hf
    ·exact hF f hf
    ·rw[PX] at hf;subst hf;exact hQ f Pk
   ·exact hF f hf
  ·intro f hf z hz;split at hf
   ·rcases PD.mp hf with hf | hf
    ·exact hc f hf z (Ph _ hz)
    ·rw[PX] at hf;subst hf;exact hs.1 z hz
   ·exact hc f hf z (Ph _ hz)
  ·split
   ·rename_i hq;rw[Pd] at hq;have ho:cO q F=false:=by simpa using hq.2
    unfold cO at ho;rw[List.any_eq_false] at ho;rw[List.pairwise_append];refine⟨h,List.pairwise_singleton ..,λa ha b hb=>?_⟩;rw[PX] at hb;subst hb;exact C6 (by rw[hF a ha,hQ b Pk]) (hc a ha b Pk) (by simpa using ho a ha)
   ·exact h
noncomputable def unit (m i:Nat):List Int:=(List.replicate m 0).set i 1
theorem dJ (m i:Nat):(unit m i).length=m:=by simp[unit]
theorem iX {m i j:Nat} (h:i < m):gI (unit m i) j=if j=i then 1 else 0:=by
 unfold unit;by_cases e:j=i
 ·rw[if_pos e,e,bL (by simpa using h)]
 ·rw[if_neg e,bz e,fS]
theorem gi {l:List Int} {m i:Nat} {v:Int} (hl:l.length=m) (h:i < m) (x:List Int) (hx:x.length=m):ag l (x.set i v)=ag l x + gI l i * (v - gI x i):=by
 have:=je (l:=l) (x:=x.set i v) (q:=x) (p:=i) (by simp) (by simp[hx,h]) (by simp[hx,hl]) λj hj dD=>by rw[bz dD]
 rw[this,bL (by lia)]
theorem dz (l:List Int):∀m,ag l (List.replicate m 0)=0:=by
 induction l with
 | nil=>intro m;rfl
 | cons a l ih=>
  intro m;cases m with
  | zero=>rfl
  | succ m=>rw[List.replicate_succ,aA,ih];lia
theorem jf {l:List Int} {m i:Nat} (hl:l.length=m) (h:i < m):ag l (unit m i)=gI l i:=by
 unfold unit;rw[gi hl h _ (by simp),dz,fS]
 lia
theorem jU:∀{y:List Int},(∀i,i < y.length->0<=gI y i)->(∃i,i < y.length/\0 < gI y i)->0 < y.sum
 | [],_,⟨i,hi,_⟩=>by simp at hi
 | a::y,h,⟨i,hi,hp⟩=>by
  have ha:0<=a:=h 0 (by simp);have hy:∀i,i < y.length->0<=gI y i:=λi hi=>by have:=h (i + 1) (by simpa using hi);rwa [aF] at this
  have ns:∀{y:List Int},(∀i,i < y.length->0<=gI y i)->0<=y.sum:=by
   intro y
   induction y with
   | nil=>intro _;simp
   | cons b y ih=>
    intro h;have:=h 0 (by simp);have hb:0<=b:=this;have:=ih λi hi=>by have:=h (i + 1) (by simpa using hi);rwa [aF] at this
    rw[List.sum_cons];lia
  rw[List.sum_cons];cases i with
  | zero=>have:0 < a:=hp;have:=ns hy;lia
  | succ i=>have:=jU hy ⟨i,by simpa using hi,by rwa [aF] at hp⟩;lia
theorem sum_set {x:List Int} {i:Nat} (h:i < x.length) (v:Int):(x.set i v).sum=x.sum + (v - gI x i):=by
 induction x generalizing i with
 | nil=>simp at h
 | cons a x ih=>
  cases i with
  | zero=>rw[List.set_cons_zero,List.sum_cons,List.sum_cons];show _=_ + (v - a);lia
  | succ i=>rw[List.set_cons_succ,List.sum_cons,List.sum_cons,ih (by simpa using h),aF];lia
theorem pN {t:Nat}:∀{l x:List Int},(∀z∈l,z.natAbs<=t)->(∀i,i < x.length->0<=gI x i)->x.length<=l.length->((ag l x).natAbs:Int)<=t * x.sum
 | _,[],_,_,_=>by rw[q5];simp
 | [],a::x,_,_,h=>by simp at h
 | b::l,a::x,h1,h2,h3=>by
  have ha:0<=a:=h2 0 (by simp);have ih:=pN (t:=t) (l:=l) (x:=x) (λz hz=>h1 z (Ph _ hz)) (λi hi=>by have:=h2 (i + 1) (by simpa using hi);rwa [aF] at this) (by simpa using h3);rw[aA,List.sum_cons];have e1:=Int.natAbs_add_le (b * a) (ag l x);have e2:((b * a).natAbs:Int)=b.natAbs * a:=by
   have:(a.natAbs:Int)=a:=by lia
   rw[Int.natAbs_mul,Int.natCast_mul,this]
  have e3:(b.natAbs:Int) * a<=t * a:=Int.mul_le_mul_of_nonneg_right (by have:=h1 b Pk;lia) ha;have e4:(t:Int) * (a + x.sum)=t * a + t * x.sum:=Int.mul_add ..
  lia
theorem cN (a b:Int):a < b\/b<=a:=by lia
noncomputable def zc (M:List (List Int)):List Int:=M.flatMap λq=>q.map λx=>(x.natAbs:Int)
noncomputable def bJ (M:List (List Int)):Int:=de (zc M)
noncomputable def fz (s f:Nat) (top goal:Int):Int:=if s=0 then 1 else([1,2 * top,4 * top * top,0]:List Int).getD (s - 1) 0 * (goal + f * top)
theorem eU (M:List (List Int)):rowsOf M (List.replicate M.length 0)=M.map λq=>q++[0]:=by
 unfold rowsOf
 induction M with
 | nil=>rfl
 | cons q M ih=>rw[Px,List.replicate_succ,List.zip_cons_cons,Qa,Qa,ih]
theorem bf {M:List (List Int)} {x:List Int}:fJ M (List.replicate M.length 0) x↔∀q∈M,ag q x=0:=by
 unfold fJ
 induction M with
 | nil=>simp
 | cons q M ih=>rw[Px,List.replicate_succ,List.zip_cons_cons];simp only[List.forall_mem_cons];rw[ih]
theorem two {D e u t:Int} (hD:D≠0) (hu:0<=u) (ht:(D.natAbs:Int)<=t) (h:D * u + e * t=0):∃y,0<=y/\y<=u/\D * y + e * D.natAbs=0:=by
 rcases Int.lt_or_gt_of_ne hD with h0 | h0
 ·have en:(D.natAbs:Int)= -D:=by lia
  rw[en] at ht ⊢;have t0:0 < t:=by lia
  have h1:D * u<=0:=Int.mul_nonpos_of_nonpos_of_nonneg (by lia) hu;have e0:0<=e:=by
   rcases cN e 0 with z | z
   ·have:=Int.mul_neg_of_neg_of_pos z t0;lia
   ·exact z
  refine⟨e,e0,?_,by rw[Int.mul_neg,Int.mul_comm D e];lia⟩;have h2:e * (-D)<=e * t:=Int.mul_le_mul_of_nonneg_left ht e0;have h3:u * (-D)= - (D * u):=by rw[Int.mul_neg,Int.mul_comm]
  exact Int.le_of_mul_le_mul_right (a:= -D) (by lia) (by lia)
 ·have en:(D.natAbs:Int)=D:=by lia
  rw[en] at ht ⊢;have t0:0 < t:=by lia
  have h1:0<=D * u:=Int.mul_nonneg (by lia) hu;have e0:e<=0:=by
   rcases cN 0 e with z | z
   ·have:=Int.mul_pos z t0;lia
   ·exact z
  refine⟨-e,by lia,?_,by rw[Int.mul_neg,Int.mul_comm D e];lia⟩;have h2:(-e) * D<=(-e) * t:=Int.mul_le_mul_of_nonneg_left ht (by lia);have h3:(-e) * t= - (e * t):=Int.neg_mul ..;have h4:u * D=D * u:=Int.mul_comm ..;exact Int.le_of_mul_le_mul_right (a:=D) (by lia) h0
theorem KU {k:Nat} {ai xi ρ:Int} {t G:Int} (hi:ai≠0) (ht:(ai.natAbs:Int)<=t) (hρ:(ρ.natAbs:Int)<=G) (hx:G + k * t < xi) {L:List (Int×Int)} (hk:L.length<=k) (hL:∀p∈L,(p.1.natAbs:Int)<=t/\0<=p.2) (h:ai * xi + (L.map λp=>p.1 * p.2).sum=ρ):
  ∃p∈L,ai * p.1 < 0/\(ai.natAbs:Int)<=p.2:=by
 refine Classical.byContradiction λhn=>?_
 have key:∀(σ:Int),σ * ai=ai.natAbs->(σ=1\/σ= -1)->∀p∈L,- (t * (ai.natAbs - 1))<=σ * (p.1 * p.2):=by
  intro σ hσ hs p hp;obtain⟨p1,p2⟩:=hL p hp;have a1:1<=ai.natAbs:=by lia
  have tn:0<=t * ((ai.natAbs:Int) - 1):=Int.mul_nonneg (by lia) (by lia);rcases cN (σ * p.1) 0 with Gd | wW
  ·have IR:ai * p.1 < 0:=by
    rcases hs with rfl | rfl
    ·have:0 < ai:=by lia
     exact Int.mul_neg_of_pos_of_neg this (by lia)
    ·have:ai < 0:=by lia
     exact Int.mul_neg_of_neg_of_pos this (by lia)
   have cJ:p.2<=(ai.natAbs:Int) - 1:=by
    rcases cN p.2 ai.natAbs with z | z
    ·lia
    ·exact absurd ⟨p,hp,IR,z⟩ hn
   have e1:σ * (p.1 * p.2)= - ((p.1.natAbs:Int) * p.2):=by
    rw[<-Int.mul_assoc];have:σ * p.1= - (p.1.natAbs:Int):=by rcases hs with rfl | rfl <;> lia
    rw[this,Int.neg_mul]
   have e2:(p.1.natAbs:Int) * p.2<=t * (ai.natAbs - 1):=Int.mul_le_mul p1 cJ p2 (by lia)
   lia
  ·have:0<=σ * (p.1 * p.2):=by rw[<-Int.mul_assoc];exact Int.mul_nonneg wW p2
   lia
 obtain⟨σ,hσ,hs⟩:∃σ:Int,σ * ai=ai.natAbs/\(σ=1\/σ= -1):=by
  rcases Int.lt_or_gt_of_ne hi with z | z
  ·exact⟨-1,by lia,.inr rfl⟩
  ·exact⟨1,by lia,.inl rfl⟩
 have sm:∀L:List (Int×Int),(∀p∈L,- (t * (ai.natAbs - 1))<=σ * (p.1 * p.2))-> - ((L.length:Int) * (t * (ai.natAbs - 1)))<=σ * (L.map λp=>p.1 * p.2).sum:=by
  intro L
  induction L with
  | nil=>intro _;simp
  | cons p L ih=>
   intro h;have h1:=ih λq hq=>h q (Ph _ hq)
   have h2:=h p Pk;rw[Qa,List.sum_cons,Int.mul_add,Px];have:((L.length + 1:Nat):Int) * (t * (ai.natAbs - 1))=L.length * (t * (ai.natAbs - 1)) + t * (ai.natAbs - 1):=by rw[Int.natCast_add,Int.add_mul];simp
   lia
 have h1:=sm L (key σ hσ hs);have h2:σ * (ai * xi) + σ * (L.map λp=>p.1 * p.2).sum=σ * ρ:=by rw[<-Int.mul_add,h]
 have h3:σ * (ai * xi)=ai.natAbs * xi:=by rw[<-Int.mul_assoc,hσ]
 have h8:σ * ρ<=G:=by rcases hs with rfl | rfl <;> lia
 have a1:(1:Int)<=ai.natAbs:=by lia
 have tn:0<=t * ((ai.natAbs:Int) - 1):=Int.mul_nonneg (by lia) (by lia);have h4:(L.length:Int) * (t * (ai.natAbs - 1))<=k * (t * (ai.natAbs - 1)):=Int.mul_le_mul_of_nonneg_right (by lia) tn;have h5:(ai.natAbs:Int) * (G + k * t + 1)<=ai.natAbs * xi:=Int.mul_le_mul_of_nonneg_left (by lia) (by lia);have h6:(ai.natAbs:Int) * (G + k * t + 1)=ai.natAbs * G + k * (t * (ai.natAbs - 1)) + k * t + ai.natAbs:=by grind
 have h7:0<=(k:Int) * t:=Int.mul_nonneg (by lia) (by lia);have h9:(1:Int) * G<=ai.natAbs * G:=Int.mul_le_mul_of_nonneg_right a1 (by lia)
 lia
theorem kO:∀{a x:List Int} {i:Nat},i < a.length->i < x.length->gI a i * gI x i + (((a.zip x).eraseIdx i).map λp=>p.1 * p.2).sum=ag a x
 | [],_,_,h,_=>by simp at h
 | _::_,[],_,_,h=>by simp at h
 | u::a,v::x,0,_,_=>rfl
 | u::a,v::x,i + 1,h1,h2=>by
  have ih:=kO (a:=a) (x:=x) (i:=i) (by simpa using h1) (by simpa using h2);rw[aF,aF,List.zip_cons_cons,List.eraseIdx_cons_succ,Qa,List.sum_cons,aA,<-ih];show _ + (u * v + _)=_
  lia
theorem AM {m:Nat} {a x:List Int} {t ρ G:Int} (hl:a.length=m) (hx:x.length=m) (hn:∀i,i < m->0<=gI x i) (ht:∀z∈a,(z.natAbs:Int)<=t) (hρ:(ρ.natAbs:Int)<=G) (hs:ag a x=ρ) {i:Nat} (hi:i < m) (h0:gI a i≠0) (fA:G + ((m - 1:Nat):Int) * t < gI x i):
  ∃j,j < m/\j≠i/\gI a i * gI a j < 0/\((gI a i).natAbs:Int)<=gI x j:=by
 have hz:(a.zip x).length=m:=by rw[List.length_zip];lia
 have mem:∀p∈(a.zip x).eraseIdx i,∃j,j < m/\j≠i/\p=(gI a j,gI x j):=λp hp=>by obtain⟨j,hj,e⟩:=List.mem_eraseIdx_iff_getElem?.mp hp;rw[List.getElem?_zip_eq_some] at e;have h1:=(Pg.mp e.1).1;refine⟨j,by lia,hj,?_⟩;have e1:=get_gI' h1;have e2:=get_gI' (l:=x) (k:=j) (by lia);rw[e1] at e;rw[e2] at e;have q1:=Option.some.inj e.1;have q2:=Option.some.inj e.2;rw[q1,q2]
 obtain⟨p,hp,k1,k2⟩:=KU (k:=m - 1) (t:=t) (G:=G) h0 (ht _ (cM (by lia))) hρ fA (L:=(a.zip x).eraseIdx i) (by rw[List.length_eraseIdx_of_lt (by lia),hz];lia) (λp hp=>by
  obtain⟨j,hj,_,rfl⟩:=mem p hp;exact⟨ht _ (cM (by lia)),hn j hj⟩) (by rw[kO (by lia) (by lia),hs])
 obtain⟨j,hj,dD,rfl⟩:=mem p hp;exact⟨j,hj,dD,k1,k2⟩
where
 get_gI' {l:List Int} {k:Nat} (h:k < l.length):l[k]?=some (gI l k):=by simp[gI,List.getD,h]
theorem uV {u v:Int} (h:u * v < 0):u * (v.natAbs:Int) + v * (u.natAbs:Int)=0:=by
 have hu:u≠0:=λz=>by rw[z,Int.zero_mul] at h;lia
 rcases Int.lt_or_gt_of_ne hu with z | z
 ·have w:0 < v:=by
   rcases cN 0 v with w | w
   ·exact w
   ·have:=Int.mul_nonneg_of_nonpos_of_nonpos (Int.le_of_lt z) w;lia
  have e1:(v.natAbs:Int)=v:=by lia
  have e2:(u.natAbs:Int)= - u:=by lia
  rw[e1,e2];grind
 ·have w:v < 0:=by
   rcases cN v 0 with w | w
   ·exact w
   ·have:=Int.mul_nonneg (Int.le_of_lt z) w;lia
  have e1:(v.natAbs:Int)= - v:=by lia
  have e2:(u.natAbs:Int)=u:=by lia
  rw[e1,e2];grind
noncomputable def t7 (m:Nat) (PS:List (Nat×List Int)) (g:Int) (x:List Int):Prop:=
 ∃y:List Int,y.length=m/\(∀i,i < m->0<=gI y i)/\dH y x=true/\0 < y.sum/\(∀z∈PS,ag z.2 (y++[-1])=0)/\∀i∈bp m PS,gI y i<=g
theorem iL {m i:Nat} {PS:List (Nat×List Int)}:i∈bp m PS↔i < m/\i∉PS.map (·.1):=by unfold bp;rw[List.mem_filter,Qd];simp
theorem jd {m i:Nat} {PS:List (Nat×List Int)} {g:Int} {x:List Int} (hx:x.length=m) (hn:∀i,i < m->0<=gI x i) (hi:i < m) (hg:1<=g) (fA:g < gI x i) (h:∀z∈PS,ag z.2 (unit m i++[-1])=0):t7 m PS g x:=by
 refine⟨unit m i,dJ m i,λj hj=>?_,(d4 (by rw[dJ,hx])).mpr λj hj=>?_,jU (λj hj=>?_) ⟨i,by rw[dJ];exact hi,?_⟩,h,λj hj=>?_⟩
 ·rw[iX hi];split <;> lia
 ·rw[dJ] at hj;rw[iX hi];have:=hn j hj;split
  ·rename_i e;rw[e];lia
  ·lia
 ·rw[iX hi];split <;> lia
 ·rw[iX hi,if_pos rfl];decide
 ·rw[iX hi];split <;> lia
theorem uR {m i j:Nat} {PS:List (Nat×List Int)} {g:Int} {x:List Int} {u v:Int} (hx:x.length=m) (hn:∀i,i < m->0<=gI x i) (hi:i < m) (hj:j < m) (fE:i≠j) (u0:0 < u) (v0:0<=v) (ug:u<=g) (vg:v<=g) (fA:u<=gI x i) (Kz:v<=gI x j) (h:∀z∈PS,ag z.2 (((List.replicate m 0).set i u).set j v++[-1])=0):t7 m PS g x:=by
 have at':∀k,k < m->gI (((List.replicate m 0).set i u).set j v) k=if k=j then v else if k=i then u else 0:=λk hk=>by
  by_cases e:k=j
  ·rw[if_pos e,e,bL (by simpa using hj)]
  ·rw[if_neg e,bz e];by_cases e2:k=i
   ·rw[if_pos e2,e2,bL (by simpa using hi)]
   ·rw[if_neg e2,bz e2,fS]
 have ln:(((List.replicate m 0).set i u).set j v).length=m:=by simp
 have nn:∀k,k < m->0<=gI (((List.replicate m 0).set i u).set j v) k:=λk hk=>by
  rw[at' k hk];split
  ·exact v0
  ·split <;> lia
 refine⟨_,ln,nn,(d4 (by rw[ln,hx])).mpr λk hk=>?_,jU (λk hk=>nn k (by lia)) ⟨i,by rw[ln];exact hi,?_⟩,h,λk hk=>?_⟩
 ·rw[ln] at hk;rw[at' k hk];have:=hn k hk;split
  ·rename_i e;rw[e];exact Kz
  ·split
   ·rename_i e;rw[e];exact fA
   ·exact this
 ·rw[at' i hi,if_neg fE,if_pos rfl];exact u0
 ·rw[at' k (iL.mp hk).1];split
  ·exact vg
  ·split <;> lia
theorem z9 {l:List Int} {x:Int} (h:x∈l):x<=de l:=(cw l (λe=>by rw[e] at h;cases h)).2 x h
theorem k7 {M:List (List Int)} {q:List Int} {z:Int} (hq:q∈M) (hz:z∈q):(z.natAbs:Int)<=bJ M:=z9 (List.mem_flatMap.mpr ⟨q,hq,PY.mpr ⟨z,hz,rfl⟩⟩)
theorem rm {M:List (List Int)} {t:Int} (h:∀q∈M,∀z∈q,(z.natAbs:Int)<=t) (ht:0<=t):bJ M<=t:=by
 unfold bJ;by_cases e:zc M=[]
 ·rw[e];exact ht
 ·obtain⟨q,hq,h'⟩:=List.mem_flatMap.mp (cw _ e).1;obtain⟨x,hx,ex⟩:=PY.mp h';rw[<-ex];exact h q hq x hx
theorem GA {l:List Int} (h:l.length=3):∃a b c,l=[a,b,c]:=by
 match l,h with
 | [a,b,c],_=>exact⟨a,b,c,rfl⟩
section
variable {m:Nat} {x:List Int}
theorem xC (hm:2<=m) {p:Nat} {a:List Int} (hl:a.length=m) {t:Int} (ht:∀z∈a,(z.natAbs:Int)<=t) (t1:1<=t) (hx:x.length=m) (hn:∀i,i < m->0<=gI x i) (hs:ag a x=0) {i:Nat} (hi:i < m) (fA:((m - 1:Nat):Int) * t < gI x i):t7 m [(p,a++[0])] (((m - 1:Nat):Int) * t) x:=by
 have zN:t<=((m - 1:Nat):Int) * t:=by
  have:(1:Int) * t<=((m - 1:Nat):Int) * t:=Int.mul_le_mul_of_nonneg_right (by lia) (by lia)
  lia
 by_cases h0:gI a i=0
 ·refine jd hx hn hi (by lia) fA λz hz=>?_
  rw[PX] at hz;subst hz;show ag (a++[0]) (unit m i++[-1])=0;rw[cC _ (by rw[dJ,hl]),jf hl hi,h0];rfl
 obtain⟨j,hj,dD,IR,Kz⟩:=AM (G:=0) hl hx hn ht (by decide) hs hi h0 (by lia);have aj:=ht _ (cM (by lia:j < a.length));have ai:=ht _ (cM (by lia:i < a.length));have j0:gI a j≠0:=λz=>by rw[z,Int.mul_zero] at IR;lia
 refine uR (i:=i) (j:=j) (u:=(gI a j).natAbs) (v:=(gI a i).natAbs) hx hn hi hj (Ne.symm dD) (by lia) (by lia) (by lia) (by lia) (by lia) Kz λz hz=>?_
 rw[PX] at hz;subst hz;show ag (a++[0]) _=0;rw[cC _ (by simp[hl]),gi hl hj _ (by simp),gi hl hi _ (by simp),dz,bz dD,fS,fS];have:=uV IR
 grind
theorem xg {a:List Int} {m:Nat} (h:a.length=m):gI (a++[0]) m=0:=by subst h;simp[gI]
theorem BA {l y:List Int} {p q i:Nat} (ll:l.length=4) (l3:gI l 3=0) (ly:y.length=3) (hp:p < 3) (hq:q < 3) (hi:i < 3) (O5:p≠q) (O0:p≠i) (O6:q≠i):ag l (y++[-1])=gI l p * gI y p + gI l q * gI y q + gI l i * gI y i:=by
 obtain⟨a,g,rfl,la,hg⟩:=ja ll;rw[hg] at l3;obtain⟨a0,a1,a2,rfl⟩:=GA la;obtain⟨y0,y1,y2,rfl⟩:=GA ly;rw[cC (l:=[a0,a1,a2]) (x:=[y0,y1,y2]) g rfl,l3,bI hp,bI hq,bI hi];show a0 * y0 + (a1 * y1 + (a2 * y2 + 0)) - 0=_;have h:∀k,k < 3->k=0\/k=1\/k=2:=λk hk=>by lia
 rcases h p hp with rfl | rfl | rfl <;> rcases h q hq with rfl | rfl | rfl <;> rcases h i hi with rfl | rfl | rfl <;> first | lia | (simp[gI];lia)
theorem xD {q1 q2:Nat×List Int} {a b:List Int} {t:Int} (la:a.length=3) (lb:b.length=3) (ha:∀z∈a,(z.natAbs:Int)<=t) (hb:∀z∈b,(z.natAbs:Int)<=t) (hp:q1.1 < q2.1) (yT:q2.1 < 3) (hs:gI a q1.1≠0) (e2:q2.2=bg (b++[0]) q1.1 (a++[0])) (e1:q1.2=bg (a++[0]) q2.1 q2.2) (hd:gI q2.2 q2.1≠0)
  (hx:x.length=3) (hn:∀i,i < 3->0<=gI x i) (h1:ag q1.2 (x++[-1])=0) (h2:ag q2.2 (x++[-1])=0) {i:Nat} (hi:i∈bp 3 [q1,q2]) (fA:2 * t * t < gI x i):t7 3 [q1,q2] (2 * t * t) x:=by
 obtain⟨p1,E1⟩:=q1;obtain⟨p2,E2⟩:=q2;dsimp only at hp yT hs e2 e1 hd h1 h2;obtain⟨F7,oX⟩:=iL.mp hi;simp at oX;have l2:E2.length=4:=by rw[e2,cn (by simp[la,lb])];simp[lb]
 have l1:E1.length=4:=by rw[e1,cn (by simp[la,l2])];simp[la]
 have at2:∀k,k < 3->gI E2 k=gI a p1 * gI b k - gI b p1 * gI a k:=λk hk=>by rw[e2,cm (by simp[la,lb]) (by simp[lb];lia),bI (by lia),bI (by lia),bI (by lia),bI (by lia)]
 have yJ:∀k,k < 3->gI E1 k=gI E2 p2 * gI a k - gI a p2 * gI E2 k:=λk hk=>by rw[e1,cm (by simp[la,l2]) (by simp[la];lia),bI (by lia),bI (by lia)]
 have z2:gI E2 3=0:=by rw[e2,cm (by simp[la,lb]) (by simp[lb]),xg la,xg lb];simp
 have z1:gI E1 3=0:=by rw[e1,cm (by simp[la,l2]) (by simp[la]),z2,xg la];simp
 have P1:=λ {y:List Int} (ly:y.length=3)=>BA (l:=E1) (y:=y) (p:=p1) (q:=p2) (i:=i) l1 z1 ly (by lia) yT F7 (by lia) (by lia) (by lia)
 have P2:=λ {y:List Int} (ly:y.length=3)=>BA (l:=E2) (y:=y) (p:=p1) (q:=p2) (i:=i) l2 z2 ly (by lia) yT F7 (by lia) (by lia) (by lia)
 have JJ:gI E2 p1=0:=by rw[at2 p1 (by lia),Int.mul_comm,Int.sub_self]
 have LQ:gI E1 p2=0:=by rw[yJ p2 yT,Int.mul_comm,Int.sub_self]
 have LP:gI E1 p1=gI a p1 * gI E2 p2:=by rw[yJ p1 (by lia),JJ];grind
 obtain⟨c,LR⟩:∃c,gI E1 i=gI a p1 * c:=⟨gI b p2 * gI a i - gI a p2 * gI b i,by rw[yJ i F7,at2 i F7,at2 p2 yT];grind⟩;have A:∀k,k < 3->(gI a k).natAbs<=t.toNat:=λk hk=>by have:=ha _ (cM (by lia:k < a.length));lia
 have B:∀k,k < 3->(gI b k).natAbs<=t.toNat:=λk hk=>by have:=hb _ (cM (by lia:k < b.length));lia
 have t0:0<=t:=by have:=ha _ (cM (by lia:p1 < a.length));lia
 have dt:((gI E2 p2).natAbs:Int)<=2 * t * t:=by
  rw[at2 p2 yT];have k1:=Nat.mul_le_mul (A p1 (by lia)) (B p2 yT);have k2:=Nat.mul_le_mul (B p1 (by lia)) (A p2 yT);have k3:=Int.natAbs_sub_le (gI a p1 * gI b p2) (gI b p1 * gI a p2);rw[Int.natAbs_mul,Int.natAbs_mul] at k3;have k4:((t.toNat * t.toNat:Nat):Int)=t * t:=by rw[Int.natCast_mul,Int.toNat_of_nonneg t0]
  have k5:2 * t * t=2 * (t * t):=Int.mul_assoc ..
  lia
 rw[P1 hx,LQ,LP,LR] at h1;rw[P2 hx,JJ] at h2;have h1:gI E2 p2 * gI x p1 + c * gI x i=0:=by
  have:gI a p1 * (gI E2 p2 * gI x p1 + c * gI x i)=0:=by grind
  exact(Int.mul_eq_zero.mp this).resolve_left hs
 obtain⟨y1,k1,k2,k3⟩:=two hd (hn p1 (by lia)) (by lia:((gI E2 p2).natAbs:Int)<=gI x i) h1;obtain⟨y2,k4,k5,k6⟩:=two (D:=gI E2 p2) (e:=gI E2 i) hd (hn p2 yT) (by lia:((gI E2 p2).natAbs:Int)<=gI x i) (by lia);generalize gI E2 p2=d at *
 let y:=(List.range 3).map λk=>if k=p1 then y1 else if k=p2 then y2 else(d.natAbs:Int)
 have ly:y.length=3:=by simp[y]
 have yk:∀k,k < 3->gI y k=if k=p1 then y1 else if k=p2 then y2 else(d.natAbs:Int):=λk hk=>by simp only[y,gI,List.getD,Py,List.getElem?_range hk];rfl
 have MK:gI y p1=y1:=by rw[yk p1 (by lia),if_pos rfl]
 have ML:gI y p2=y2:=by rw[yk p2 yT,if_neg (by lia),if_pos rfl]
 have MN:gI y i=d.natAbs:=by rw[yk i F7,if_neg (by lia),if_neg (by lia)]
 have cs:∀k,k < 3->k=p1\/k=p2\/k=i:=λk hk=>by lia
 have nn:∀k,k < 3->0<=gI y k:=λk hk=>by rcases cs k hk with rfl | rfl | rfl <;> lia
 refine⟨y,ly,nn,(d4 (by rw[ly,hx])).mpr λk hk=>?_,jU (λk hk=>nn k (by lia)) ⟨i,by lia,by lia⟩,λz hz=>?_,λk hk=>?_⟩
 ·rcases cs k (by lia) with rfl | rfl | rfl <;> lia
 ·rcases Pq.mp hz with rfl | hz
  ·show ag E1 _=0;rw[P1 ly,LQ,LP,LR,MK,ML,MN];have:gI a p1 * (d * y1 + c * (d.natAbs:Int))=0:=by rw[k3,Int.mul_zero]
   grind
  ·rw[PX] at hz;subst hz;show ag E2 _=0;rw[P2 ly,JJ,MK,ML,MN]
   lia
 ·obtain⟨kk,kn⟩:=iL.mp hk;simp at kn;rcases cs k kk with rfl | rfl | rfl
  ·lia
  ·lia
  ·lia
end
theorem oQ {m p:Nat} {L0:List (List Int)} {PS:List (Nat×List Int)} {LS:List (List Int)} (S:Sq m m L0 PS LS):(bp m PS).length + PS.length=m:=by
 have:=oR (m:=m) (L:=PS.map (·.1)) S.st.nd λp hp=>by obtain⟨q,hq,rfl⟩:=PY.mp hp;exact(S.st.pl q hq).1
 rw[Pn] at this;exact this
theorem near {m:Nat} {M:List (List Int)} {PS:List (Nat×List Int)} {LS:List (List Int)} {x:List Int} (m4:m<=4) (hl:∀q∈M,q.length=m) (hb:∀q∈M,∀z∈q,z.natAbs<=3) (S:Sq m m (rowsOf M (List.replicate M.length 0)) PS LS) (hx:x.length=m) (hn:∀i,i < m->0<=gI x i)
  (h0:0 < x.sum) (hT:x.sum<=([0,30,20,10,7]:List Int).getD m 0) (zM:∀q∈M,ag q x=0):t7 m PS (fz PS.length (bp m PS).length (bJ M) 0) x:=by
 have IT:∀z∈PS,ag z.2 (x++[-1])=0:=((S.sol hl hx).mp (bf.mpr zM)).2;by_cases uC:∀i∈bp m PS,gI x i<=fz PS.length (bp m PS).length (bJ M) 0
 ·exact⟨x,hx,hn,k9 x,h0,IT,uC⟩
 obtain⟨i,hi,fA⟩:∃i∈bp m PS,fz PS.length (bp m PS).length (bJ M) 0 < gI x i:=Classical.byContradiction λhc=>uC λi hi=>by
  rcases cN (fz PS.length (bp m PS).length (bJ M) 0) (gI x i) with z | z
  ·exact absurd ⟨i,hi,z⟩ hc
  ·exact z
 obtain⟨i7,OU⟩:=iL.mp hi;have uE:=oQ (p:=0) S;have f1:1<=(bp m PS).length:=List.length_pos_of_mem hi;have MZ:jx m LS=false:=((S.sol hl hx).mp (bf.mpr zM)).1;have yv:∀{j},j < m->(∀q∈M,gI q j=0)->∀z∈PS,ag z.2 (unit m j++[-1])=0:=λhj hz=>((S.sol hl (dJ m _)).mp (bf.mpr λq hq=>by rw[jf (hl q hq) hj];exact hz q hq)).2
 by_cases e0:PS=[]
 ·have hg:fz PS.length (bp m PS).length (bJ M) 0=1:=by rw[e0];rfl
  rw[hg] at fA ⊢;refine jd hx hn i7 (by decide) fA (yv i7 λq hq=>?_);have oV:q++[0]∈LS:=by rw[S.o0 e0,eU];exact PY.mpr ⟨q,hq,rfl⟩
  have:=S.zl _ oV i i7;rwa [bI (by rw[hl q hq];exact i7)] at this
 obtain⟨z,hz⟩:=List.exists_mem_of_ne_nil PS e0;have r1:1<=PS.length:=List.length_pos_of_mem hz;have Ke:∃q∈M,gI q z.1≠0:=Classical.byContradiction λhc=>by
  obtain⟨z1,z2,z3⟩:=S.st.pl z hz;have uC:∀q∈M,gI q z.1=0:=λq hq=>Classical.byContradiction λw=>hc ⟨q,hq,w⟩
  have k1:=yv z1 uC z hz;have k2:=((S.sol hl (x:=List.replicate m 0) (by simp)).mp (bf.mpr λq hq=>dz q m)).2 z hz;obtain⟨a,g,ea,la,_⟩:=ja z2;rw[ea,cC _ (by rw[dJ,la]),jf la z1] at k1;rw[ea,cC _ (by simp[la]),dz] at k2;rw[ea,bI (by lia)] at z3
  lia
 have t1:1<=bJ M:=by
  obtain⟨q,hq,dD⟩:=Ke;have:=k7 hq (cM (l:=q) (p:=z.1) (by rw[hl q hq];exact(S.st.pl z hz).1))
  lia
 have t3:bJ M<=3:=rm (λq hq z hz=>by have:=hb q hq z hz;lia) (by decide);have Bm:∀{p a b:Int},True:=λ {_ _ _}=>trivial
 by_cases hc:∀q∈M,gI q i=0
 ·refine jd hx hn i7 ?_ fA (yv i7 hc);generalize bJ M=t at t1 t3;generalize (bp m PS).length=f at uE f1;generalize PS.length=r at uE r1;have ht:t=1\/t=2\/t=3:=by lia
  have hr:r=1\/r=2\/r=3:=by lia
  have hf:f=1\/f=2\/f=3:=by lia
  rcases ht with rfl | rfl | rfl <;> rcases hr with rfl | rfl | rfl <;> rcases hf with rfl | rfl | rfl <;> decide
 obtain⟨row,CM,dD⟩:∃q∈M,gI q i≠0:=Classical.byContradiction λw=>hc λq hq=>Classical.byContradiction λu=>w ⟨q,hq,u⟩
 have GC:=hl row CM;have T2:gI x i<=bJ M * (x.sum - gI x i):=by
  have ps:=gi (v:=0) GC i7 x hx;rw[zM row CM] at ps;have pa:=pN (t:=(bJ M).toNat) (l:=row) (x:=x.set i 0) (λz hz=>by have:=k7 CM hz;lia) (λj hj=>by
   rw[List.length_set,hx] at hj;by_cases e:j=i
   ·rw[e,bL (by lia)];lia
   ·rw[bz e];exact hn j hj) (by rw[List.length_set,hx,GC];lia)
  rw[ps,sum_set (by lia)] at pa;have e1:(((bJ M).toNat:Nat):Int)=bJ M:=by lia
  rw[e1] at pa;have e2:(0 + gI row i * (0 - gI x i)).natAbs=(gI row i).natAbs * (gI x i).natAbs:=by rw[Int.zero_add,Int.zero_sub,Int.natAbs_mul,Int.natAbs_neg]
  rw[e2] at pa;have e3:(gI x i).natAbs<=(gI row i).natAbs * (gI x i).natAbs:=Nat.le_mul_of_pos_left _ (by lia);have e4:x.sum + (0 - gI x i)=x.sum - gI x i:=by lia
  rw[e4] at pa;have:=hn i i7
  lia
 have one:∀q,PS=[q]->2<=m->t7 m PS (fz PS.length (bp m PS).length (bJ M) 0) x:=λq eq hm=>by
  obtain⟨k1,_⟩:=S.o1 q eq;rw[eU] at k1;obtain⟨a,ha,ea⟩:=PY.mp k1;have hq:q=(q.1,a++[0]):=by rw[ea]
  have hf:(bp m PS).length=m - 1:=by rw[eq] at uE ⊢;simp at uE;lia
  have hg:fz PS.length (bp m PS).length (bJ M) 0=((m - 1:Nat):Int) * bJ M:=by rw[hf,eq];show (1:Int) * (0 + ((m - 1:Nat):Int) * bJ M)=_;rw[Int.one_mul,Int.zero_add]
  rw[hg] at fA ⊢;rw[eq,hq];exact xC hm (hl a ha) (λz hz=>k7 ha hz) t1 hx hn (zM a ha) i7 fA
 have NW:m=1\/m=2\/m=3\/m=4:=by lia
 rcases NW with rfl | rfl | rfl | rfl
 ·lia
 ·match PS with
  | []=>exact absurd rfl e0
  | [q]=>exact one q rfl (by decide)
  | q1::q2::R=>rw[Px,Px] at uE;lia
 ·match PS with
  | []=>exact absurd rfl e0
  | [q]=>exact one q rfl (by decide)
  | [q1,q2]=>
   have hf:(bp 3 [q1,q2]).length=1:=by simp at uE;lia
   rw[hf] at fA ⊢;have hg:fz ([q1,q2]:List (Nat×List Int)).length 1 (bJ M) 0=2 * bJ M * bJ M:=by show 2 * bJ M * (0 + 1 * bJ M)=_;rw[Int.one_mul,Int.zero_add]
   rw[hg] at fA ⊢;obtain⟨r1,Gh,r2,Mk,k1,k2,k3,k4⟩:=S.o2 q1 q2 rfl;rw[eU] at Gh Mk;obtain⟨a,ha,rfl⟩:=PY.mp Gh;obtain⟨b,lh,rfl⟩:=PY.mp Mk;have p2:=S.st.pl q2 (by simp);exact xD (hl a ha) (hl b lh) (λz hz=>k7 ha hz) (λz hz=>k7 lh hz) k1 p2.1 (by rwa [bI (by rw[hl a ha];have:=p2.1;lia)] at k2) k3 k4 p2.2.2 hx hn (IT q1 (by simp)) (IT q2 (by simp)) hi fA
  | q1::q2::q3::R=>rw[Px,Px,Px] at uE;lia
 ·exfalso;have hT:x.sum<=7:=hT;generalize bJ M=t at t1 t3 T2 fA;generalize (bp 4 PS).length=f at uE f1 fA;generalize PS.length=r at uE r1 fA;have ht:t=1\/t=2\/t=3:=by lia
  have hr:(r=1/\f=3)\/(r=2/\f=2)\/(r=3/\f=1):=by lia
  rcases ht with rfl | rfl | rfl <;> rcases hr with ⟨rfl,rfl⟩ | ⟨rfl,rfl⟩ | ⟨rfl,rfl⟩
  ·have fA:(3:Int) < gI x i:=fA
   lia
  ·have fA:(4:Int) < gI x i:=fA
   lia
  ·have fA:(4:Int) < gI x i:=fA
   lia
  ·have fA:(6:Int) < gI x i:=fA
   lia
  ·have fA:(16:Int) < gI x i:=fA
   lia
  ·have fA:(32:Int) < gI x i:=fA
   lia
  ·have fA:(9:Int) < gI x i:=fA
   lia
  ·have fA:(36:Int) < gI x i:=fA
   lia
  ·have fA:(108:Int) < gI x i:=fA
   lia
variable {fs:List Fn}
structure ei (D:Dt) (M:List (List Int)):Prop where
 it:itemsOf D=some (M.map tI)
 sq:c8 D=some (M.map tI)
 ln:d5 .len [D]= .ok (.int M.length)
theorem ei.lst (M:List (List Int)):ei (lI M) M:=⟨rfl,rfl,by show R.ok (Dt.int ((M.map tI).length:Nat))=_;rw[Pn]⟩
theorem ei.tup (M:List (List Int)):ei (.tup (M.map tI)) M:=⟨rfl,rfl,by show R.ok (Dt.int ((M.map tI).length:Nat))=_;rw[Pn]⟩
theorem Ft {ik N:Nat} (hf:fs[ik]?=some ⟨3,3,false,zf⟩) (hN:1<=N) {D:Dt} {M:List (List Int)} (hD:ei D M) {many:Int} {r:List Int} (hR:M.length<=1000) (NB:∀q∈M,q.length<=100) (hr:r.length<=1000) (hb:brk M many r=false):
  aw fs N ik [D,.int many,tI r] none= .ok (.aT,none):=by
 have d6:lim=1000000:=rfl;refine aB hf hN rfl ?_;show fin (aW (aw fs (N - 1)) zf [some (D),some (.int many),some (tI r)] none)=_;have ln:=hD.ln;unfold brk at hb;simp only[Bool.or_eq_false_iff,decide_eq_false_iff_not] at hb;obtain⟨⟨⟨h1,h2⟩,h3⟩,h4⟩:=hb;refine dS (S1:=none) (by simp only[RX,ln];rw[PJ (by lia)]) ?_;refine dS (S1:=none) (by simp only[RX,PJ h2]) ?_;have hA:ev (aw fs (N - 1)) rN [some (D),some (.int many),some (tI r)] none= .ok (.bl (ue M),none):=by
  have hc:aK (aM (.nm 1) (bh (aw fs (N - 1)) .nil) (j6 (aw fs (N - 1)) (M.map tI).length (.seq (.var 1)) (.nm 2) .nil (.cmp .Gt (.bi .abs (.cons (.var 2) .nil)) (.con (.int 3)))) [none,none,none]) (M.map tI) none= .ok (M.flatMap λq=>q.map λx=> .bl (decide ((3:Int) < x.natAbs)),none):=cg λq hq=>by have hl:=NB q hq;refine yt (ρ1:=[none,some (tI q),none]) (ds:=q.map Dt.int) (S1:=none) rfl rfl ?_ rfl (b9 λx hx=>aN (ρ1:=[none,some (tI q),some (.int x)]) rfl (by simp only[RX,mQ]) rfl);rw[Pn,Pn];exact Pp (Nat.mul_le_mul hR hl) (by decide)
  unfold rN;rw[fO,kf (ds:=M.map tI) (S1:=none) (i8 (d:=D) rfl hD.it) (by rw[Pn];lia) rfl hc,R.ah];have e:(M.flatMap λq=>q.map λx=>Dt.bl (decide ((3:Int) < x.natAbs)))=(M.flatMap λq=>q.map λx=>decide ((3:Int) < x.natAbs)).map Dt.bl:=by rw[List.map_flatMap];congr 1;funext q;rw[List.map_map];rfl
  rw[e,qu];show R.ok (Dt.bl _,none)=_;congr 3;unfold ue;rw[List.any_flatMap];congr 1;funext q;rw[List.any_map];congr 1;funext x;show decide _=decide _;congr 1;exact propext (by lia)
 have hB:ev (aw fs (N - 1)) rO [some (D),some (.int many),some (tI r)] none= .ok (.bl (uf r),none):=by
  have hc:aK (aM (.nm 1) (bh (aw fs (N - 1)) .nil) (bq (aw fs (N - 1)) (.cmp .Gt (.bi .abs (.cons (.var 1) .nil)) (.con (.int 20)))) [none,none]) (r.map Dt.int) none= .ok (r.map λx=> .bl (decide ((20:Int) < x.natAbs)),none):=b9 λx hx=>aN (ρ1:=[none,some (.int x)]) rfl (by simp only[RX,mQ]) rfl
  unfold rO;rw[fO,aV (ds:=r.map Dt.int) (S1:=none) rfl (by rw[Pn];lia) rfl hc,R.ah];have e:(r.map λx=>Dt.bl (decide ((20:Int) < x.natAbs)))=(r.map λx=>decide ((20:Int) < x.natAbs)).map Dt.bl:=by rw[List.map_map];rfl
  rw[e,qu];show R.ok (Dt.bl _,none)=_;congr 3;unfold uf;rw[List.any_map];congr 1;funext x;show decide _=decide _;congr 1;exact propext (by lia)
 have tA:cH (aw fs (N - 1)) rN [some (D),some (.int many),some (tI r)] none= .ok (ue M,none):=qE hA;have tB:cH (aw fs (N - 1)) rO [some (D),some (.int many),some (tI r)] none= .ok (uf r,none):=qE hB;rw[h3] at tA;rw[h4] at tB;exact dS (S1:=none) tA (dS (S1:=none) tB rfl)
theorem Hv {ic is N:Nat} (hc:fs[ic]?=some ⟨3,3,false,vE⟩) (hf:fs[is]?=some ⟨3,8,false,zh ic⟩) (hN:2<=N) {D:Dt} {M:List (List Int)} (hD:ei D M) {r:List Int} {m:Nat} (hm:m<=4) (hM:M.length<=16) (hr:r.length<=16) (FU:∀q∈M,q.length=m) (J6:∀q∈M,∀x∈q,x.natAbs<=3) (Kp:∀x∈r,x.natAbs<=20):
  aw fs N is [D,.int m,tI r] none= .ok ((if jx m (bN (rowsOf M r) m).2=true then .aT else .lst ((bN (rowsOf M r) m).1.map pD)),none)/\Sq m m (rowsOf M r) (bN (rowsOf M r) m).1 (bN (rowsOf M r) m).2:=by
 have d6:lim=1000000:=rfl;have b4:jy 3 < 2 ^ 64:=by decide
 let L0:=rowsOf M r
 have s0:vy m 0 [] L0:=by
  refine⟨λq hq=>?_,λq hq x hx=>?_,by simp,by simp,by simp,by simp,by simp⟩
  ·obtain⟨z,hz,rfl⟩:=PY.mp hq;rw[Pv,FU _ (List.of_mem_zip hz).1];rfl
  ·obtain⟨z,hz,rfl⟩:=PY.mp hq;show x.natAbs<=20;rcases PD.mp hx with hx | hx
   ·have:=J6 _ (List.of_mem_zip hz).1 x hx;lia
   ·rw[PX] at hx;subst hx;exact Kp _ (List.of_mem_zip hz).2
 have l0:L0.length<=16:=by show ((M.zip r).map _).length<=16;rw[Pn,List.length_zip];lia
 have sq:=λp (hp:p<=m)=>Sq.all s0 p hp
 have hF:ev (aw fs (N - 1)) A9 [some (D),some (.int m),some (tI r),none,none,none,none,none] none= .ok (.lst (L0.map tI),none):=by
  have nr:aK (aM (.tp [1,2]) (bh (aw fs (N - 1)) .nil) (bq (aw fs (N - 1)) (.bin .Add (.bi .tuple (.cons (.var 1) .nil)) (.tup (.cons (.var 2) .nil)))) [none,none,none]) (cU (M.map tI) (r.map Dt.int)) none= .ok ((M.zip r).map λq=>tI (q.1++[q.2]),none):=by
   rw[zip_rows];refine aU λq hq=>?_
   have hl:=FU _ (List.of_mem_zip hq).1;have ha:lF .Add (tI q.1) (.tup [.int q.2])= .ok (tI (q.1++[q.2])):=by show ae (decide ((q.1.map Dt.int).length + 1<=lim)) (R.ok (Dt.tup (q.1.map Dt.int++[.int q.2])))=_;rw[PN (by rw[Pn];lia),guard_true];unfold tI;rw[Qb];rfl
   have ht:d5 .tuple [tI q.1]= .ok (tI q.1):=rfl;exact aN (ρ1:=[none,some (tI q.1),some (.int q.2)]) rfl (by simp only[RX,ht,ha]) (by unfold bO;rw[cA,Bool.or_true])
  have e:((M.zip r).map λq=>tI (q.1++[q.2]))=L0.map tI:=by show _=((M.zip r).map _).map tI;rw[List.map_map];rfl
  rw[e] at nr;exact aV (ds:=cU (M.map tI) (r.map Dt.int)) (S1:=none) (i9 (S1:=none) (S2:=none) (da:=D) rfl rfl hD.sq rfl) (by rw[zip_rows,Pn,List.length_zip];lia) rfl nr
 have loop:=bx (S:=none) (tg:= .nm 5) (body:=aW (aw fs (N - 1)) (A8 ic)) (ds:=aS 0 m) (ρ:=[some (D),some (.int m),some (tI r),some (.lst (L0.map tI)),some (.lst []),none,none,none])
  (λpre ρ=>∃x5 x6 x7,ρ=[some (D),some (.int m),some (tI r),some (.lst ((bN L0 pre.length).2.map tI)),some (.lst ((bN L0 pre.length).1.map pD)),x5,x6,x7]) ⟨none,none,none,rfl⟩ (by
   rintro pre x post ρ e ⟨x5,x6,x7,rfl⟩;obtain⟨h1,rfl⟩:=cQ e;generalize hp:pre.length=p at *;have e1:(pre++[Dt.int p]).length=p + 1:=by rw[Pv,hp];rfl
   have Lq:=sq p (by lia);have st:=Lq.st;have hl:(bN L0 p).2.length<=16:=by rw[Lq.ln];exact l0
   have Iz:bN L0 (p + 1)=dZ p (bN L0 p):=rfl;generalize hS:bN L0 p=S at *;obtain⟨PS,LS⟩:=S;dsimp only at st hl Lq;have hB:jy p < 2 ^ 64:=Nat.lt_of_le_of_lt (qr (by lia)) b4;have hH:ev (aw fs (N - 1)) Ba [some (D),some (.int m),some (tI r),some (.lst (LS.map tI)),some (.lst (PS.map pD)),some (.int p),x6,x7] none= .ok (.lst ((LS.filter λq=> !(gI q p==0)).map tI),none):=by
    have nr:aK (aM (.nm 1) (bh (aw fs (N - 1)) (.cons (.cmp .NotEq (.idx (.var 1) (.var 2)) (.con (.int 0))) .nil)) (bq (aw fs (N - 1)) (.var 1)) [none,none,some (.int p)]) (LS.map tI) none= .ok (LS.flatMap λq=>if (!(gI q p==0))=true then[tI q] else[],none):=cg λq hq=>by have hi:=gR (l:=q) (p:=p) (by rw[st.len q hq];lia);exact turn_if (ρ1:=[none,some (tI q),some (.int p)]) rfl (by simp only[RX,hi]) λ_=>⟨by simp only[RX],by unfold bO;rw[cA,Bool.or_true]⟩
    rw[gO] at nr;exact aV (ds:=LS.map tI) (S1:=none) rfl (by rw[Pn];lia) rfl nr
   generalize hv:(LS.filter λq=> !(gI q p==0))=hav at hH;cases hav with
   | nil=>
    refine⟨_,_,rfl,dg (d:= .lst []) (S1:=none) hH rfl (gW (S1:=none) rfl rfl),some (.int p),some (.lst []),x7,?_⟩;have e3:dZ p (PS,LS)=(PS,LS):=by unfold dZ;rw[show (PS,LS).2=LS from rfl,hv]
    rw[e1,Iz,e3];rfl
   | cons b bs=>
    have Ma:b∈LS/\gI b p≠0:=by
     have:b∈LS.filter λq=> !(gI q p==0):=by rw[hv];exact Pk
     have:=List.mem_filter.mp this;exact⟨this.1,by simpa using this.2⟩
    have lb:=st.len b Ma.1;have IF:∀x∈b,Ea x:=λx hx=>Nat.lt_of_le_of_lt (st.bd b Ma.1 x hx) hB
    have hP:ev (aw fs (N - 1)) (vL ic) [some (D),some (.int m),some (tI r),some (.lst (LS.map tI)),some (.lst (PS.map pD)),some (.int p),some (.lst ((b::bs).map tI)),some (tI b)] none= .ok (.lst ((PS.map λq=>(q.1,bg q.2 p b)).map pD),none):=by
     have nr:aK (aM (.tp [1,2]) (bh (aw fs (N - 1)) .nil) (bq (aw fs (N - 1)) (.tup (.cons (.var 1) (.cons (.call ic (.cons (.var 2) (.cons (.var 4) (.cons (.var 3) .nil))) []) .nil)))) [none,none,none,some (tI b),some (.int p)]) (PS.map pD) none= .ok (PS.map λq=>pD (q.1,bg q.2 p b),none):=aU λq hq=>by have eF:=(st.pl q hq).2.1;have:=vZ hc (N:=N - 1) (by lia) (r:=q.2) (b:=b) (p:=p) (by lia) (by lia) (λx hx=>Nat.lt_of_le_of_lt (st.pb q hq x hx) hB) IF (by lia);exact aN (ρ1:=[none,some (.int q.1),some (tI q.2),some (tI b),some (.int p)]) rfl (by simp only[RX,this];rfl) (by unfold bO;simp only[pD,kH,gV,cA,Bool.and_true,Bool.or_true])
     have e2:(PS.map λq=>pD (q.1,bg q.2 p b))=(PS.map λq=>(q.1,bg q.2 p b)).map pD:=by rw[List.map_map];rfl
     rw[e2] at nr;exact aV (ds:=PS.map pD) (S1:=none) rfl (by rw[Pn];have:=st.ct;lia) rfl nr
    have hL:∀y4,ev (aw fs (N - 1)) (Bb ic) [some (D),some (.int m),some (tI r),some (.lst (LS.map tI)),y4,some (.int p),some (.lst ((b::bs).map tI)),some (tI b)] none= .ok (.lst ((LS.map λq=>bg q p b).map tI),none):=λy4=>by
     have nr:aK (aM (.nm 1) (bh (aw fs (N - 1)) .nil) (bq (aw fs (N - 1)) (.call ic (.cons (.var 1) (.cons (.var 3) (.cons (.var 2) .nil))) [])) [none,none,some (tI b),some (.int p)]) (LS.map tI) none= .ok (LS.map λq=>tI (bg q p b),none):=aU λq hq=>by have eF:=st.len q hq;have:=vZ hc (N:=N - 1) (by lia) (r:=q) (b:=b) (p:=p) (by lia) (by lia) (λx hx=>Nat.lt_of_le_of_lt (st.bd q hq x hx) hB) IF (by lia);exact aN (ρ1:=[none,some (tI q),some (tI b),some (.int p)]) rfl (by simp only[RX,this]) (by unfold bO;rw[cA,Bool.or_true])
     have e2:(LS.map λq=>tI (bg q p b))=(LS.map λq=>bg q p b).map tI:=by rw[List.map_map];rfl
     rw[e2] at nr;exact aV (ds:=LS.map tI) (S1:=none) rfl (by rw[Pn];lia) rfl nr
    have hAdd:ev (aw fs (N - 1)) (.bin .Add (vL ic) (.lst (.cons (.tup (.cons (.var 5) (.cons (.var 7) .nil))) .nil))) [some (D),some (.int m),some (tI r),some (.lst (LS.map tI)),some (.lst (PS.map pD)),some (.int p),some (.lst ((b::bs).map tI)),some (tI b)] none= .ok (.lst ((PS.map (λq=>(q.1,bg q.2 p b))++[(p,b)]).map pD),none):=by rw[ev,hP,R.ah];simp only[RX];show (lF .Add (.lst ((PS.map λq=>(q.1,bg q.2 p b)).map pD)) (.lst [pD (p,b)])).bind _=_;show (ae (decide (((PS.map λq=>(q.1,bg q.2 p b)).map pD).length + 1<=lim)) _).bind _=_;rw[PN (by rw[Pn,Pn];have:=st.ct;lia),guard_true,Qb];rfl
    refine⟨_,_,rfl,dg (d:= .lst ((b::bs).map tI)) (S1:=none) hH rfl (pF (S1:=none) rfl (dg (d:=tI b) (S1:=none) (by have h0:=(nB (ds:=(b::bs).map tI) (k:=0) (d:=tI b) rfl).2;simp only[RX];exact congrArg (R.bind · _) h0) (by unfold bO;rw[cA,Bool.or_true]) (dg (S1:=none) hAdd rfl (dg (S1:=none) (hL _) rfl rfl)))),some (.int p),some (.lst ((b::bs).map tI)),some (tI b),?_⟩;have e3:dZ p (PS,LS)=(PS.map (λq=>(q.1,bg q.2 p b))++[(p,b)],LS.map λr=>bg r p b):=by unfold dZ;rw[show (PS,LS).2=LS from rfl,hv]
    rw[e1,Iz,e3];rfl)
 obtain⟨ρ1,bQ,x5,x6,x7,rfl⟩:=loop;have em:(aS 0 m).length=m:=by simp[aS]
 rw[em] at bQ;have Jb:=sq m (Pj _);have st:=Jb.st;have hl:(bN L0 m).2.length<=16:=by rw[Jb.ln];exact l0
 refine⟨?_,Jb⟩;show _=R.ok ((if jx m (bN L0 m).2=true then Dt.aT else Dt.lst ((bN L0 m).1.map pD)),none);generalize bN L0 m=S at *;obtain⟨PS,LS⟩:=S;dsimp only at st hl Jb;have hA:cH (aw fs (N - 1)) vK [some (D),some (.int m),some (tI r),some (.lst (LS.map tI)),some (.lst (PS.map pD)),x5,x6,x7] none= .ok ((LS.map λq=> !(gI q m==0)).any id,none):=by
  have nr:aK (aM (.nm 1) (bh (aw fs (N - 1)) .nil) (bq (aw fs (N - 1)) (.cmp .NotEq (.idx (.var 1) (.var 2)) (.con (.int 0)))) [none,none,some (.int m)]) (LS.map tI) none= .ok (LS.map λq=> .bl (!(gI q m==0)),none):=aU λq hq=>by have hi:=gR (l:=q) (p:=m) (by rw[st.len q hq];lia);exact aN (ρ1:=[none,some (tI q),some (.int m)]) rfl (by simp only[RX,hi]) rfl
  refine qE ?_;rw[fO,aV (ds:=LS.map tI) (S1:=none) rfl (by rw[Pn];lia) rfl nr,R.ah];have e:(LS.map λq=>Dt.bl (!(gI q m==0)))=(LS.map λq=> !(gI q m==0)).map Dt.bl:=by rw[List.map_map];rfl
  rw[e,qu];rfl
 have body:∀{x:R (Dt×Sx)},fin (aW (aw fs (N - 1)) (.cons (.ifs vK (.cons (.ret (.con .aT)) .nil) .nil) (.cons (.ret (.var 4)) .nil)) [some (D),some (.int m),some (tI r),some (.lst (LS.map tI)),some (.lst (PS.map pD)),x5,x6,x7] none)=x->aw fs N is [D,.int m,tI r] none=x:=λ {x} h=>by refine aB hf (by lia) rfl ?_;show fin (aW (aw fs (N - 1)) (zh ic) [some (D),some (.int m),some (tI r),none,none,none,none,none] none)=_;exact aE (S1:=none) hF rfl (aE (d:= .lst []) (S1:=none) rfl rfl (bw (ds:=aS 0 m) (S1:=none) (d7 (n:=m) rfl (by lia)) rfl bQ h))
 have IG:jx m LS=(LS.map λq=> !(gI q m==0)).any id:=rfl;cases hb:((LS.map λq=> !(gI q m==0)).any id) with
 | true=>rw[hb] at hA IG;dsimp only;rw[IG,if_pos rfl];exact body (l6 (S1:=none) hA (ay rfl))
 | false=>rw[hb] at hA IG;dsimp only;rw[IG,if_neg (by simp)];exact body (dS (S1:=none) hA (ay rfl))
variable {fs:List Fn}
noncomputable def gG (r:List Int):Int:=de (r.map λx=>(x.natAbs:Int))
theorem wI (s f:Nat) (t g:Int) (h:s=0):fz s f t g=1:=by unfold fz;rw[if_pos h]
theorem FK {ig N:Nat} (hf:fs[ig]?=some ⟨4,7,false,vG⟩) (hN:1<=N) {D:Dt} {M:List (List Int)} (hD:ei D M) {r:List Int} {m s f:Nat} (hm:1<=m) (FS:s≠0->M≠[]) (Gg:s≠0->r≠[]) (hM:M.length<=16) (hr:r.length<=16) (FU:∀q∈M,q.length=m) (IP:m<=4) (J6:∀q∈M,∀x∈q,x.natAbs<=3) (Kp:∀x∈r,x.natAbs<=20) (hs:s<=4) (OT:f<=4):
  aw fs N ig [D,tI r,.int s,.int f] none= .ok (.int (fz s f (bJ M) (gG r)),none):=by
 have d6:lim=1000000:=rfl;by_cases h0:s=0
 ·subst h0;rw[wI _ _ _ _ rfl];refine aB hf hN rfl ?_;show fin (aW (aw fs (N - 1)) vG [some (D),some (tI r),some (.int 0),some (.int f),none,none,none] none)=_;exact l6 (S1:=none) rfl (ay rfl)
 have FS:=FS h0;have Gg:=Gg h0
 let A:=M.flatMap λq=>q.map λx=>(x.natAbs:Int)
 have L5:A≠[]:=by obtain⟨q,hq⟩:=List.exists_mem_of_ne_nil M FS;have hl:=FU q hq;obtain⟨x,hx⟩:=List.exists_mem_of_ne_nil q (by intro z;rw[z] at hl;simp at hl;lia);intro z;have:(x.natAbs:Int)∈A:=List.mem_flatMap.mpr ⟨q,hq,PY.mpr ⟨x,hx,rfl⟩⟩;rw[z] at this;cases this
 let G:=r.map λx=>(x.natAbs:Int)
 have L7:G≠[]:=λz=>Gg (List.map_eq_nil_iff.mp z)
 have tA:=cw A L5;have tG:=cw G L7;have bA:0<=de A/\de A<=3:=by
  obtain⟨q,hq,h⟩:=List.mem_flatMap.mp tA.1;obtain⟨x,hx,e⟩:=PY.mp h;have:=J6 q hq x hx
  lia
 have bG:0<=de G/\de G<=20:=by
  obtain⟨x,hx,e⟩:=PY.mp tG.1;have:=Kp x hx
  lia
 have hT:ev (aw fs (N - 1)) vI [some (D),some (tI r),some (.int s),some (.int f),none,none,none] none= .ok (.int (de A),none):=by
  have hc:aK (aM (.nm 1) (bh (aw fs (N - 1)) .nil) (j6 (aw fs (N - 1)) (M.map tI).length (.seq (.var 1)) (.nm 2) .nil (.bi .abs (.cons (.var 2) .nil))) [none,none,none]) (M.map tI) none= .ok (M.flatMap λq=>q.map λx=> .int x.natAbs,none):=cg λq hq=>by have hl:=FU q hq;refine yt (ρ1:=[none,some (tI q),none]) (ds:=q.map Dt.int) (S1:=none) rfl rfl ?_ rfl (b9 λx hx=>aN (ρ1:=[none,some (tI q),some (.int x)]) rfl (by simp only[RX,mQ]) rfl);rw[Pn,Pn];exact Pp (Nat.mul_le_mul hM (by lia:q.length<=4)) (by decide)
  unfold vI;rw[fO,kf (ds:=M.map tI) (S1:=none) (i8 (d:=D) rfl hD.it) (by rw[Pn];lia) rfl hc,R.ah];have e:(M.flatMap λq=>q.map λx=>Dt.int x.natAbs)=A.map Dt.int:=by show _=(M.flatMap _).map Dt.int;rw[List.map_flatMap];congr 1;funext q;rw[List.map_map];rfl
  rw[e,rT L5];rfl
 have hG:ev (aw fs (N - 1)) vH [some (D),some (tI r),some (.int s),some (.int f),some (.int (de A)),none,none] none= .ok (.int (de G),none):=by
  have hc:aK (aM (.nm 1) (bh (aw fs (N - 1)) .nil) (bq (aw fs (N - 1)) (.bi .abs (.cons (.var 1) .nil))) [none,none]) (r.map Dt.int) none= .ok (r.map λx=> .int x.natAbs,none):=b9 λx hx=>aN (ρ1:=[none,some (.int x)]) rfl (by simp only[RX,mQ]) rfl
  unfold vH;rw[fO,aV (ds:=r.map Dt.int) (S1:=none) rfl (by rw[Pn];lia) rfl hc,R.ah];have e:(r.map λx=>Dt.int x.natAbs)=G.map Dt.int:=by show _=(r.map _).map Dt.int;rw[List.map_map];rfl
  rw[e,rT L7];rfl
 have eA:bJ M=de A:=rfl;have eG:gG r=de G:=rfl;rw[eA,eG];generalize de A=top at hT hG bA;generalize de G=goal at hG bG;have m1:=bb (i:=2) (j:=top) (.inl (by decide));have m2:=bb (i:=4) (j:=top) (.inl (by decide));have m3:=bb (i:=4 * top) (j:=top) (.inr (by lia));have m4:=bb (i:=(f:Int)) (j:=top) (.inr (by lia));have hi:cF (.tup [.int 1,.int (2 * top),.int (4 * top * top),.int 0]) (.int ((s:Int) - 1))= .ok (.int (([1,2 * top,4 * top * top,0]:List Int).getD (s - 1) 0)):=by
  match s,h0,hs with
  | 1,_,_=>rfl
  | 2,_,_=>rfl
  | 3,_,_=>rfl
  | 4,_,_=>rfl
 have ft:0<=(f:Int) * top/\(f:Int) * top<=3 * f:=⟨Int.mul_nonneg (by lia) bA.1,by have:=Int.mul_le_mul_of_nonneg_left bA.2 (show (0:Int)<=f by lia);lia⟩;have m5:=λmi=>bb (i:=mi) (j:=goal + (f:Int) * top) (.inr (by lia))
 have s0:((s:Int)==0)=false:=beq_eq_false_iff_ne.mpr (by lia);have eg:fz s f top goal=([1,2 * top,4 * top * top,0]:List Int).getD (s - 1) 0 * (goal + f * top):=by unfold fz;rw[if_neg h0]
 rw[eg];refine aB hf hN rfl ?_;show fin (aW (aw fs (N - 1)) vG [some (D),some (tI r),some (.int s),some (.int f),none,none,none] none)=_;refine dS (S1:=none) (by simp only[RX,s0]) (aE (S1:=none) hT rfl (aE (S1:=none) hG rfl (aE (d:= .tup [.int 1,.int (2 * top),.int (4 * top * top),.int 0]) (S1:=none) (by simp only[RX,m1,m2,m3]) rfl (ay ?_))));simp only[RX,hi,m4,m5]
theorem HW {iw N:Nat} (hf:fs[iw]?=some ⟨3,5,false,zm⟩) (hN:1<=N) {m g:Nat} {FR:List Nat} (hm:m<=4) (Nv:∀p∈FR,p < m) (hg:(g + 1) ^ FR.length<=900000):
  aw fs N iw [.int m,.lst (FR.map λ(p:Nat)=>Dt.int p),.int g] none= .ok (lI (eT g FR [List.replicate m 0]),none)/\(eT g FR [List.replicate m 0]).length<=900000:=by
 have d6:lim=1000000:=rfl;have loop:=bx (S:=none) (tg:= .nm 4) (body:=aW (aw fs (N - 1)) (.cons (.asg 3 Bc) .nil)) (ds:=FR.map λ(p:Nat)=>Dt.int p) (ρ:=[some (.int m),some (.lst (FR.map λ(p:Nat)=>Dt.int p)),some (.int g),some (lI [List.replicate m 0]),none])
  (λpre ρ=>∃Q x4,Q.length<=(g + 1) ^ pre.length/\(∀q∈Q,q.length=m/\∀x∈q,(0:Int)<=x/\x<=(g:Int))/\(∀rest,FR=FR.take pre.length++rest->eT g rest Q=eT g FR [List.replicate m 0])/\ρ=[some (.int m),some (.lst (FR.map λ(p:Nat)=>Dt.int p)),some (.int g),some (lI Q),x4])
  ⟨[List.replicate m 0],none,by simp,λq hq=>by rw[PX] at hq;subst hq;exact⟨by simp,λx hx=>by have:=List.eq_of_mem_replicate hx;lia⟩,λrest e=>by rw[List.length_nil,List.take_zero,List.nil_append] at e;rw[<-e],rfl⟩ (by
   rintro pre x post ρ e ⟨Q,x4,hl,hQ,hW,rfl⟩;have hx:x∈FR.map λ(p:Nat)=>Dt.int p:=by rw[e];simp
   obtain⟨p,hp,rfl⟩:=PY.mp hx;have O3:=Nv p hp;have qh:pre.length + 1<=FR.length:=by
    have:=congrArg List.length e;simp at this
    lia
   have IU:(g + 1) ^ (pre.length + 1)<=900000:=Pp (Nat.pow_le_pow_right (by lia) qh) hg;have OO:Q.length * (g + 1)<=(g + 1) ^ (pre.length + 1):=by rw[Nat.pow_succ];exact Nat.mul_le_mul_right _ hl
   have EL:Q.length<=Q.length * (g + 1):=Nat.le_mul_of_pos_right _ (by lia);have hc:aK (aM (.nm 1) (bh (aw fs (N - 1)) .nil) (j6 (aw fs (N - 1)) (Q.map tI).length (.rng1 (.bin .Add (.var 3) (.con (.int 1)))) (.nm 2) .nil (.bin .Add (.bin .Add (.sliH (.var 1) (.var 4)) (.tup (.cons (.var 2) .nil))) (.sliL (.var 1) (.bin .Add (.var 4) (.con (.int 1)))))) [none,none,none,some (.int g),some (.int p)]) (Q.map tI) none= .ok (Q.flatMap λq=>(List.range (g + 1)).map λ(n:Nat)=>tI (q.set p n),none):=cg λq hq=>by
    have lq:=(hQ q hq).1;refine yt (ρ1:=[none,some (tI q),none,some (.int g),some (.int p)]) (ds:=aS 0 (g + 1)) (S1:=none) rfl (d7 (n:=g + 1) (by simp only[RX];rfl) ?_) ?_ rfl ?_
    ·have:g + 1<=(g + 1) ^ (pre.length + 1):=by rw[Nat.pow_succ];exact Nat.le_mul_of_pos_left _ (Nat.pow_pos (by lia))
     lia
    ·rw[Pn];simp only[aS,Pn,List.length_range]
     lia
    ·have er:aS 0 (g + 1)=(List.range (g + 1)).map λ(n:Nat)=>Dt.int n:=by unfold aS;exact List.map_congr_left λi _=>by rw[Int.zero_add]
     rw[er];refine aU λn hn=>?_
     have c1:fq (tI q) none (some (p:Int))= .ok (tI (q.take p)):=by show R.ok (Dt.tup (cutD (q.map Dt.int) none (some (p:Int))))=_;rw[v7 _ (by rw[Pn];lia),<-List.map_take];rfl
     have c2:fq (tI q) (some ((p:Int) + 1)) none= .ok (tI (q.drop (p + 1))):=by show R.ok (Dt.tup (cutD (q.map Dt.int) (some (((p + 1:Nat)):Int)) none))=_;rw[qB _ (by rw[Pn];lia),<-List.map_drop];rfl
     have a1:lF .Add (tI (q.take p)) (.tup [.int n])= .ok (tI (q.take p++[(n:Int)])):=by show ae (decide (((q.take p).map Dt.int).length + 1<=lim)) (R.ok (Dt.tup ((q.take p).map Dt.int++[.int n])))=_;rw[PN (by rw[Pn,List.length_take];lia),guard_true];unfold tI;rw[Qb];rfl
     have a2:lF .Add (tI (q.take p++[(n:Int)])) (tI (q.drop (p + 1)))= .ok (tI (q.set p n)):=by show ae (decide (((q.take p++[(n:Int)]).map Dt.int).length + ((q.drop (p + 1)).map Dt.int).length<=lim)) (R.ok (Dt.tup ((q.take p++[(n:Int)]).map Dt.int++(q.drop (p + 1)).map Dt.int)))=_;rw[PN (by simp only[Pn,Pv,List.length_take,List.length_drop,Px,List.length_nil];lia),guard_true,<-Qb,List.set_eq_take_append_cons_drop,if_pos (by lia),Pt];rfl
     exact aN (ρ1:=[none,some (tI q),some (.int n),some (.int g),some (.int p)]) rfl (by simp only[RX,c1,c2,a1,a2]) (by unfold bO;rw[cA,Bool.or_true])
   have yP:=kf (F:=aw fs (N - 1)) (cap:=[none,none,none,some 2,some 4]) (it:= .seq (.var 3)) (ρ:=[some (.int m),some (.lst (FR.map λ(p:Nat)=>Dt.int p)),some (.int g),some (lI Q),some (.int p)]) (S:=none) (ds:=Q.map tI) (S1:=none) rfl (by rw[Pn];lia) rfl hc;have e2:(Q.flatMap λq=>(List.range (g + 1)).map λ(n:Nat)=>tI (q.set p n))=(Q.flatMap λq=>(List.range (g + 1)).map λ(n:Nat)=>q.set p (n:Int)).map tI:=by rw[List.map_flatMap];congr 1;funext q;rw[List.map_map];rfl
   rw[e2] at yP;refine⟨_,_,rfl,dg (S1:=none) yP rfl rfl,Q.flatMap λq=>(List.range (g + 1)).map λ(n:Nat)=>q.set p (n:Int),some (.int p),?_,?_,?_,rfl⟩
   ·have:=oO (f:=λq=>(List.range (g + 1)).map λ(n:Nat)=>q.set p (n:Int)) (k:=g + 1) (l:=Q) λq _=>by simp
    rw[Pv,List.length_singleton]
    lia
   ·intro q' hq';obtain⟨q,hq,h⟩:=List.mem_flatMap.mp hq';obtain⟨n,hn,rfl⟩:=PY.mp h;have hn:=Qd.mp hn;refine⟨by rw[List.length_set];exact(hQ q hq).1,λx hx=>?_⟩;rcases List.mem_or_eq_of_mem_set hx with hx | hx
    ·exact(hQ q hq).2 x hx
    ·lia
   ·intro rest er;have IS:FR[pre.length]?=some p:=by
     have h1:=congrArg (λl=>l[pre.length]?) e;simp only[Py,P9 (Pj _),Nat.sub_self,List.getElem?_cons_zero] at h1;cases jL:FR[pre.length]? with
     | none=>rw[jL] at h1;cases h1
     | some p'=>
      rw[jL] at h1;have h1:Dt.int (p':Int)=Dt.int (p:Int):=Option.some.inj h1;have h2:(p':Int)=p:=by injection h1
      exact congrArg some (by lia)
    rw[Pv,List.length_singleton] at er;have h2:FR=FR.take pre.length++p::rest:=by rw[List.take_add_one,IS,Pt] at er;exact er
    exact hW (p::rest) h2)
 obtain⟨ρ1,bQ,Q,x4,hl,hQ,hW,rfl⟩:=loop;rw[Pn] at hl hW;have eW:=hW [] (by rw[List.take_length,P6]);have eW:Q=eT g FR [List.replicate m 0]:=eW;rw[<-eW];refine⟨aB hf hN rfl ?_,by lia⟩;show fin (aW (aw fs (N - 1)) zm [some (.int m),some (.lst (FR.map λ(p:Nat)=>Dt.int p)),some (.int g),none,none] none)=_;have h0:=tK (m:=m) 0 (by lia);exact aE (d:=lI [List.replicate m 0]) (S1:=none) (by simp only[RX,h0];rfl) rfl (bw (ds:=FR.map λ(p:Nat)=>Dt.int p) (S1:=none) rfl rfl bQ (ay rfl))
theorem Fu {ip ic N:Nat} (hp:fs[ip]?=some ⟨2,2,false,oE⟩) (hf:fs[ic]?=some ⟨2,7,false,zg ip⟩) (hN:2<=N) {m:Nat} {PS:List (Nat×List Int)} {LS:List (List Int)} (hm:m<=4) (st:vy m m PS LS) {q:List Int} (hq:LJ m q) (hs:∀x∈q,Ea x):
  aw fs N ic [tI q,.lst (PS.map pD)] none= .ok (((bP q PS q).elim .aT tI),none):=by
 have d6:lim=1000000:=rfl;have loop:=fR (S:=none) (tg:= .tp [3,4]) (body:=aW (aw fs (N - 1)) (vF ip)) (ds:=PS.map pD) (ρ:=[some (tI q),some (.lst (PS.map pD)),some (.lst (q.map Dt.int)),none,none,none,none])
  (λpre ρ=>∃w x3 x4 x5 x6,LJ m w/\(∀rest,PS=PS.take pre.length++rest->bP q rest w=bP q PS q)/\ρ=[some (tI q),some (.lst (PS.map pD)),some (.lst (w.map Dt.int)),x3,x4,x5,x6]) (λd=>d= .aT/\bP q PS q=none) ⟨q,none,none,none,none,hq,λrest e=>by rw[List.length_nil,List.take_zero,List.nil_append] at e;rw[<-e],rfl⟩ (by
   rintro pre x post ρ e ⟨w,x3,x4,x5,x6,hw,hC,rfl⟩;obtain⟨z,sN,rfl⟩:∃z,PS[pre.length]?=some z/\pD z=x:=by
    have h1:=congrArg (λl=>l[pre.length]?) e;simp only[Py,P9 (Pj _),Nat.sub_self,List.getElem?_cons_zero] at h1;cases jL:PS[pre.length]? with
    | none=>rw[jL] at h1;cases h1
    | some z=>rw[jL] at h1;exact⟨z,rfl,Option.some.inj h1⟩
   have hz:z∈PS:=List.mem_of_getElem? sN;have CO:PS=PS.take pre.length++z::PS.drop (pre.length + 1):=by
    have cJ:=(Pg.mp sN).1
    conv=>lhs;rw[<-List.take_append_drop pre.length PS]
    rw[List.drop_eq_getElem_cons cJ,(Pg.mp sN).2]
   have EK:=hC _ CO;have Nr:∀rest,PS=PS.take (pre.length + 1)++rest->rest=PS.drop (pre.length + 1):=λrest er=>by have:=congrArg (List.drop (pre.length + 1)) er;rw[List.drop_append_of_le_length (by have cJ:=(Pg.mp sN).1;rw[List.length_take];lia)] at this;rw[this,List.drop_take,Nat.sub_self,List.take_zero,List.nil_append]
   obtain⟨z1,z2,z3⟩:=st.pl z hz;have MQ:z.2≠[]:=λh=>by rw[h] at z2;simp at z2
   obtain⟨l,y,ey⟩:∃l y,z.2=l++[y]:=(pj z.2).resolve_left MQ;have hi:cF (tI z.2) (.int (-1))= .ok (.int y):=by show ua (z.2.map Dt.int) (-1)=_;rw[ey,Qb];unfold ua;have:lQ (l.map Dt.int++[y].map Dt.int) (-1)=some (.int y):=Mx.oB _ _;rw[this]
   have hc:fq (tI z.2) none (some (-1))= .ok (tI l):=by show R.ok (Dt.tup (cutD (z.2.map Dt.int) none (some (-1))))=_;rw[oI _ (by rw[Ne,List.map_eq_nil_iff];exact MQ),ey,Qb];simp[tI]
   have hl:l.length=m:=by rw[ey,Pv] at z2;simpa using z2
   have Ko:=AA (N:=N - 1) hp (by lia) (a:=l) (b:=q) hs (by lia);have F8:=gR (l:=z.2) (p:=z.1) (by lia);have zE:=Pp (st.pb z hz _ (cM (by lia:z.1 < z.2.length))) (qr hm);have II:d5 .dvm [.int (y - ag l q),.int (gI z.2 z.1)]= .ok (.tup [.int ((y - ag l q).fdiv (gI z.2 z.1)),.int ((y - ag l q).fmod (gI z.2 z.1))]):=by show ae (decide (gI z.2 z.1≠0)&&decide ((gI z.2 z.1).natAbs.log2 < 9000)) _=_;rw[PN z3,PN (uO zE z3)];rfl
   have jo:=Int.mul_fdiv_add_fmod (y - ag l q) (gI z.2 z.1);have FW:(y - ag l q).natAbs < 2 ^ 200:=by
    have NI:=qr hm;have b1:∀x∈z.2,x.natAbs<=jy 4:=λx hx=>Pp (st.pb z hz x hx) NI
    have b2:=tE (A:=jy 4) (B:=2 ^ 64) (l:=l) (q:=q) (λx hx=>b1 x (by rw[ey];exact List.mem_append_left _ hx)) λx hx=>Nat.le_of_lt (hs x hx)
    have b3:=b1 y (by rw[ey];simp);have b5:l.length * (jy 4 * 2 ^ 64)<=4 * (jy 4 * 2 ^ 64):=Nat.mul_le_mul_right _ (by lia);have b6:=Int.natAbs_sub_le y (ag l q);have b7:jy 4 + 4 * (jy 4 * 2 ^ 64) < 2 ^ 200:=by decide
    exact Nat.lt_of_le_of_lt (Pp b6 (Nat.add_le_add b3 (Pp b2 b5))) b7
   have IJ:cu z.2 q=y - ag l q:=by
    unfold cu;rw[ey,cC y (by rw[hl,hq.1])]
    lia
   rw[bP,IJ] at EK;generalize Kl:y - ag l q=nm at II jo FW EK;generalize nm.fdiv (gI z.2 z.1)=n at II jo EK;generalize nm.fmod (gI z.2 z.1)=rest at II jo EK;have l8:∀{ts:Ts} {r:RS},aW (aw fs (N - 1)) ts [some (tI q),some (.lst (PS.map pD)),some (.lst (w.map Dt.int)),some (.int z.1),some (tI z.2),some (.int n),some (.int rest)] none=r->
     aW (aw fs (N - 1)) (.cons (.asgT [5,6] (.bi .dvm (.cons (.bin .Sub (.idx (.var 4) (.neg (.con (.int 1)))) (.call ip (.cons (.sliH (.var 4) (.neg (.con (.int 1)))) (.cons (.var 0) .nil)) [])) (.cons (.idx (.var 4) (.var 3)) .nil)))) ts) [some (tI q),some (.lst (PS.map pD)),some (.lst (w.map Dt.int)),some (.int z.1),some (tI z.2),x5,x6] none=r:=λ {ts r} h=>by
    refine nx (ρ1:=[some (tI q),some (.lst (PS.map pD)),some (.lst (w.map Dt.int)),some (.int z.1),some (tI z.2),some (.int n),some (.int rest)]) (S1:=none) ?_ h;have hv:ev (aw fs (N - 1)) (.bi .dvm (.cons (.bin .Sub (.idx (.var 4) (.neg (.con (.int 1)))) (.call ip (.cons (.sliH (.var 4) (.neg (.con (.int 1)))) (.cons (.var 0) .nil)) [])) (.cons (.idx (.var 4) (.var 3)) .nil))) [some (tI q),some (.lst (PS.map pD)),some (.lst (w.map Dt.int)),some (.int z.1),some (tI z.2),x5,x6] none= .ok (.tup [.int n,.int rest],none):=by simp only[RX,hi,hc,Ko,F8,Kl,II]
    rw[ex,hv];rfl
   refine⟨[some (tI q),some (.lst (PS.map pD)),some (.lst (w.map Dt.int)),some (.int z.1),some (tI z.2),x5,x6],?_⟩;by_cases hb:(!(rest==0))=true\/n < 0
   ·refine⟨[some (tI q),some (.lst (PS.map pD)),some (.lst (w.map Dt.int)),some (.int z.1),some (tI z.2),some (.int n),some (.int rest)],rfl,.inr ⟨.aT,l8 (pF (S1:=none) ?_ (kI rfl)),rfl,by rw[<-EK,if_pos hb]⟩⟩;simp only[RX];rcases hb with h | h
    ·rw[h];rfl
    ·cases (!(rest==0)) with
     | true=>rfl
     | false=>rw[if_neg (by simp),PN h]
   ·have h1:(!(rest==0))=false:=by cases h:(!(rest==0)) with | true=>exact absurd (.inl h) hb | false=>rfl
    have h2:¬n < 0:=λz=>hb (.inr z)
    refine⟨_,rfl,.inl ⟨l8 (gW (S1:=none) (by simp only[RX,h1,PJ h2];rfl) (nx (zy (ds:=w.map Dt.int) (d:= .int n) (S1:=none) (S2:=none) (n:=(z.1:Int)) (j:=z.1) rfl rfl rfl rfl ?_) rfl)),w.set z.1 n,some (.int z.1),some (tI z.2),some (.int n),some (.int rest),⟨by rw[List.length_set];exact hw.1,λx hx=>?_⟩,?_,?_⟩⟩
    ·unfold ot;rw[Pn,if_pos (by lia),if_pos (by rw[hw.1];lia)];simp
    ·rcases List.mem_or_eq_of_mem_set hx with hx | hx
     ·exact hw.2 x hx
     ·subst hx;refine⟨by lia,Nat.lt_of_le_of_lt ?_ FW⟩;have r0:rest=0:=by simpa using h1
      have e:nm.natAbs=(gI z.2 z.1).natAbs * x.natAbs:=by rw[<-jo,r0,Int.add_zero,Int.natAbs_mul]
      rw[e];exact Nat.le_mul_of_pos_left _ (Int.natAbs_pos.mpr z3)
    ·intro rs er;rw[Pv,List.length_singleton] at er;rw[Nr rs er,<-EK,if_neg hb]
    ·rw[List.map_set];rfl)
 have body:∀{x:R (Dt×Sx)},fin (aW (aw fs (N - 1)) (.cons (.fr (.tp [3,4]) (.seq (.var 1)) (vF ip)) (.cons (.ret (.bi .tuple (.cons (.mvr 2) .nil))) .nil)) [some (tI q),some (.lst (PS.map pD)),some (.lst (q.map Dt.int)),none,none,none,none] none)=x->aw fs N ic [tI q,.lst (PS.map pD)] none=x:=λ {x} h=>by refine aB hf (by lia) rfl ?_;show fin (aW (aw fs (N - 1)) (zg ip) [some (tI q),some (.lst (PS.map pD)),none,none,none,none,none] none)=_;exact fP (d:= .lst (q.map Dt.int)) (S1:=none) rfl rfl h
 rcases loop with ⟨ρ',h1,w,x3,x4,x5,x6,hw,hC,rfl⟩ | ⟨d,ρ',h1,rfl,hC⟩
 ·have:=hC [] (by rw[Pn,List.take_length,P6]);rw[<-this];exact body (bw (ds:=PS.map pD) (S1:=none) rfl rfl h1 (ay rfl))
 ·rw[hC];refine body (gg (ρ1:=ρ') (S1:=none) ?_);rw[ex];exact h1
theorem BK {iu N:Nat} (hf:fs[iu]?=some ⟨2,4,false,uc⟩) (hN:1<=N) (a b:List Int):aw fs N iu [tI a,tI b] none= .ok (.bl (dH a b),none):=by
 have loop:=fR (S:=none) (tg:= .tp [2,3]) (body:=aW (aw fs (N - 1)) (.cons (.ifs (.cmp .Gt (.var 2) (.var 3)) (.cons (.ret (.con (.bl false))) .nil) .nil) .nil)) (ds:=cU (a.map Dt.int) (b.map Dt.int)) (ρ:=[some (tI a),some (tI b),none,none])
  (λpre ρ=>(∀q∈(a.zip b).take pre.length,q.1<=q.2)/\∃x y,ρ=[some (tI a),some (tI b),x,y]) (λd=>d= .bl false/\dH a b=false) ⟨by simp,none,none,rfl⟩ (by
   rintro pre x post ρ e ⟨hle,x2,x3,rfl⟩;rw[c9] at e;obtain⟨q,oZ,rfl⟩:∃q,(a.zip b)[pre.length]?=some q/\ .tup [.int q.1,.int q.2]=x:=by
    have h1:=congrArg (λl=>l[pre.length]?) e;simp only[Py,P9 (Pj _),Nat.sub_self,List.getElem?_cons_zero] at h1;cases jL:(a.zip b)[pre.length]? with
    | none=>rw[jL] at h1;cases h1
    | some z=>rw[jL] at h1;exact⟨z,rfl,Option.some.inj h1⟩
   refine⟨_,[some (tI a),some (tI b),some (.int q.1),some (.int q.2)],rfl,?_⟩;by_cases h:q.2 < q.1
   ·exact .inr ⟨_,pF (S1:=none) (by simp only[RX,PN h]) (kI rfl),rfl,by unfold dH;rw[List.all_eq_false];exact⟨q,List.mem_of_getElem? oZ,by simp;lia⟩⟩
   ·refine .inl ⟨gW (S1:=none) (by simp only[RX,PJ h]) rfl,λz hz=>?_,_,_,rfl⟩;rw[Pv,List.length_singleton,List.take_add_one,oZ] at hz;rcases PD.mp hz with hz | hz
    ·exact hle z hz
    ·have:z=q:=by simpa using hz
     subst this
     lia)
 have it:dN (aw fs (N - 1)) (.zip (.var 0) (.var 1)) [some (tI a),some (tI b),none,none] none= .ok (cU (a.map Dt.int) (b.map Dt.int),none):=i9 (S1:=none) (S2:=none) rfl rfl rfl rfl;rcases loop with ⟨ρ',h1,hle,x,y,rfl⟩ | ⟨d,ρ',h1,rfl,hu⟩
 ·have:dH a b=true:=by unfold dH;rw[PZ];intro q hq;refine PN (hle q ?_);rw[c9,Pn,List.take_length];exact hq
  rw[this];exact aB hf hN rfl (bw it rfl h1 (ay rfl))
 ·rw[hu];refine aB hf hN rfl (gg (ρ1:=ρ') (S1:=none) ?_);rw[ex];exact(congrArg (R.bind · _) it).trans h1
theorem G0 {iu io N:Nat} (hu:fs[iu]?=some ⟨2,4,false,uc⟩) (hf:fs[io]?=some ⟨2,3,false,B4 iu⟩) (hN:2<=N) (a:List Int) (M:List (List Int)):aw fs N io [tI a,lI M] none= .ok (.bl (cO a M),none):=by
 have loop:=fR (S:=none) (tg:= .nm 2) (body:=aW (aw fs (N - 1)) (.cons (.ifs (.call iu (.cons (.var 2) (.cons (.var 0) .nil)) []) (.cons (.ret (.con (.bl true))) .nil) .nil) .nil)) (ds:=M.map tI) (ρ:=[some (tI a),some (lI M),none])
  (λpre ρ=>(∀q∈M.take pre.length,dH q a=false)/\∃x,ρ=[some (tI a),some (lI M),x]) (λd=>d= .bl true/\cO a M=true) ⟨by simp,none,rfl⟩ (by
   rintro pre x post ρ e ⟨hle,x2,rfl⟩;obtain⟨q,oZ,rfl⟩:∃q,M[pre.length]?=some q/\tI q=x:=by
    have h1:=congrArg (λl=>l[pre.length]?) e;simp only[Py,P9 (Pj _),Nat.sub_self,List.getElem?_cons_zero] at h1;cases jL:M[pre.length]? with
    | none=>rw[jL] at h1;cases h1
    | some z=>rw[jL] at h1;exact⟨z,rfl,Option.some.inj h1⟩
   refine⟨_,[some (tI a),some (lI M),some (tI q)],rfl,?_⟩;have hv:=BK hu (N:=N - 1) (by lia) q a;cases hq:dH q a with
   | true=>rw[hq] at hv;exact .inr ⟨_,pF (S1:=none) (by simp only[RX,hv]) (kI rfl),rfl,by unfold cO;rw[P0];exact⟨q,List.mem_of_getElem? oZ,hq⟩⟩
   | false=>
    rw[hq] at hv;refine .inl ⟨gW (S1:=none) (by simp only[RX,hv]) rfl,λz hz=>?_,_,rfl⟩;rw[Pv,List.length_singleton,List.take_add_one,oZ] at hz;rcases PD.mp hz with hz | hz
    ·exact hle z hz
    ·have:z=q:=by simpa using hz
     subst this;exact hq)
 rcases loop with ⟨ρ',h1,hle,x,rfl⟩ | ⟨d,ρ',h1,rfl,hu⟩
 ·have:cO a M=false:=by unfold cO;rw[List.any_eq_false];intro q hq;rw[hle q (by rw[Pn,List.take_length];exact hq)];exact Bool.false_ne_true
  rw[this];exact aB hf (by lia) rfl (bw (ds:=M.map tI) (S1:=none) rfl rfl h1 (ay rfl))
 ·rw[hu];refine aB hf (by lia) rfl (gg (ρ1:=ρ') (S1:=none) ?_);rw[ex];exact h1
variable {fs:List Fn}
structure qj (m:Nat) (M:List (List Int)) (r:List Int):Prop where
 m1:1<=m
 m4:m<=4
 ln:M.length<=16
 rl:r.length=M.length
 wd:∀q∈M,q.length=m
 bd:∀q∈M,∀x∈q,x.natAbs<=3
 rb:∀x∈r,x.natAbs<=20
noncomputable def gX (m:Nat) (M:List (List Int)) (r:List Int):List (Nat×List Int):=(bN (rowsOf M r) m).1
noncomputable def lz (m:Nat) (M:List (List Int)) (r:List Int):Int:=fz (gX m M r).length (bp m (gX m M r)).length (bJ M) (gG r)
noncomputable def fY (m:Nat) (M:List (List Int)) (r:List Int):List (List Int):=if jx m (bN (rowsOf M r) m).2=true then[] else u9 m (lz m M r).toNat (gX m M r)
theorem wH {s f:Nat} {t g:Int} (hs:s<=4) (t0:0<=t) (t3:t<=3) (g0:0<=g) (OL:g<=20):0<=fz s f t g/\(fz s f t g).toNat<=gB s f:=by
 have ft:0<=(f:Int) * t/\(f:Int) * t<=3 * f:=⟨Int.mul_nonneg (by lia) t0,by have:=Int.mul_le_mul_of_nonneg_left t3 (show (0:Int)<=f by lia);lia⟩;have hx:g + (f:Int) * t<=20 + 3 * f:=by lia
 have ub:∀mi k:Int,mi<=k->0<=k->0<=mi->0<=mi * (g + (f:Int) * t)/\mi * (g + (f:Int) * t)<=k * (20 + 3 * f):=λmi k hk h1 h2=>⟨Int.mul_nonneg h2 (by lia),Int.mul_le_mul hk hx (by lia) h1⟩
 match s,hs with
 | 0,_=>exact⟨show (0:Int)<=1 by decide,Pj 1⟩
 | 1,_=>
  have:=ub 1 1 (by lia) (by lia) (by lia);show 0<=1 * (g + (f:Int) * t)/\(1 * (g + (f:Int) * t)).toNat<=20 + 3 * f
  lia
 | 2,_=>
  have:=ub (2 * t) 6 (by lia) (by lia) (by lia);show 0<=2 * t * (g + (f:Int) * t)/\(2 * t * (g + (f:Int) * t)).toNat<=6 * (20 + 3 * f)
  lia
 | 3,_=>
  have q:0<=t * t/\t * t<=9:=⟨Int.mul_nonneg t0 t0,by have:=Int.mul_le_mul t3 t3 t0 (by decide:(0:Int)<=3);lia⟩;have e3:4 * t * t=4 * (t * t):=Int.mul_assoc ..;have:=ub (4 * t * t) 36 (by lia) (by lia) (by lia);show 0<=4 * t * t * (g + (f:Int) * t)/\(4 * t * t * (g + (f:Int) * t)).toNat<=36 * (20 + 3 * f)
  lia
 | 4,_=>show 0<=(0:Int) * (g + (f:Int) * t)/\((0:Int) * (g + (f:Int) * t)).toNat<=0;rw[Int.zero_mul];exact⟨Int.le_refl _,Pj _⟩
theorem yq (M:List (List Int)):0<=bJ M:=by
 unfold bJ;by_cases e:zc M=[]
 ·rw[e];exact Int.le_refl 0
 ·obtain⟨q,hq,h'⟩:=List.mem_flatMap.mp (cw _ e).1;obtain⟨x,hx,ex⟩:=PY.mp h';rw[<-ex]
  lia
theorem jK {r:List Int} (h:∀x∈r,x.natAbs<=20):0<=gG r/\gG r<=20:=by
 unfold gG;by_cases e:(r.map λx=>(x.natAbs:Int))=[]
 ·rw[e];exact⟨Int.le_refl 0,by decide⟩
 ·obtain⟨x,hx,ex⟩:=PY.mp (cw _ e).1;rw[<-ex];have:=h x hx
  lia
section
variable {ip il is ig iw ic io:Nat} (H:vx fs ip il is ig iw ic io)
include H
theorem Hy {N m:Nat} {D:Dt} {M:List (List Int)} (hD:ei D M) {r:List Int} (hN:4<=N) (E:qj m M r):aw fs N io [D,.int m,tI r] none= .ok (lI (fY m M r),none)/\(fY m M r).length<=900000:=by
 have d6:lim=1000000:=rfl;obtain⟨h,sq⟩:=Hv H.l H.s (N:=N - 1) (by lia) hD E.m4 E.ln (by rw[E.rl];exact E.ln) E.wd E.bd E.rb;have st:=sq.st;cases zE:jx m (bN (rowsOf M r) m).2 with
 | true=>
  rw[zE,if_pos rfl] at h;have e:fY m M r=[]:=by unfold fY;rw[zE,if_pos rfl]
  rw[e];refine⟨aB H.o (by lia) rfl ?_,by simp⟩;show fin (aW (aw fs (N - 1)) (zi is ig iw ic) [some D,some (.int m),some (tI r),none,none,none,none,none] none)=_;exact aE (d:= .aT) (S1:=none) (by simp only[RX,h]) rfl (l6 (S1:=none) (by simp only[RX];rfl) (ay rfl))
 | false=>
 rw[zE,if_neg (by simp)] at h;have eV:fY m M r=u9 m (lz m M r).toNat (gX m M r):=by unfold fY;rw[zE,if_neg (by simp)]
 have eB:lz m M r=fz (gX m M r).length (bp m (gX m M r)).length (bJ M) (gG r):=rfl;have ep:gX m M r=(bN (rowsOf M r) m).1:=rfl;rw[eV,ep];rw[ep] at eB;have FS:(bN (rowsOf M r) m).1≠[]->M≠[]:=λdD e=>by
  obtain⟨z,hz⟩:=List.exists_mem_of_ne_nil _ dD;have e0:∀p,bN (rowsOf [] r) p=([],[]):=λp=>by
   induction p with
   | zero=>rfl
   | succ p ih=>unfold bN;rw[ih];rfl
  rw[e,e0 m] at hz;cases hz
 generalize (bN (rowsOf M r) m).1=PS at *;generalize (bN (rowsOf M r) m).2=LS at *;have nz:∀p∈PS.map (·.1),p < m:=λp hp=>by obtain⟨q,hq,rfl⟩:=PY.mp hp;exact(st.pl q hq).1
 have uE:=oR st.nd nz;rw[Pn] at uE
 let FR:=(List.range m).filter λp=> !decide (p∈PS.map (·.1))
 have h4:ev (aw fs (N - 1)) (.comp [none,none,none] (.seq (.var 3)) (.tp [1,2]) .nil (.var 1)) [some D,some (.int m),some (tI r),some (.lst (PS.map pD)),none,none,none,none] none= .ok (.lst ((PS.map (·.1)).map λ(p:Nat)=>Dt.int p),none):=by
  have hc:aK (aM (.tp [1,2]) (bh (aw fs (N - 1)) .nil) (bq (aw fs (N - 1)) (.var 1)) [none,none,none]) (PS.map pD) none= .ok (PS.map λq=> .int q.1,none):=aU λq hq=>aN (ρ1:=[none,some (.int q.1),some (tI q.2)]) rfl rfl rfl
  have e:(PS.map λq=>Dt.int (q.1:Int))=(PS.map (·.1)).map λ(p:Nat)=>Dt.int p:=by rw[List.map_map];rfl
  rw[e] at hc;exact aV (ds:=PS.map pD) (S1:=none) rfl (by rw[Pn];have:=E.m4;lia) rfl hc
 have h5:ev (aw fs (N - 1)) (.comp [none,none,some 4] (.rng1 (.var 1)) (.nm 1) (.cons (.cmp .NotIn (.var 1) (.var 2)) .nil) (.var 1)) [some D,some (.int m),some (tI r),some (.lst (PS.map pD)),some (.lst ((PS.map (·.1)).map λ(p:Nat)=>Dt.int p)),none,none,none] none= .ok (.lst (FR.map λ(p:Nat)=>Dt.int p),none):=by
  have er:aS 0 m=(List.range m).map λ(n:Nat)=>Dt.int n:=by unfold aS;exact List.map_congr_left λi _=>by rw[Int.zero_add]
  have hc:aK (aM (.nm 1) (bh (aw fs (N - 1)) (.cons (.cmp .NotIn (.var 1) (.var 2)) .nil)) (bq (aw fs (N - 1)) (.var 1)) [none,none,some (.lst ((PS.map (·.1)).map λ(p:Nat)=>Dt.int p))]) (aS 0 m) none= .ok ((List.range m).flatMap λp=>if (!decide (p∈PS.map (·.1)))=true then[Dt.int p] else[],none):=by
   rw[er];refine cg λp hp=>?_
   have CB:=zR p (PS.map (·.1));exact turn_if (ρ1:=[none,some (.int p),some (.lst ((PS.map (·.1)).map λ(p:Nat)=>Dt.int p))]) rfl (by rw[cH];show (cZ .NotIn (.int p) _).bind _=_;rw[CB];rfl) λ_=>⟨rfl,rfl⟩
  rw[gO] at hc;exact aV (ds:=aS 0 m) (S1:=none) (d7 (n:=m) rfl (by have:=E.m4;lia)) (by simp[aS];have:=E.m4;lia) rfl hc
 have jL:FR.length + PS.length=m:=uE;have m4:=E.m4;have dD:PS.length≠0->M≠[]:=λz=>FS λe=>z (by rw[e];rfl)
 have NO:=FK H.g (N:=N - 1) (by lia) hD E.m1 dD (λz e=>dD z (List.eq_nil_of_length_eq_zero (by rw[<-E.rl,e];rfl))) E.ln (by rw[E.rl];exact E.ln) E.wd E.m4 E.bd E.rb (s:=PS.length) (f:=FR.length) (by lia) (by lia);have IJ:=wH (s:=PS.length) (f:=FR.length) (by lia) (yq M) (rm (λq hq z hz=>by have:=E.bd q hq z hz;lia) (by decide)) (jK E.rb).1 (jK E.rb).2;have Na:bp m PS=FR:=rfl;rw[Na] at eB;obtain⟨g,eg⟩:∃g:Nat,(lz m M r).toNat=g:=⟨_,rfl⟩;have Nf:fz PS.length FR.length (bJ M) (gG r)=(g:Int):=by rw[<-eB];rw[<-eB] at IJ;lia
 have hg:aw fs (N - 1) ig [D,tI r,.int PS.length,.int FR.length] none= .ok (.int g,none):=by rw[<-Nf];exact NO
 have Mc:g<=gB PS.length FR.length:=by rw[<-eg,eB];exact IJ.2
 rw[eg];have IU:=Ha (m:=m) (by lia) E.m4 Mc;obtain⟨hq,EL⟩:=HW H.w (N:=N - 1) (by lia) (FR:=FR) E.m4 (λp hp=>Qd.mp (List.mem_filter.mp hp).1) IU;have hQ:∀q∈eT g FR [List.replicate m 0],q.length=m/\∀x∈q,(0:Int)<=x/\x<=(g:Int):=λq hq'=>by
  obtain⟨q0,k0,k1,k2,k3⟩:=iM.mp hq';rw[PX] at k0;subst k0;rw[List.length_replicate] at k1 k2 k3;refine⟨k1,λx hx=>?_⟩;obtain⟨i,hi,rfl⟩:=sG hx;by_cases hf:i∈FR
  ·obtain⟨n,hn,e⟩:=k3 i hf (by lia)
   lia
  ·rw[k2 i (by lia) hf,fS]
   lia
 have eL:u9 m g PS=(eT g FR [List.replicate m 0]).filterMap λq=>bP q PS q:=rfl
 rw[eL];generalize eT g FR [List.replicate m 0]=Q at hq EL hQ;have OM:g < 2 ^ 64:=Nat.lt_of_le_of_lt Mc (by
  have hs:PS.length<=4:=by lia
  have hf:FR.length<=4:=by lia
  generalize PS.length=s at hs;generalize FR.length=f at hf
  match s,hs with
  | 0,_=>simp only[gB];lia
  | 1,_=>simp only[gB];lia
  | 2,_=>simp only[gB];lia
  | 3,_=>simp only[gB];lia
  | 4,_=>simp only[gB];lia)
 let cf:List Int->Dt:=λq=>(bP q PS q).elim .aT tI
 have LO:∀q∈Q,aw fs (N - 1) ic [tI q,.lst (PS.map pD)] none= .ok (cf q,none)/\(cf q= .aT\/∃q',cf q=tI q'):=λq hq'=>by
  have ET:=hQ q hq';refine⟨Fu H.p H.c (N:=N - 1) (by lia) E.m4 st (q:=q) ⟨ET.1,λx hx=>⟨(ET.2 x hx).1,by have:=ET.2 x hx;lia⟩⟩ (λx hx=>by have:=ET.2 x hx;show x.natAbs < _;lia),?_⟩;show (bP q PS q).elim Dt.aT tI= .aT\/∃q',(bP q PS q).elim Dt.aT tI=tI q';cases bP q PS q with
  | none=>exact .inl rfl
  | some x=>exact .inr ⟨x,rfl⟩
 have wM:ev (aw fs (N - 1)) (.call iw (.cons (.var 1) (.cons (.var 5) (.cons (.var 6) .nil))) []) [some D,some (.int m),some (tI r),some (.lst (PS.map pD)),some (.lst ((PS.map (·.1)).map λ(p:Nat)=>Dt.int p)),some (.lst (FR.map λ(p:Nat)=>Dt.int p)),some (.int g),none] none= .ok (lI Q,none):=by simp only[RX,hq]
 have h7:ev (aw fs (N - 1)) (.comp [none,none,some 3] (.seq (.call iw (.cons (.var 1) (.cons (.var 5) (.cons (.var 6) .nil))) [])) (.nm 1) .nil (.call ic (.cons (.var 1) (.cons (.var 2) .nil)) [])) [some D,some (.int m),some (tI r),some (.lst (PS.map pD)),some (.lst ((PS.map (·.1)).map λ(p:Nat)=>Dt.int p)),some (.lst (FR.map λ(p:Nat)=>Dt.int p)),some (.int g),none] none= .ok (.lst (Q.map cf),none):=by
  have hc:aK (aM (.nm 1) (bh (aw fs (N - 1)) .nil) (bq (aw fs (N - 1)) (.call ic (.cons (.var 1) (.cons (.var 2) .nil)) [])) [none,none,some (.lst (PS.map pD))]) (Q.map tI) none= .ok (Q.map cf,none):=aU λq hq'=>by
   obtain⟨k1,k2⟩:=LO q hq';exact aN (ρ1:=[none,some (tI q),some (.lst (PS.map pD))]) rfl (by simp only[RX,k1]) (by
    unfold bO;rcases k2 with e | ⟨q',e⟩
    ·rw[e];exact Bool.or_true _
    ·rw[e,cA,Bool.or_true])
  exact aV (ds:=Q.map tI) (S1:=none) (i8 wM rfl) (by rw[Pn];lia) rfl hc
 let keep:List (List Int):=Q.filterMap λq=>bP q PS q
 have h8:ev (aw fs (N - 1)) (.comp [none,none] (.seq (.var 7)) (.nm 1) (.cons (.cmp .IsNot (.var 1) (.con .aT)) .nil) (.var 1)) [some D,some (.int m),some (tI r),some (.lst (PS.map pD)),some (.lst ((PS.map (·.1)).map λ(p:Nat)=>Dt.int p)),some (.lst (FR.map λ(p:Nat)=>Dt.int p)),some (.int g),some (.lst (Q.map cf))] none= .ok (lI keep,none):=by
  have hc:aK (aM (.nm 1) (bh (aw fs (N - 1)) (.cons (.cmp .IsNot (.var 1) (.con .aT)) .nil)) (bq (aw fs (N - 1)) (.var 1)) [none,none]) (Q.map cf) none= .ok (Q.flatMap λq=>(match cf q with | .tup ds=>[Dt.tup ds] | _=>[]),none):=cg λq hq'=>by
   rcases (LO q hq').2 with e | ⟨q',e⟩
   ·rw[e];exact turn_if (b:=false) (y:= .aT) (ρ1:=[none,some .aT]) rfl rfl λz=>by cases z
   ·rw[e];exact turn_if (b:=true) (y:=tI q') (ρ1:=[none,some (tI q')]) rfl rfl λz=>⟨rfl,by unfold bO;rw[cA,Bool.or_true]⟩
  have e:(Q.flatMap λq=>(match cf q with | .tup ds=>[Dt.tup ds] | _=>[]))=keep.map tI:=by
   have:∀l:List (List Int),(l.flatMap λq=>(match cf q with | .tup ds=>[Dt.tup ds] | _=>[]))=(l.filterMap λq=>bP q PS q).map tI:=by
    intro l
    induction l with
    | nil=>rfl
    | cons q l ih=>
     rw[List.flatMap_cons,List.filterMap_cons,ih];show (match (bP q PS q).elim Dt.aT tI with | .tup ds=>[Dt.tup ds] | _=>[])++_=_;cases bP q PS q with
     | none=>rfl
     | some x=>rfl
   exact this Q
  rw[e] at hc;exact aV (ds:=Q.map cf) (S1:=none) rfl (by rw[Pn];lia) rfl hc
 refine⟨aB H.o (by lia) rfl ?_,Pp (List.length_filterMap_le _ _) EL⟩;show fin (aW (aw fs (N - 1)) (zi is ig iw ic) [some D,some (.int m),some (tI r),none,none,none,none,none] none)=_;refine aE (d:= .lst (PS.map pD)) (S1:=none) (by simp only[RX,h]) rfl (dS (S1:=none) (by simp only[RX];rfl) (aE (S1:=none) h4 rfl (aE (S1:=none) h5 rfl (aE (d:= .int g) (S1:=none) ?_ rfl (aE (S1:=none) h7 rfl (ay h8))))));have l4:d5 .len [.lst ((PS.map (·.1)).map λ(p:Nat)=>Dt.int p)]= .ok (.int PS.length):=by show R.ok (Dt.int (((PS.map (·.1)).map λ(p:Nat)=>Dt.int p).length:Nat))=_;rw[Pn,Pn]
 have l5:d5 .len [.lst (FR.map λ(p:Nat)=>Dt.int p)]= .ok (.int FR.length):=by show R.ok (Dt.int ((FR.map λ(p:Nat)=>Dt.int p).length:Nat))=_;rw[Pn]
 simp only[RX,l4,l5,hg]
end
variable {fs:List Fn}
theorem Eb {Q:List (List Int)} {m:Nat} (hm:1<=m) (hl:Q.length<=900000) (h:∀q∈Q,q.length=m):d5 .sorted [lI Q]= .ok (lI (iW Q)):=by
 have hd:∀q:List Int,Mx.D.dh (q.map Mx.D.int)=0:=λq=>by
  induction q with
  | nil=>rfl
  | cons x q ih=>simp[Mx.D.dh,Mx.D.dep,ih]
 have M6:jz (Q.map dI)=true:=by
  refine Ci .ti (by rw[Pn];lia) (sk λd qf=>?_) (λd qf=>?_) λd qf e he=>?_
  ·obtain⟨q,_,rfl⟩:=PY.mp qf;simp[dI,Mx.D.dep,hd]
  ·obtain⟨q,hq,rfl⟩:=PY.mp qf;have:=h q hq;cases q with
   | nil=>simp at this;lia
   | cons x q=>rfl
  ·obtain⟨q,_,rfl⟩:=PY.mp qf;obtain⟨q2,_,rfl⟩:=PY.mp he;simp only[dI,uN];exact nG q q2
 have pm:=gZ (Q.map dI);unfold iW;rw[Bt,(ud M6).1,Bt,List.map_map];congr 3;have:∀l:List Mx.D,(∀y∈l,y∈Q.map dI)->l.map (dI ∘ HS)=l:=by
  intro l
  induction l with
  | nil=>intro _;rfl
  | cons y l ih=>intro h;obtain⟨q,_,rfl⟩:=PY.mp (h y Pk);rw[Qa,ih λz hz=>h z (Ph _ hz)];simp only[Function.comp,p8]
 exact(this _ λy hy=>pm.mem_iff.mp hy).symm
theorem AR (Q:List (List Int)):(iW Q).length=Q.length:=by unfold iW;rw[Pn,(gZ _).length_eq,Pn]
noncomputable def zeros (n:Nat):List Int:=List.replicate n 0
noncomputable def bE (m:Nat) (M:List (List Int)):List (List Int):=aR (iW (fY m M (zeros M.length))) []
theorem qj.brk {m:Nat} {M:List (List Int)} {r:List Int} (E:qj m M r) {r':List Int} (h:∀x∈r',x.natAbs<=20):Rx.brk M m r'=false:=by
 have h1:ue M=false:=by
  unfold ue;rw[List.any_eq_false];intro q hq z;obtain⟨x,hx,hz⟩:=P0.mp z;have:=Pf hz;have:=E.bd q hq x hx
  lia
 have h2:uf r'=false:=by
  unfold uf;rw[List.any_eq_false];intro x hx z;have:=Pf z;have:=h x hx
  lia
 unfold Rx.brk;rw[h1,h2,PJ (by have:=E.ln;lia),PJ (by have:=E.m4;lia)];rfl
theorem qj.sq {m:Nat} {M:List (List Int)} {r:List Int} (E:qj m M r):Sq m m (rowsOf M r) (gX m M r) (bN (rowsOf M r) m).2:=by
 refine Sq.all ⟨λq hq=>?_,λq hq x hx=>?_,by simp,by simp,by simp,by simp,by simp⟩ m (Pj _)
 ·obtain⟨z,hz,rfl⟩:=PY.mp hq;rw[Pv,E.wd _ (List.of_mem_zip hz).1];rfl
 ·obtain⟨z,hz,rfl⟩:=PY.mp hq;show x.natAbs<=20;rcases PD.mp hx with hx | hx
  ·have:=E.bd _ (List.of_mem_zip hz).1 x hx;lia
  ·rw[PX] at hx;subst hx;exact E.rb _ (List.of_mem_zip hz).2
theorem qj.M4 {m:Nat} {M:List (List Int)} {r:List Int} (E:qj m M r):0<=lz m M r:=by have h:=oQ (p:=0) E.sq;exact(wH (by have:=E.m4;lia) (yq M) (rm (λq hq z hz=>by have:=E.bd q hq z hz;lia) (by decide)) (jK E.rb).1 (jK E.rb).2).1
theorem fV {m:Nat} {M:List (List Int)} {r x:List Int} (E:qj m M r):x∈fY m M r↔x.length=m/\(∀i,i < m->0<=gI x i)/\fJ M r x/\∀i∈bp m (gX m M r),gI x i<=lz m M r:=by
 have hb:=E.M4;unfold fY;cases zE:jx m (bN (rowsOf M r) m).2 with
 | true=>
  rw[if_pos rfl];constructor
  ·intro h;cases h
  ·rintro⟨h1,_,h3,_⟩;have:=((E.sq.sol E.wd h1).mp h3).1;rw[zE] at this;cases this
 | false=>
  rw[if_neg (by simp),Aa E.sq];constructor
  ·rintro⟨h1,h2,h3,h4⟩;exact⟨h1,h2,(E.sq.sol E.wd h1).mpr ⟨zE,h3⟩,λi hi=>by have:=h4 i hi;lia⟩
  ·rintro⟨h1,h2,h3,h4⟩;exact⟨h1,h2,((E.sq.sol E.wd h1).mp h3).2,λi hi=>by have:=h4 i hi;lia⟩
theorem i6 (n:Nat):gG (zeros n)=0:=by
 unfold gG;by_cases e:((zeros n).map λx=>(x.natAbs:Int))=[]
 ·rw[e];rfl
 ·obtain⟨x,hx,ex⟩:=PY.mp (cw _ e).1;rw[<-ex,List.eq_of_mem_replicate hx];rfl
theorem ph {m:Nat} {M:List (List Int)} (E:qj m M (zeros M.length)):
  (∀f∈bE m M,f.length=m/\(∀i,i < m->0<=gI f i)/\(∀q∈M,ag q f=0)/\0 < f.sum)/\(bE m M).Pairwise y7/\
  ∀x:List Int,x.length=m->(∀i,i < m->0<=gI x i)->0 < x.sum->x.sum<=([0,30,20,10,7]:List Int).getD m 0->(∀q∈M,ag q x=0)->cO x (bE m M)=true:=by
 have hm:∀f∈bE m M,f∈fY m M (zeros M.length)/\0 < f.sum:=λf hf=>by
  rcases ml hf with h | ⟨h1,h2⟩
  ·cases h
  ·exact⟨nT.mp h1,h2⟩
 refine⟨λf hf=>?_,?_,λx hx hn h0 hT hs=>?_⟩
 ·obtain⟨h1,h2⟩:=hm f hf;obtain⟨k1,k2,k3,_⟩:=(fV E).mp h1;exact⟨k1,k2,bf.mp k3,h2⟩
 ·refine iI (m:=m) (λq hq=>((fV E).mp (nT.mp hq)).1) (by simp) (rf _) (by simp) List.Pairwise.nil
 ·obtain⟨y,y1,y2,y3,y4,y5,y6⟩:=near E.m4 E.wd E.bd E.sq hx hn h0 hT hs;have hy:y∈fY m M (zeros M.length):=(fV E).mpr ⟨y1,y2,(E.sq.sol E.wd y1).mpr ⟨((E.sq.sol E.wd hx).mp (bf.mpr hs)).1,y5⟩,λi hi=>by
   have:=y6 i hi;unfold lz;rw[i6];exact this⟩
  have ho:=mn (F:=[]) (nT.mpr hy) y4;obtain⟨f,hf,hu⟩:=P0.mp ho;refine P0.mpr ⟨f,hf,?_⟩;have lf:=((fV E).mp (hm f hf).1).1;exact vf (by rw[lf,y1]) (by rw[y1,hx]) hu y3
noncomputable def dq (l:List Int):List Int:=l.map λz=>0 - z
theorem cz (l:List Int):(dq l).length=l.length:=by simp[dq]
theorem jt (l:List Int) (i:Nat):gI (dq l) i= - gI l i:=by
 unfold dq gI;rw[List.getD,Py,List.getD];cases l[i]? with
 | none=>rfl
 | some z=>show 0 - z= -z;lia
theorem GM (l:List Int):dq (dq l)=l:=by
 unfold dq;rw[List.map_map]
 conv=>rhs;rw[<-List.map_id l]
 exact List.map_congr_left λz _=>by show 0 - (0 - z)=z;lia
theorem Df (a b:List Int):dq (a++b)=dq a++dq b:=Qb ..
theorem se {r b:List Int} {p:Nat} (h:r.length=b.length):bg (dq r) p b=dq (bg r p b):=by
 refine kg (by rw[cn (by rw[cz,h]),cz,cz,cn h]) λi hi=>?_
 rw[cn (by rw[cz,h]),cz] at hi;rw[cm (by rw[cz,h]) (by rw[cz];exact hi),jt,jt,jt,cm h hi]
 grind
theorem sf {r b:List Int} {p:Nat} (h:r.length=b.length):bg r p (dq b)=dq (bg r p b):=by
 refine kg (by rw[cn (by rw[cz,h]),cz,cn h]) λi hi=>?_
 rw[cn (by rw[cz,h])] at hi;rw[cm (by rw[cz,h]) hi,jt,jt,jt,cm h hi]
 grind
noncomputable def NR (n:Nat) (a b:List Int):Prop:=a.length=n/\(b=a\/b=dq a)
theorem NR.Be {n p:Nat} {r r' b b':List Int} (h:NR n r r') (k:NR n b b'):NR n (bg r p b) (bg r' p b'):=by
 have hl:r.length=b.length:=by rw[h.1,k.1]
 refine⟨by rw[cn hl,h.1],?_⟩;rcases h.2 with e | e <;> rcases k.2 with f | f <;> rw[e,f]
 ·exact .inl rfl
 ·exact .inr (sf hl)
 ·exact .inr (se hl)
 ·exact .inl (by rw[se (by rw[cz,hl]),sf hl,GM])
theorem NR.zero {n:Nat} {a b:List Int} (h:NR n a b) (p:Nat):(gI b p==0)=(gI a p==0):=by
 rcases h.2 with e | e <;> rw[e]
 rw[jt,Bool.eq_iff_iff,beq_iff_eq,beq_iff_eq]
 lia
theorem uT {n p:Nat} {LS LG:List (List Int)} (h:Paired (NR n) LS LG):Paired (NR n) (LS.filter λq=> !(gI q p==0)) (LG.filter λq=> !(gI q p==0)):=by
 induction h with
 | nil=>exact .nil
 | @cons a b as bs h _ ih=>
  rw[List.filter_cons,List.filter_cons,h.zero p];split
  ·exact .cons h ih
  ·exact ih
theorem xN {α β γ δ:Type} {R:α->β->Prop} {S:γ->δ->Prop} {f:α->γ} {g:β->δ} (h:∀a b,R a b->S (f a) (g b)) {xs:List α} {ys:List β} (p:Paired R xs ys):Paired S (xs.map f) (ys.map g):=by
 induction p with
 | nil=>exact .nil
 | cons k _ ih=>exact .cons (h _ _ k) ih
theorem Dz {α β:Type} {R:α->β->Prop} {xs vh:List α} {ys EB:List β} (p:Paired R xs ys) (q:Paired R vh EB):Paired R (xs++vh) (ys++EB):=by
 induction p with
 | nil=>exact q
 | cons k _ ih=>exact .cons k ih
noncomputable def NP (n:Nat) (a b:Nat×List Int):Prop:=a.1=b.1/\NR n a.2 b.2
theorem Ag {n p:Nat} {S S':List (Nat×List Int)×List (List Int)} (h1:Paired (NP n) S.1 S'.1) (h2:Paired (NR n) S.2 S'.2):Paired (NP n) (dZ p S).1 (dZ p S').1/\Paired (NR n) (dZ p S).2 (dZ p S').2:=by
 have hf:=uT (p:=p) h2;unfold dZ;generalize (S.2.filter λq=> !(gI q p==0))=a at hf;generalize (S'.2.filter λq=> !(gI q p==0))=b at hf;cases hf with
 | nil=>exact⟨h1,h2⟩
 | @cons b b' _ _ hb _=>exact⟨Dz (xN (λx y k=>⟨k.1,k.2.Be hb⟩) h1) (.cons ⟨rfl,hb⟩ .nil),xN (λx y k=>k.Be hb) h2⟩
theorem qU {n:Nat} {L L':List (List Int)} (h:Paired (NR n) L L'):∀p,Paired (NP n) (bN L p).1 (bN L' p).1/\Paired (NR n) (bN L p).2 (bN L' p).2
 | 0=>⟨.nil,h⟩
 | p + 1=>Ag (qU h p).1 (qU h p).2
theorem Az (l z:List Int):ag (dq l) z= - ag l z:=by
 induction l generalizing z with
 | nil=>rfl
 | cons a l ih=>cases z with
  | nil=>rfl
  | cons b z=>
   show ag ((0 - a)::dq l) (b::z)=_;rw[aA,aA,ih]
   grind
theorem Af {n:Nat} {q:List Int}:∀{PS ED:List (Nat×List Int)},Paired (NP n) PS ED->∀w,bP q ED w=bP q PS w:=by
 intro PS ED h
 induction h with
 | nil=>intro w;rfl
 | @cons a b as bs h _ ih=>
  intro w;obtain⟨a1,a2⟩:=a;obtain⟨b1,b2⟩:=b;obtain⟨h1,_,h2⟩:=h;have h1:a1=b1:=h1;subst h1;unfold bP;rcases h2 with e | e
  ·have e:b2=a2:=e;subst e;simp only[ih]
  ·have e:b2=dq a2:=e;subst e;have g1:cu (dq a2) q= - cu a2 q:=by unfold cu;rw[Az]
   have g2:gI (dq a2) a1= - gI a2 a1:=jt a2 a1;have f1:(- cu a2 q).fdiv (- gI a2 a1)=(cu a2 q).fdiv (gI a2 a1):=Int.neg_fdiv_neg ..;have f2:((- cu a2 q).fmod (- gI a2 a1)==0)=((cu a2 q).fmod (gI a2 a1)==0):=by
    rw[Int.fmod_def,Int.fmod_def,f1,Bool.eq_iff_iff,beq_iff_eq,beq_iff_eq];generalize (cu a2 q).fdiv (gI a2 a1)=n;have: -gI a2 a1 * n= - (gI a2 a1 * n):=Int.neg_mul ..;rw[this]
    lia
   simp only[g1,g2,f1,f2,ih]
theorem uS {n:Nat} {PS ED:List (Nat×List Int)} (h:Paired (NP n) PS ED):ED.map (·.1)=PS.map (·.1):=by
 induction h with
 | nil=>rfl
 | cons k _ ih=>rw[Qa,Qa,ih,k.1]
theorem Ei (M:List (List Int)):bJ (M.map dq)=bJ M:=by unfold bJ zc;rw[List.flatMap_map];congr 2;funext q;show (dq q).map _=_;unfold dq;rw[List.map_map];exact List.map_congr_left λz _=>by show (((0 - z).natAbs:Nat):Int)=_;lia
theorem xj {m:Nat} {M:List (List Int)} (E:qj m M (zeros M.length)):bE m (M.map dq)=bE m M:=by
 have El:qj m (M.map dq) (zeros (M.map dq).length):=⟨E.m1,E.m4,by rw[Pn];exact E.ln,by simp[zeros],λq hq=>by obtain⟨q0,h0,rfl⟩:=PY.mp hq;rw[cz];exact E.wd q0 h0,λq hq x hx=>by
  obtain⟨q0,h0,rfl⟩:=PY.mp hq;obtain⟨z,hz,rfl⟩:=PY.mp hx;have:=E.bd q0 h0 z hz
  lia,λx hx=>by rw[List.eq_of_mem_replicate hx];decide⟩
 have hp:∀M:List (List Int),(∀q∈M,q.length=m)->Paired (NR (m + 1)) (M.map λq=>q++[0]) ((M.map dq).map λq=>q++[0]):=by
  intro M
  induction M with
  | nil=>intro _;exact .nil
  | cons q M ih=>intro h;refine .cons ⟨by rw[Pv,h q Pk];rfl,.inr ?_⟩ (ih λz hz=>h z (Ph _ hz));rw[Df];rfl
 have hs:=qU (hp M E.wd) m;have e1:rowsOf M (zeros M.length)=M.map λq=>q++[0]:=eU M
 have e2:rowsOf (M.map dq) (zeros (M.map dq).length)=(M.map dq).map λq=>q++[0]:=eU _
 rw[<-e1,<-e2] at hs;have b1:jx m (bN (rowsOf M (zeros M.length)) m).2=false:=((E.sq.sol E.wd (x:=List.replicate m 0) (by simp)).mp (bf.mpr λq _=>dz q m)).1;have b2:jx m (bN (rowsOf (M.map dq) (zeros (M.map dq).length)) m).2=false:=((El.sq.sol El.wd (x:=List.replicate m 0) (by simp)).mp (bf.mpr λq _=>dz q m)).1;have pl:(gX m (M.map dq) (zeros (M.map dq).length)).map (·.1)=(gX m M (zeros M.length)).map (·.1):=uS hs.1;have ln:(gX m (M.map dq) (zeros (M.map dq).length)).length=(gX m M (zeros M.length)).length:=by have:=congrArg List.length pl;simpa using this
 have fr:bp m (gX m (M.map dq) (zeros (M.map dq).length))=bp m (gX m M (zeros M.length)):=by unfold bp;rw[pl]
 have bn:lz m (M.map dq) (zeros (M.map dq).length)=lz m M (zeros M.length):=by unfold lz;rw[ln,fr,Ei,i6,i6]
 unfold bE;congr 2;unfold fY;rw[b1,b2,if_neg (by simp),if_neg (by simp),bn];unfold u9;rw[fr];congr 1;funext q;exact Af hs.1 q
variable {fs:List Fn}
theorem qL (Q Q' F:List (List Int)):aR (Q++Q') F=aR Q' (aR Q F):=by
 induction Q generalizing F with
 | nil=>rfl
 | cons q Q ih=>rw[List.cons_append,aR,aR,ih]
theorem kB (Q F:List (List Int)):(aR Q F).length<=Q.length + F.length:=by
 induction Q generalizing F with
 | nil=>simp[aR]
 | cons q Q ih=>
  rw[aR,Px];refine Pp (ih _) ?_;split
  ·rw[Pv,List.length_singleton];lia
  ·lia
structure A4 (fs:List Fn) (ip il is ig iw ic io ik iu iv ie:Nat):Prop where
 S:vx fs ip il is ig iw ic io
 k:fs[ik]?=some ⟨3,3,false,zf⟩
 u:fs[iu]?=some ⟨2,4,false,uc⟩
 v:fs[iv]?=some ⟨2,3,false,B4 iu⟩
 e:fs[ie]?=some ⟨2,4,false,B3 ik io iv⟩
section
variable {ip il is ig iw ic io ik iu iv ie:Nat} (H:A4 fs ip il is ig iw ic io ik iu iv ie)
include H
theorem xy {N m:Nat} {D:Dt} {M:List (List Int)} (hD:ei D M) (hN:6<=N) (E:qj m M (zeros M.length)):aw fs N ie [D,.int m] none= .ok (lI (bE m M),none)/\(bE m M).length<=900000:=by
 have d6:lim=1000000:=rfl;have hk:=Ft H.k (N:=N - 1) (by lia) hD (M:=M) (many:=m) (r:=[]) (by have:=E.ln;lia) (λq hq=>by rw[E.wd q hq];have:=E.m4;lia) (by simp) (E.brk (r':=[]) (by simp));have hk:aw fs (N - 1) ik [D,.int m,.tup []] none= .ok (.aT,none):=hk;obtain⟨hq,EL⟩:=Hy H.S (N:=N - 1) hD (by lia) E;have hQ:∀q∈fY m M (zeros M.length),q.length=m:=λq h=>((fV E).mp h).1
 have hs:=Eb E.m1 EL hQ;have ln:=hD.ln;have Gg:=tK (m:=M.length) 0 (by have:=E.ln;lia);have l2:(iW (fY m M (zeros M.length))).length<=900000:=by rw[AR];exact EL
 have eV:bE m M=aR (iW (fY m M (zeros M.length))) []:=rfl;rw[eV];have hq:aw fs (N - 1) io [D,.int m,tI (List.replicate M.length 0)] none= .ok (lI (fY m M (zeros M.length)),none):=hq;generalize fY m M (zeros M.length)=Q at hq hs l2 hQ;generalize iW Q=Q' at hs l2;have loop:=bx (S:=none) (tg:= .nm 3) (body:=aW (aw fs (N - 1)) (.cons (.ifs (.and (.cmp .Gt (.bi .sum (.cons (.var 3) .nil)) (.con (.int 0))) (.nt (.call iv (.cons (.var 3) (.cons (.mvr 2) .nil)) []))) (.cons (.app 2 (.var 3)) .nil) .nil) .nil)) (ds:=Q'.map tI) (ρ:=[some D,some (.int m),some (lI []),none])
  (λpre ρ=>∃x,ρ=[some D,some (.int m),some (lI (aR (Q'.take pre.length) [])),x]) ⟨none,by rw[List.length_nil,List.take_zero];rfl⟩ (by
   rintro pre x post ρ e ⟨x3,rfl⟩;obtain⟨q,oZ,rfl⟩:∃q,Q'[pre.length]?=some q/\tI q=x:=by
    have h1:=congrArg (λl=>l[pre.length]?) e;simp only[Py,P9 (Pj _),Nat.sub_self,List.getElem?_cons_zero] at h1;cases jL:Q'[pre.length]? with
    | none=>rw[jL] at h1;cases h1
    | some z=>rw[jL] at h1;exact⟨z,rfl,Option.some.inj h1⟩
   have qh:pre.length < Q'.length:=(Pg.mp oZ).1;have e1:aR (Q'.take (pre++[tI q]).length) []=if (decide (0 < q.sum)&& !cO q (aR (Q'.take pre.length) []))=true then aR (Q'.take pre.length) []++[q] else aR (Q'.take pre.length) []:=by rw[Pv,List.length_singleton,List.take_add_one,oZ,qL];rfl
   have hF:(aR (Q'.take pre.length) []).length<=900000:=by
    have:=kB (Q'.take pre.length) [];rw[List.length_take,List.length_nil] at this
    lia
   have hv:=G0 H.u H.v (N:=N - 1) (by lia) q (aR (Q'.take pre.length) []);generalize aR (Q'.take pre.length) []=F at *;have Kr:=nX q;by_cases h0:0 < q.sum
   ·cases ho:cO q F with
    | true=>rw[ho] at hv e1;exact⟨_,_,rfl,gW (S1:=none) (by simp only[RX,Kr,PN h0,hv];rfl) rfl,some (tI q),by rw[e1,Bool.not_true,Bool.and_false,if_neg (by simp)];rfl⟩
    | false=>rw[ho] at hv e1;refine⟨_,_,rfl,pF (S1:=none) (by simp only[RX,Kr,PN h0,hv];rfl) (qW (ds:=F.map tI) (d:=tI q) (S1:=none) rfl rfl (by unfold bO;rw[cA,Bool.or_true]) (by rw[Pn];lia) rfl),some (tI q),?_⟩;rw[e1,Bool.not_false,Bool.and_true,PN h0,if_pos rfl];unfold lI;rw[Qb];rfl
   ·exact⟨_,_,rfl,gW (S1:=none) (by simp only[RX,Kr,PJ h0];rfl) rfl,some (tI q),by rw[e1,PJ h0,Bool.false_and,if_neg (by simp)];rfl⟩)
 obtain⟨ρ1,bQ,x3,rfl⟩:=loop;rw[Pn,List.take_length] at bQ;have Nw:=kB Q' [];rw[List.length_nil] at Nw;refine⟨aB H.e (by lia) rfl ?_,by lia⟩;show fin (aW (aw fs (N - 1)) (B3 ik io iv) [some (D),some (.int m),none,none] none)=_;refine fQ (ρ1:=[some (D),some (.int m),none,none]) (S1:=none) (by rw[ex];simp only[RX,hk]) (fP (d:= .lst []) (S1:=none) rfl rfl (bw (ds:=Q'.map tI) (S1:=none) (i8 (d:=lI Q') ?_ rfl) rfl bQ (ay rfl)));simp only[RX,ln,Gg,hq,hs]
end
variable {fs:List Fn}
theorem i3 {α:Type} {t:α->Dt} {L:List α} {pre post:List Dt} {x:Dt} (e:L.map t=pre++x::post):∃q,L[pre.length]?=some q/\t q=x:=by
 have h1:=congrArg (λl=>l[pre.length]?) e;simp only[Py,P9 (Pj _),Nat.sub_self,List.getElem?_cons_zero] at h1;cases jL:L[pre.length]? with
 | none=>rw[jL] at h1;cases h1
 | some z=>rw[jL] at h1;exact⟨z,rfl,Option.some.inj h1⟩
theorem jh {α:Type} {L:List α} {k:Nat} {q:α} (h:L[k]?=some q):L.take (k + 1)=L.take k++[q]:=by rw[List.take_add_one,h];rfl
theorem mH (l:List Int):fu (l.map Dt.int)=some (l.map Mx.D.int):=by
 induction l with
 | nil=>rfl
 | cons x l ih=>rw[Qa,fu,ih];simp[toD]
theorem uw (q:List Int):Mx.D.dh (q.map Mx.D.int)=0:=by
 induction q with
 | nil=>rfl
 | cons x q ih=>simp[Mx.D.dh,Mx.D.dep,ih]
theorem FI (a b:List Int):cZ .GtE (tI a) (tI b)= .ok (!ltI a b):=by
 show (match fu (a.map Dt.int),fu (b.map Dt.int) with
  | some xs,some ys=>ae (lE xs ys&&decide (Mx.D.dh xs<=100)) (R.ok (!Mx.D.dc xs ys))
  | _,_=> .bad)=_
 rw[mH,mH];dsimp only;rw[nG,uw];rfl
theorem xm (l:List Int):d5 .len [tI l]= .ok (.int l.length):=by show R.ok (Dt.int ((l.map Dt.int).length:Nat))=_;rw[Pn]
theorem xl (M:List (List Int)):d5 .len [lI M]= .ok (.int M.length):=(ei.lst M).ln
theorem nC {M:List (List Int)} {k:Nat} {q:List Int} (h:M[k]?=some q):cF (lI M) (.int k)= .ok (tI q):=(nB (ds:=M.map tI) (k:=k) (d:=tI q) (by rw[Py,h];rfl)).2
theorem wA {l:List Int} {k:Nat} (h:k < l.length):l[k]?=some (gI l k):=by simp[gI,List.getD,h]
noncomputable def zk:Ts:=(.cons (.ret (.and (.bi (.isi "int") (.cons (.var 0) .nil)) (.nt (.bi (.isi "bool") (.cons (.var 0) .nil))))) .nil)
theorem Ep {iw N:Nat} (hf:fs[iw]?=some ⟨1,1,false,zk⟩) (hN:1<=N) (i:Int):aw fs N iw [.int i] none= .ok (.bl true,none):=by refine aB hf hN rfl ?_;show fin (aW (aw fs (N - 1)) zk [some (.int i)] none)=_;exact ay rfl
noncomputable def zj:Ts:=(.cons (.asg 2 (.con (.int 0))) (.cons (.fr (.nm 3) (.rng1 (.bi .len (.cons (.var 0) .nil))) (.cons (.asg 2 (.bin .Add (.var 2) (.bin .Mult (.idx (.var 0) (.var 3)) (.idx (.var 1) (.var 3))))) .nil)) (.cons (.ret (.var 2)) .nil)))
theorem mB:∀{a b:List Int} {k:Nat},k < a.length->k < b.length->ag (a.take (k + 1)) b=ag (a.take k) b + gI a k * gI b k
 | [],_,_,h,_=>by simp at h
 | _::_,[],_,_,h=>by simp at h
 | x::a,y::b,0,_,_=>by
  show x * y + ag (a.take 0) b=0 + x * y;rw[List.take_zero,uZ]
  lia
 | x::a,y::b,k + 1,h1,h2=>by
  rw[List.take_succ_cons,List.take_succ_cons,aA,aA,mB (by simpa using h1) (by simpa using h2),aF,aF]
  lia
theorem Eo {iw N:Nat} (hf:fs[iw]?=some ⟨2,4,false,zj⟩) (hN:1<=N) {a b:List Int} (ha:∀x∈a,Ea x) (hl:a.length<=b.length) (hz:a.length<=1000):aw fs N iw [tI a,tI b] none= .ok (.int (ag a b),none):=by
 have d6:lim=1000000:=rfl;have loop:=bx (S:=none) (tg:= .nm 3) (body:=aW (aw fs (N - 1)) (.cons (.asg 2 (.bin .Add (.var 2) (.bin .Mult (.idx (.var 0) (.var 3)) (.idx (.var 1) (.var 3))))) .nil)) (ds:=aS 0 a.length) (ρ:=[some (tI a),some (tI b),some (.int 0),none])
  (λpre ρ=>∃x,ρ=[some (tI a),some (tI b),some (.int (ag (a.take pre.length) b)),x]) ⟨none,rfl⟩ (by
   rintro pre y post ρ e ⟨x,rfl⟩;obtain⟨h1,rfl⟩:=cQ e;have e1:(pre++[Dt.int pre.length]).length=pre.length + 1:=by simp
   generalize pre.length=k at *;have i1:=gR (l:=a) (p:=k) h1;have i2:=gR (l:=b) (p:=k) (by lia);have m:=bb (i:=gI a k) (j:=gI b k) (.inl (ha _ (cM h1)));refine⟨_,_,rfl,dg (d:= .int (ag (a.take k) b + gI a k * gI b k)) (S1:=none) (by simp only[RX,i1,i2,m]) rfl rfl,some (.int k),?_⟩;rw[e1,mB h1 (by lia)];rfl)
 obtain⟨ρ1,bQ,x,rfl⟩:=loop;have em:(aS 0 a.length).length=a.length:=by simp[aS]
 rw[em,List.take_length] at bQ;have ln:=xm a;refine aB hf hN rfl ?_;show fin (aW (aw fs (N - 1)) zj [some (tI a),some (tI b),none,none] none)=_;exact aE (d:= .int 0) (S1:=none) rfl rfl (bw (ds:=aS 0 a.length) (S1:=none) (d7 (n:=a.length) (by simp only[RX,ln]) (by lia)) rfl bQ (ay rfl))
noncomputable def Fe (iw:Nat):Ts:=(.cons (.fr (.nm 3) (.rng1 (.bi .len (.cons (.var 0) .nil))) (.cons (.ifs (.cmp .NotEq (.call iw (.cons (.idx (.var 0) (.var 3)) (.cons (.var 1) .nil)) []) (.idx (.var 2) (.var 3))) (.cons (.ret (.con (.bl false))) .nil) .nil) .nil)) (.cons (.ret (.con (.bl true))) .nil))
noncomputable def nR (M:List (List Int)) (r x:List Int):Bool:=(M.zip r).all λq=>ag q.1 x==q.2
theorem kW {M:List (List Int)} {r x:List Int}:nR M r x=true↔fJ M r x:=by unfold nR fJ;rw[PZ];exact⟨λh q hq=>by simpa using h q hq,λh q hq=>by simpa using h q hq⟩
theorem C5 {iw is N m:Nat} (hw:fs[iw]?=some ⟨2,4,false,zj⟩) (hf:fs[is]?=some ⟨3,4,false,Fe iw⟩) (hN:2<=N) {M:List (List Int)} {r x:List Int} {D:Dt} (hD:∀k (h:k < r.length),cF D (.int k)= .ok (.int (gI r k))) (hr:r.length=M.length) (hM:M.length<=1000) (hb:∀q∈M,∀z∈q,Ea z) (hm:m<=1000) (hl:∀q∈M,q.length=m) (hx:x.length=m):
  aw fs N is [lI M,tI x,D] none= .ok (.bl (nR M r x),none):=by
 have d6:lim=1000000:=rfl;have hz:(M.zip r).length=M.length:=by rw[List.length_zip];lia
 have loop:=fR (S:=none) (tg:= .nm 3) (body:=aW (aw fs (N - 1)) (.cons (.ifs (.cmp .NotEq (.call iw (.cons (.idx (.var 0) (.var 3)) (.cons (.var 1) .nil)) []) (.idx (.var 2) (.var 3))) (.cons (.ret (.con (.bl false))) .nil) .nil) .nil)) (ds:=aS 0 M.length) (ρ:=[some (lI M),some (tI x),some D,none])
  (λpre ρ=>(∀q∈(M.zip r).take pre.length,ag q.1 x=q.2)/\∃y,ρ=[some (lI M),some (tI x),some D,y]) (λd=>d= .bl false/\nR M r x=false) ⟨by simp,none,rfl⟩ (by
   rintro pre y post ρ e ⟨hle,y3,rfl⟩;obtain⟨h1,rfl⟩:=cQ e;have e1:(pre++[Dt.int pre.length]).length=pre.length + 1:=by simp
   generalize pre.length=k at *;obtain⟨q,hq⟩:∃q,M[k]?=some q:=⟨M[k],PH h1⟩;have i1:=nC hq;have i2:=hD k (by lia);have oV:=List.mem_of_getElem? hq;have w:=Eo hw (N:=N - 1) (by lia) (a:=q) (b:=x) (hb q oV) (by rw[hl q oV,hx];lia) (by rw[hl q oV];exact hm);have Mo:(M.zip r)[k]?=some (q,gI r k):=by rw[List.getElem?_zip_eq_some];exact⟨hq,wA (by lia)⟩
   have dD:cZ .NotEq (.int (ag q x)) (.int (gI r k))= .ok (!(ag q x==gI r k)):=rfl;refine⟨_,[some (lI M),some (tI x),some D,some (.int k)],rfl,?_⟩;by_cases h:ag q x=gI r k
   ·refine .inl ⟨gW (S1:=none) (by simp only[RX,i1,i2,w,h];simp) rfl,λz hz=>?_,_,rfl⟩;rw[e1,jh Mo] at hz;rcases PD.mp hz with hz | hz
    ·exact hle z hz
    ·rw[PX] at hz;subst hz;exact h
   ·have hb:(ag q x==gI r k)=false:=beq_eq_false_iff_ne.mpr h;refine .inr ⟨_,pF (S1:=none) (by simp only[RX,i1,i2,w,hb,Bool.not_false]) (kI rfl),rfl,?_⟩;unfold nR;rw[List.all_eq_false];exact⟨_,List.mem_of_getElem? Mo,by simpa using h⟩)
 have ln:=xl M;have it:dN (aw fs (N - 1)) (.rng1 (.bi .len (.cons (.var 0) .nil))) [some (lI M),some (tI x),some D,none] none= .ok (aS 0 M.length,none):=d7 (n:=M.length) (by simp only[RX,ln]) (by lia);rcases loop with ⟨ρ',h1,hle,y,rfl⟩ | ⟨d,ρ',h1,rfl,hu⟩
 ·have:nR M r x=true:=by
   rw[kW];intro q hq;refine hle q ?_;have em:(aS 0 M.length).length=M.length:=by simp[aS]
   rw[em,<-hz,List.take_length];exact hq
  rw[this];exact aB hf (by lia) rfl (bw it rfl h1 (ay rfl))
 ·rw[hu];refine aB hf (by lia) rfl (gg (ρ1:=ρ') (S1:=none) ?_);rw[ex];exact(congrArg (R.bind · _) it).trans h1
noncomputable def Fc (iu:Nat):Ts:=(.cons (.fr (.nm 2) (.seq (.var 0)) (.cons (.ifs (.call iu (.cons (.var 2) (.cons (.var 1) .nil)) []) (.cons (.ret (.con (.bl true))) .nil) .nil) .nil)) (.cons (.ret (.con (.bl false))) .nil))
theorem vD {iu io N:Nat} (hu:fs[iu]?=some ⟨2,4,false,uc⟩) (hf:fs[io]?=some ⟨2,3,false,Fc iu⟩) (hN:2<=N) (a:List Int) (M:List (List Int)):aw fs N io [lI M,tI a] none= .ok (.bl (cO a M),none):=by
 have loop:=fR (S:=none) (tg:= .nm 2) (body:=aW (aw fs (N - 1)) (.cons (.ifs (.call iu (.cons (.var 2) (.cons (.var 1) .nil)) []) (.cons (.ret (.con (.bl true))) .nil) .nil) .nil)) (ds:=M.map tI) (ρ:=[some (lI M),some (tI a),none])
  (λpre ρ=>(∀q∈M.take pre.length,dH q a=false)/\∃x,ρ=[some (lI M),some (tI a),x]) (λd=>d= .bl true/\cO a M=true) ⟨by simp,none,rfl⟩ (by
   rintro pre x post ρ e ⟨hle,x2,rfl⟩;obtain⟨q,oZ,rfl⟩:=i3 e;refine⟨_,[some (lI M),some (tI a),some (tI q)],rfl,?_⟩;have hv:=BK hu (N:=N - 1) (by lia) q a;cases hq:dH q a with
   | true=>rw[hq] at hv;exact .inr ⟨_,pF (S1:=none) (by simp only[RX,hv]) (kI rfl),rfl,by unfold cO;rw[P0];exact⟨q,List.mem_of_getElem? oZ,hq⟩⟩
   | false=>
    rw[hq] at hv;refine .inl ⟨gW (S1:=none) (by simp only[RX,hv]) rfl,λz hz=>?_,_,rfl⟩;rw[Pv,List.length_singleton,jh oZ] at hz;rcases PD.mp hz with hz | hz
    ·exact hle z hz
    ·rw[PX] at hz;subst hz;exact hq)
 rcases loop with ⟨ρ',h1,hle,x,rfl⟩ | ⟨d,ρ',h1,rfl,hu⟩
 ·have:cO a M=false:=by unfold cO;rw[List.any_eq_false];intro q hq;rw[hle q (by rw[Pn,List.take_length];exact hq)];exact Bool.false_ne_true
  rw[this];exact aB hf (by lia) rfl (bw (ds:=M.map tI) (S1:=none) rfl rfl h1 (ay rfl))
 ·rw[hu];refine aB hf (by lia) rfl (gg (ρ1:=ρ') (S1:=none) ?_);rw[ex];exact h1
noncomputable def B2 (iw:Nat):Ts:=(.cons (.ifs (.nt (.bi (.isi "list") (.cons (.var 0) .nil))) (.cons (.ret (.con (.bl false))) .nil) .nil) (.cons (.fr (.nm 2) (.seq (.var 0)) (.cons (.ifs (.or (.nt (.bi (.isi "tuple") (.cons (.var 2) .nil))) (.cmp .NotEq (.bi .len (.cons (.var 2) .nil)) (.var 1))) (.cons (.ret (.con (.bl false))) .nil) .nil) (.cons (.fr (.nm 3) (.seq (.var 2)) (.cons (.ifs (.or (.nt (.call iw (.cons (.var 3) .nil) [])) (.cmp .Lt (.var 3) (.con (.int 0)))) (.cons (.ret (.con (.bl false))) .nil) .nil) .nil)) .nil))) (.cons (.fr (.tp [4,5]) (.zip (.sliH (.var 0) (.neg (.con (.int 1)))) (.sliL (.var 0) (.con (.int 1)))) (.cons (.ifs (.cmp .GtE (.var 4) (.var 5)) (.cons (.ret (.con (.bl false))) .nil) .nil) .nil)) (.cons (.ret (.con (.bl true))) .nil))))
theorem EC (A B:List (List Int)):cU (A.map tI) (B.map tI)=(A.zip B).map λq=> .tup [tI q.1,tI q.2]:=by
 unfold cU
 induction A generalizing B with
 | nil=>rfl
 | cons x a ih=>cases B with | nil=>rfl | cons y b=>simp[ih]
theorem B0 {iw ia N m:Nat} (hw:fs[iw]?=some ⟨1,1,false,zk⟩) (hf:fs[ia]?=some ⟨2,6,false,B2 iw⟩) (hN:2<=N) {F:List (List Int)} (hl:∀q∈F,q.length=m) (hn:∀q∈F,∀i,i < m->0<=gI q i) (hs:F.Pairwise y7):aw fs N ia [lI F,.int m] none= .ok (.bl true,none):=by
 have xu:=bx (S:=none) (tg:= .nm 2) (body:=aW (aw fs (N - 1)) (.cons (.ifs (.or (.nt (.bi (.isi "tuple") (.cons (.var 2) .nil))) (.cmp .NotEq (.bi .len (.cons (.var 2) .nil)) (.var 1))) (.cons (.ret (.con (.bl false))) .nil) .nil) (.cons (.fr (.nm 3) (.seq (.var 2)) (.cons (.ifs (.or (.nt (.call iw (.cons (.var 3) .nil) [])) (.cmp .Lt (.var 3) (.con (.int 0)))) (.cons (.ret (.con (.bl false))) .nil) .nil) .nil)) .nil))) (ds:=F.map tI) (ρ:=[some (lI F),some (.int m),none,none,none,none])
  (λpre ρ=>∃x y,ρ=[some (lI F),some (.int m),x,y,none,none]) ⟨none,none,rfl⟩ (by
   rintro pre x post ρ e ⟨x2,x3,rfl⟩;obtain⟨q,oZ,rfl⟩:=i3 e;have hq:=List.mem_of_getElem? oZ;have lq:=hl q hq;have ln:=xm q;rw[lq] at ln;have inner:=bx (S:=none) (tg:= .nm 3) (body:=aW (aw fs (N - 1)) (.cons (.ifs (.or (.nt (.call iw (.cons (.var 3) .nil) [])) (.cmp .Lt (.var 3) (.con (.int 0)))) (.cons (.ret (.con (.bl false))) .nil) .nil) .nil)) (ds:=q.map Dt.int) (ρ:=[some (lI F),some (.int m),some (tI q),x3,none,none])
    (λpre ρ=>∃y,ρ=[some (lI F),some (.int m),some (tI q),y,none,none]) ⟨x3,rfl⟩ (by
     rintro pre x post ρ e ⟨y,rfl⟩;obtain⟨z,sN,rfl⟩:=i3 e;obtain⟨i,hi,rfl⟩:=sG (List.mem_of_getElem? sN);have hz:=hn q hq i (by lia);have w:=Ep hw (N:=N - 1) (by lia) (gI q i);exact⟨_,_,rfl,gW (S1:=none) (by simp only[RX,w,Bool.not_true,PJ (show¬gI q i < 0 by lia)];rfl) rfl,some (.int (gI q i)),rfl⟩)
   obtain⟨ρ1,bQ,y,rfl⟩:=inner;have dD:((m:Int)==(m:Int))=true:=beq_self_eq_true _;have hi:d5 (.isi "tuple") [tI q]= .ok (.bl true):=rfl;refine⟨_,_,rfl,gW (S1:=none) (by simp only[RX,hi,ln,dD,Bool.not_true];rfl) (xH (ds:=q.map Dt.int) (S1:=none) rfl rfl bQ rfl),some (tI q),y,rfl⟩)
 obtain⟨ρ1,h1,x2,x3,rfl⟩:=xu;have c1:fq (lI F) none (some (-1))= .ok (lI F.dropLast):=by
  show R.ok (Dt.lst (cutD (F.map tI) none (some (-1))))=_;cases F with
  | nil=>rfl
  | cons q F=>rw[oI _ (by simp)];unfold lI;rw[List.map_dropLast]
 have c2:fq (lI F) (some 1) none= .ok (lI (F.drop 1)):=by
  show R.ok (Dt.lst (cutD (F.map tI) (some ((1:Nat):Int)) none))=_;cases F with
  | nil=>rfl
  | cons q F=>rw[qB _ (by simp)];unfold lI;rw[List.map_drop]
 have Gf:∀q∈F.dropLast.zip (F.drop 1),y7 q.1 q.2:=by
  have:∀{F:List (List Int)},F.Pairwise y7->∀q∈F.dropLast.zip (F.drop 1),y7 q.1 q.2:=by
   intro F
   induction F with
   | nil=>intro _ q hq;simp at hq
   | cons a F ih=>
    intro h q hq;rw[List.pairwise_cons] at h;cases F with
    | nil=>simp at hq
    | cons b F=>
     rw[List.dropLast_cons_of_ne_nil (by simp),List.drop_succ_cons,List.drop_zero,List.zip_cons_cons] at hq;rcases Pq.mp hq with rfl | hq
     ·exact h.1 b Pk
     ·exact ih h.2 q (by rw[List.drop_succ_cons,List.drop_zero];exact hq)
  exact this hs
 have xx:=bx (S:=none) (tg:= .tp [4,5]) (body:=aW (aw fs (N - 1)) (.cons (.ifs (.cmp .GtE (.var 4) (.var 5)) (.cons (.ret (.con (.bl false))) .nil) .nil) .nil)) (ds:=cU (F.dropLast.map tI) ((F.drop 1).map tI)) (ρ:=[some (lI F),some (.int m),x2,x3,none,none])
  (λpre ρ=>∃x y,ρ=[some (lI F),some (.int m),x2,x3,x,y]) ⟨none,none,rfl⟩ (by
   rintro pre x post ρ e ⟨x4,x5,rfl⟩;rw[EC] at e;obtain⟨q,oZ,rfl⟩:=i3 e;have h:=(Gf q (List.mem_of_getElem? oZ)).1;have g:=FI q.1 q.2;rw[h] at g;exact⟨_,[some (lI F),some (.int m),x2,x3,some (tI q.1),some (tI q.2)],rfl,gW (S1:=none) (by simp only[RX,g,Bool.not_true]) rfl,_,_,rfl⟩)
 obtain⟨ρ2,h2,x4,x5,rfl⟩:=xx;have hi:d5 (.isi "list") [lI F]= .ok (.bl true):=rfl;refine aB hf (by lia) rfl ?_;show fin (aW (aw fs (N - 1)) (B2 iw) [some (lI F),some (.int m),none,none,none,none] none)=_;refine dS (S1:=none) (by simp only[RX,hi,Bool.not_true]) (bw (ds:=F.map tI) (S1:=none) rfl rfl h1 (bw (ds:=cU (F.dropLast.map tI) ((F.drop 1).map tI)) (S1:=none) (i9 (S1:=none) (S2:=none) (da:=lI F.dropLast) (db:=lI (F.drop 1)) (by simp only[RX,c1]) (by simp only[RX,c2]) rfl rfl) rfl h2 (ay rfl)))
end Rx
end
section
namespace Rx
open PySem PySem.W PySem.Spec PyProof.Rows L2 PySem.SeqAt
theorem yd {fs:List Fn} {n k:Nat} {g:Fn} {args:List Dt} {S:Sx} (h:fs[k]?=some g):aw fs (n + 1) k args S=gJ (aw fs n) g args S:=by show (match fs[k]? with | some g=>gJ (aw fs n) g args S | none=>R.bad)=_;rw[h]
section
variable {g:G} {K:Frag} {mg:Str->Option Value} {P:Program} {w:World} {base:Heap} {fs:List Fn}
theorem qK {n L m:Nat} {params:Arguments} {body:List Stmt} {scope:Scope} {dV kV doc pm fD ct oc:Value} {an od:Option Addr} {tq:Array (Option Value)} {f:Addr} {N ps:List Str} {M:List Bool} {δ κ:Option Nat} {fF:Bool} {ts:Ts}
  {xv:Nat->Value} (hm:MG g mg) (zP:XG g K mg xv) (ok:ow g K mg 0 g.fns fs) (lk:K.lookup f=some ⟨oc,od,.func (PySem.W.fnOf "law" "law" params body scope dV kV doc pm an fD ct),tq⟩) (yM:PySem.W.codeIn K fD "law"=true) (S:eZ N ps scope)
  (hM:∀i,i < ps.length->M[i]?≠some true) (hp:ps.length=1) (hc:Cd m g ⟨scope.names,N,M,δ,κ⟩ false fF body=some ts) (hf:fs[L]?=some ⟨1,N.length,false,ts⟩)
  (hn:∀ns:List Int,ns.length<=63->∃S,aw fs (n + 1) L [.dw ns] none= .ok (.bl true,S)):
  iZ P w K mg base (vj P w) (n + 1) f (PySem.W.fnOf "law" "law" params body scope dV kV doc pm an fD ct) ps (tR K):=by
 have h:=l7 (xv:=xv) (P:=P) (w:=w) (base:=base) lk yM S hm zP (kP (P:=P) (w:=w) (base:=base) (xv:=xv) hm zP ok n) hM (λz=>by cases z) hc;refine h.imp λvs H Q E q=>?_
 obtain⟨a,ns,rfl,hs,hl,hq⟩:=q;obtain⟨S',hS⟩:=hn ns hl;rw[yd hf] at hS;rw[hp];refine⟨rfl,N0,none,[.dw ns],none,[.ref a],⟨rfl,rfl,rfl⟩,aq.cons ?_ aq.nil,λb z=>z.elim,?_⟩
 ·unfold RV;refine⟨a,rfl,?_⟩;rcases hs with hs | hs
  ·exact .inl ⟨hs,λz=>z⟩
  ·exact .inr hs
 ·rw[hS];intro v H' fo;rw[fo.val.ax];exact hq H'
end
theorem walkR {l:PySem.W.OpenLaw} {q:Program} {k:Nat} {loose:List Str} {XP:(Str->Option Value)->Heap->Prop} {YP:World->Heap->Prop} {d:DefRec} {K:Params->PySem.W.Frag} (hn:l.most=some 63) (F3:d.params.defaults=[]) (hr:ij k callerA)
  (hY:∀(w:World) (h:Heap),YP w h->(K w.params).In h)
  (F:∀(w:World) (mg:Str->Option Value) (fa:Addr) (h:Heap),(K w.params).In h->h.Ns mainGlobals mg->mg d.name=some (.ref fa)->
   ∃fd:FuncData,(∀(s:Shared) (u:Value),BindsTo s fd ⟨[u],[]⟩ [("_law_script",u)])/\∀base:Heap,(K w.params).In base->base.Ns mainGlobals mg->iZ l.prog w (K w.params) mg base (vj l.prog w) k fa fd ["_law_script"] (tR (K w.params))):
  PySem.W.WalkO q loose XP YP l.row.toRowW d [] (λf vs=>PySem.call f vs):=
 L2.A0 (n:=63) (k:=k) (x:="_law_script") (CX:=λw=>vj l.prog w) (sp:=λw=>tR (K w.params)) hn (by decide) F3 hr hY F (λ_ _ a ns hl _ hS=>⟨a,ns,rfl,hS,hl,λ_=>rfl⟩) λ_ _ _ _ _ z=>z
structure Row where
 nm:Str
 s:Stmt
 ps:List Str
 ms:List Str:=[]
 dr:Option Str:=none
 dp:Bool:=false
 fM:List Dt:=[]
 dk:Option Str:=none
namespace Row
noncomputable def N (r:Row):List Str:=Oj (bD r.s).names r.ps
noncomputable def gm (r:Row):Gm:=⟨(bD r.s).names,r.N,EV r.N r.ms,if r.dp then some 0 else r.dr.bind (zU · r.N),r.dk.bind (zU · r.N)⟩
noncomputable def fn (g:G) (j:Nat) (r:Row):Option Fn:=(Cd 60 g r.gm r.dp (g.fr j) (iB r.s)).map λts=>⟨r.ps.length,r.N.length,r.dp,ts⟩
noncomputable def ent (r:Row):Str×Nat×List Dt×Bool:=(r.nm,r.ps.length,r.fM,r.dp)
noncomputable def ok (r:Row):Bool:=
 ((bD r.s).kind== .function)&& !(bD r.s).isCoroutine&& !(bD r.s).isGenerator&&decide r.N.Nodup&&decide (r.N.take r.ps.length=r.ps)&&
 (r.ps.all λx=>(bD r.s).names.lookup x==some .local||(bD r.s).names.lookup x==some .cell)&&((bD r.s).names.all λy=>y.2 != .free)&&
 ((EV r.N r.ms).take r.ps.length).all (λb=> !b)&&r.fM.all ou
theorem scope {r:Row} (h:r.ok=true):eZ r.N r.ps (bD r.s)/\(∀i,i < r.ps.length->(EV r.N r.ms)[i]?≠some true)/\r.fM.all ou=true:=by
 unfold ok at h;simp only[Pd] at h;obtain⟨⟨⟨⟨⟨⟨⟨⟨h1,h2⟩,h3⟩,h4⟩,h5⟩,h6⟩,h7⟩,h8⟩,h9⟩:=h;refine⟨⟨PF h1,by simpa using h2,by simpa using h3,Pf h4,Pf h5,λx hx=>?_,λy hy e=>?_⟩,GE h8,h9⟩
 ·have:=PZ.mp h6 x hx;rcases Bool.or_eq_true_iff.mp this with z | z
  ·exact .inl (PF z)
  ·exact .inr (PF z)
 ·have:=PZ.mp h7 y hy;rw[e] at this;cases this
end Row
noncomputable def oP (g:G):Nat->List Row->Option (List Fn)
 | _,[]=>some []
 | j,r::rs=>(r.fn g j).bind λf=>(oP g (j + 1) rs).map (f:: ·)
noncomputable def Fd (K:Frag) (nm:Str) (s:Stmt) (ps:List Str) (fM:List Dt):Prop:=∃(fa:Addr) (oc dV kV doc pm fD ct:Value) (od an:Option Addr) (tq:Array (Option Value)),
 nsIn K mainGlobals nm=some (some (.ref fa))/\K.lookup fa=some ⟨oc,od,.func (fnOf nm nm (mZ s) (iB s) (bD s) dV kV doc pm an fD ct),tq⟩/\codeIn K fD nm=true/\keepIn K (.ref fa)=true/\(fM=[]->dV= .none)/\
 ∀j,j<=fM.length->∃ds,au ((fM.drop j).map qi) ds/\Binds K (fnOf nm nm (mZ s) (iB s) (bD s) dV kV doc pm an fD ct) ps ds
noncomputable def Ii (K:Frag):List Row->Prop
 | []=>True
 | r::rs=>Fd K r.nm r.s r.ps r.fM/\Ii K rs
section
variable {g:G} {K:Frag} {mg:Str->Option Value} {h:Heap} {fs:List Fn}
theorem wt (X:K.In h) (Gs:h.Ns mainGlobals mg):∀{rs:List Row} {i:Nat} {fs:List Fn},rs.all Row.ok=true->oP g i rs=some fs->Ii K rs->ow g K mg i (rs.map Row.ent) fs
 | [],i,fs,_,e,_=>by cases e;trivial
 | r::rs,i,fs,hk,e,F=>by rw[List.all_cons,Pd] at hk;obtain⟨f,e1,e⟩:=Pa.mp e;obtain⟨JS,e2,rfl⟩:=Pu.mp e;obtain⟨ts,c1,rfl⟩:=Pu.mp e1;obtain⟨⟨fa,oc,dV,kV,doc,pm,fD,ct,od,an,tq,a,l,c,k,_,b⟩,F⟩:=F;obtain⟨s1,s2,s3⟩:=Row.scope hk.1;exact⟨⟨fa,r.ps,r.N,_,_,_,60,oc,od,an,tq,_,_,_,dV,kV,doc,pm,fD,ct,l,c,k,mg_of X Gs a,s1,s2,λz=>if_pos z,rfl,c1,rfl,rfl,rfl,b,s3⟩,wt X Gs hk.2 e2 F⟩
theorem Cu {rs:List Row}:∀{L i:Nat} {fs:List Fn} {r:Row},oP g i rs=some fs->rs[L]?=some r->∃ts,Cd 60 g r.gm r.dp (g.fr (i + L)) (iB r.s)=some ts/\fs[L]?=some ⟨r.ps.length,r.N.length,r.dp,ts⟩:=by
 induction rs with
 | nil=>intro L i fs r _ e;simp at e
 | cons r0 rs ih=>
  intro L i fs r e hr;obtain⟨f,e1,e⟩:=Pa.mp e;obtain⟨JS,e2,rfl⟩:=Pu.mp e;cases L with
  | zero=>cases hr;obtain⟨ts,c1,rfl⟩:=Pu.mp e1;exact⟨ts,c1,rfl⟩
  | succ L=>obtain⟨ts,c1,c2⟩:=ih e2 (by simpa using hr);exact⟨ts,by rw[show i + (L + 1)=i + 1 + L by lia];exact c1,by simpa using c2⟩
theorem wj:∀{rs:List Row} {L:Nat} {r:Row},Ii K rs->rs[L]?=some r->Fd K r.nm r.s r.ps r.fM
 | [],L,r,_,e=>by simp at e
 | r0::rs,0,r,F,e=>by cases e;exact F.1
 | r0::rs,L + 1,r,F,e=>wj F.2 (by simpa using e)
noncomputable def Jr (K:Frag):List Str->Prop
 | []=>True
 | x::xs=>nsIn K mainGlobals x=some none/\Jr K xs
noncomputable def Jm (K:Frag):List (Str×Dt)->Prop
 | []=>True
 | x::xs=>(∃u,nsIn K mainGlobals x.1=some (some u)/\ou x.2=true/\RelV (qi x.2) u)/\Jm K xs
theorem xF {x:Str}:∀{xs:List Str},Jr K xs->x∈xs->nsIn K mainGlobals x=some none
 | y::xs,h,hx=>by
  rcases Pq.mp hx with rfl | hx
  ·exact h.1
  ·exact xF h.2 hx
theorem v5 {x:Str} {d:Dt}:∀{xs:List (Str×Dt)},Jm K xs->xs.lookup x=some d->∃u,nsIn K mainGlobals x=some (some u)/\ou d=true/\RelV (qi d) u
 | [],_,e=>by simp at e
 | y::xs,h,e=>by
  rw[PK] at e;split at e
  ·rename_i q;cases e;rw[PF q];exact h.1
  ·exact v5 h.2 e
noncomputable def LL (K:Frag) (xs:List (Str×List (Str×Bool))):Prop:=xs=[]
noncomputable def Ih (g:G) (mg:Str->Option Value) (k:Nat):Value:=((g.xs[k]?).bind λx=>mg x.1).getD .none
theorem EA (X:K.In h) (Gs:h.Ns mainGlobals mg) {xs:List (Str×List (Str×Bool))} {k:Nat} {x:Str} {ts:List (Str×Bool)} (hx:LL K xs) (e:xs[k]?=some (x,ts)):∃C,mg x=some (.ref C)/\Jw K mg C ts:=by rw[show xs=[] from hx] at e;cases e
theorem law_mk {l:OpenLaw} {w:World} {fa:Addr} {rs:List Row} {cons:List (Str×Dt)} {bls:List Str} {fr:Nat->Bool} {xs:List (Str×List (Str×Bool))} {L n:Nat} {sL:Stmt} {ms:List Str} {dr kd:Option Str} (X:K.In h) (Gs:h.Ns mainGlobals mg) (NN:mg "law"=some (.ref fa))
  (hL:rs[L]?=some ⟨"law",sL,["_law_script"],ms,dr,false,[],kd⟩) (hk:rs.all Row.ok=true) (hfs:oP ⟨rs.map Row.ent,cons,bls,fr,xs⟩ 0 rs=some fs)
  (hb:∀(s:Shared) (v:Value) (kV doc pm fD ct:Value) (an:Option Addr),BindsTo s (fnOf "law" "law" (mZ sL) (iB sL) (bD sL) .none kV doc pm an fD ct) ⟨[v],[]⟩ [("_law_script",v)])
  (hn:∀ns:List Int,ns.length<=63->∃S,aw fs (n + 1) L [.dw ns] none= .ok (.bl true,S)) (B:Jr K bls) (C:Jm K cons) (F:Ii K rs) (E:LL K xs):
  ∃fd:FuncData,(∀(s:Shared) (v:Value),BindsTo s fd ⟨[v],[]⟩ [("_law_script",v)])/\∀base:Heap,K.In base->base.Ns mainGlobals mg->iZ l.prog w K mg base (vj l.prog w) (n + 1) fa fd ["_law_script"] (tR K):=by
 have zP:XG ⟨rs.map Row.ent,cons,bls,fr,xs⟩ K mg (Ih ⟨rs.map Row.ent,cons,bls,fr,xs⟩ mg):=λk x ts e=>by obtain⟨C,h1,h2⟩:=EA X Gs E e;have e:xs[k]?=some (x,ts):=e;exact⟨C,by simp[Ih,e,h1],h1,h2⟩
 have hm:MG ⟨rs.map Row.ent,cons,bls,fr,xs⟩ mg:=⟨λx d hx=>by
   obtain⟨u,k1,k2,k3⟩:=v5 C hx;exact⟨u,k2,mg_of X Gs k1,k3⟩,λx hx=>mg_none_of X Gs (xF B hx)⟩
 have ok:=wt (g:=⟨rs.map Row.ent,cons,bls,fr,xs⟩) X Gs hk hfs F;obtain⟨OK,oc,dV,kV,doc,pm,fD,ct,od,an,tq,a,lk,c,k,hd,b⟩:=wj F hL;cases hd rfl;have e:=NN.symm.trans (mg_of X Gs a);cases e;obtain⟨ts,c1,c2⟩:=Cu hfs hL;have hok:=Row.scope (PZ.mp hk _ (List.mem_iff_getElem?.mpr ⟨L,hL⟩));exact⟨_,λs v=>hb s v kV doc pm fD ct an,λbase _ _=>qK hm zP ok lk c hok.1 hok.2.1 rfl c1 c2 hn⟩
end
end Rx
end
section
namespace K22
open PySem PySem.W PySem.Spec PyProof.Rows L2 Mx Rx
noncomputable def top (i:Nat):Stmt:=PySem.Challenge.pw_mixform_k22_least_are_least.main.body.getD i (.Pass ⟨0,0,0,0⟩)
noncomputable abbrev rows:List Rx.Row:=[⟨"product",top 4,["one","other"],[],none,false,[],none⟩,
 ⟨"cleared",top 6,["row","place","by"],[],none,false,[],none⟩,
 ⟨"settled",top 7,["rows","many","right"],[],none,false,[],none⟩,
 ⟨"greatest",top 8,["rows","right","settled_many","free_many"],[],none,false,[],none⟩,
 ⟨"walked",top 9,["many","free","bound"],[],none,false,[],none⟩,
 ⟨"completed",top 10,["row","pairs"],["whole"],none,false,[],none⟩,
 ⟨"solutions",top 11,["rows","many","right"],[],none,false,[],none⟩,
 ⟨"check_bounds",top 17,["rows","many","right"],[],none,false,[],none⟩,
 ⟨"lies_under",top 18,["one","other"],[],none,false,[],none⟩,
 ⟨"lies_over",top 19,["row","found"],[],none,false,[],none⟩,
 ⟨"least",top 20,["rows","many"],["found"],none,false,[],none⟩,
 ⟨"_law_cell",top 22,["_law_script","_law_k"],[],none,false,[],none⟩,
 ⟨"_law_pick",top 23,["_law_script","_law_k","_law_many"],[],none,false,[],none⟩,
 ⟨"_law_whole",top 24,["_law_found"],[],none,false,[],none⟩,
 ⟨"_law_weighed",top 25,["_law_line","_law_row"],[],none,false,[],none⟩,
 ⟨"_law_solves",top 26,["_law_rows_here","_law_row","_law_right"],[],none,false,[],none⟩,
 ⟨"_law_under",top 27,["_law_one","_law_other"],[],none,false,[],none⟩,
 ⟨"_law_any_under",top 28,["_law_rows_here","_law_row"],[],none,false,[],none⟩,
 ⟨"_law_up_to",top 29,["_law_many","_law_total"],[],none,false,[],none⟩,
 ⟨"_law_pairs",top 30,["_law_found","_law_total"],["_law_pairs_here"],none,false,[],none⟩,
 ⟨"_law_are_rows",top 31,["_law_found","_law_many"],[],none,false,[],none⟩,
 ⟨"_law_rows",top 32,["_law_script","_law_start","_law_many"],["_law_rows_here"],none,false,[],none⟩,
 ⟨"_law_good",top 33,["_law_found","_law_rows_here","_law_many"],[],none,false,[],none⟩,
 ⟨"law",top 34,["_law_script"],["_law_found"],none,false,[],none⟩]
noncomputable abbrev cons:List (Str×Dt):=[("MOST_ROWS",(.int 16)),("MOST_MANY",(.int 4)),("MOST_NUMBER",(.int 3)),("MOST_RIGHT",(.int 20))]
noncomputable abbrev bls:List Str:=["abs","any","bool","divmod","int","isinstance","len","list","max","min","range","sorted","sum","tuple","zip"]
noncomputable abbrev fr (i:Nat):Bool:=[false,false,false,false,false,false,true,false,false,false,true,false,true,false,false,false,false,false,true,true,false,true,false,false].getD i false
noncomputable abbrev xs:List (Str×List (Str×Bool)):=[]
noncomputable def Jz:Ts:=(.cons (.asg 2 (.lst (.cons (.tup (.cons (.tup .nil) (.cons (.con (.int 0)) .nil))) .nil))) (.cons (.fr (.nm 3) (.rng1 (.var 0)) (.cons (.asg 2 (.comp [none,none,none,none] (.seq (.call 19 (.cons (.var 2) (.cons (.var 1) .nil)) [])) (.tp [1,2,3]) .nil (.tup (.cons (.bin .Add (.var 1) (.tup (.cons (.var 3) .nil))) (.cons (.bin .Add (.var 2) (.var 3)) .nil))))) .nil)) (.cons (.ret (.comp [none,none,none] (.seq (.var 2)) (.tp [1,2]) .nil (.var 1))) .nil)))
noncomputable def JA:Ts:=(.cons (.asgM 2 (.lst .nil)) (.cons (.fr (.tp [3,4]) (.seq (.var 0)) (.cons (.fr (.nm 5) (.rng1 (.bin .Add (.bin .Sub (.var 1) (.var 4)) (.con (.int 1)))) (.cons (.app 2 (.tup (.cons (.var 3) (.cons (.var 4) (.cons (.var 5) .nil))))) .nil)) .nil)) (.cons (.ret (.mvr 2)) .nil)))
noncomputable def Fb:Ts:=(.cons (.asg 3 (.idx (.lst (.cons (.con (.int 1)) (.cons (.con (.int 1)) (.cons (.con (.int 2)) (.cons (.con (.int 2)) (.cons (.con (.int 3)) (.cons (.con (.int 0)) (.cons (.con (.int 4)) .nil)))))))) (.call 12 (.cons (.var 0) (.cons (.con (.int 1)) (.cons (.con (.int 7)) .nil))) []))) (.cons (.asg 4 (.con (.int 3))) (.cons (.ifs (.and (.cmp .Gt (.var 3) (.con (.int 1))) (.cmp .Eq (.var 2) (.con (.int 4)))) (.cons (.asg 4 (.bin .Sub (.con (.int 4)) (.bi .min2 (.cons (.var 3) (.cons (.con (.int 3)) .nil))))) .nil) .nil) (.cons (.asgM 5 (.lst .nil)) (.cons (.fr (.nm 6) (.rng1 (.var 3)) (.cons (.asg 7 (.comp [none,none,some 4,some 6,some 2,some 0,some 1] (.rng1 (.var 2)) (.nm 1) .nil (.bin .Sub (.bin .Mod (.call 11 (.cons (.var 5) (.cons (.bin .Add (.bin .Add (.var 6) (.bin .Mult (.var 4) (.var 3))) (.var 1)) .nil)) []) (.bin .Add (.bin .Mult (.con (.int 2)) (.var 2)) (.con (.int 1)))) (.var 2)))) (.cons (.ifs (.and (.cmp .Gt (.var 6) (.con (.int 0))) (.cmp .Eq (.call 12 (.cons (.var 0) (.cons (.bin .Add (.con (.int 2)) (.var 6)) (.cons (.con (.int 3)) .nil))) []) (.con (.int 0)))) (.cons (.asg 7 (.comp [none,none,none] (.zip (.idx (.mvr 5) (.con (.int 0))) (.idx (.mvr 5) (.bin .Sub (.var 6) (.con (.int 1))))) (.tp [1,2]) .nil (.bin .Add (.var 1) (.var 2)))) (.cons (.asg 7 (.comp [none,none,some 4] (.seq (.var 7)) (.nm 1) .nil (.bi .max2 (.cons (.bin .Sub (.con (.int 0)) (.var 2)) (.cons (.bi .min2 (.cons (.var 2) (.cons (.var 1) .nil))) .nil))))) .nil)) .nil) (.cons (.app 5 (.bi .tuple (.cons (.var 7) .nil))) .nil)))) (.cons (.ret (.mvr 5)) .nil))))))
noncomputable def JB:Ts:=(.cons (.asg 3 (.comp [none,none] (.seq (.var 1)) (.nm 1) .nil (.con (.int 0)))) (.cons (.ifs (.nt (.call 20 (.cons (.var 0) (.cons (.var 2) .nil)) [])) (.cons (.ret (.con (.bl false))) .nil) .nil) (.cons (.fr (.nm 4) (.rng1 (.bi .len (.cons (.var 0) .nil))) (.cons (.ifs (.or (.nt (.call 15 (.cons (.var 1) (.cons (.idx (.var 0) (.var 4)) (.cons (.var 3) .nil))) [])) (.cmp .Eq (.bi .sum (.cons (.idx (.var 0) (.var 4)) .nil)) (.con (.int 0)))) (.cons (.ret (.con (.bl false))) .nil) .nil) (.cons (.ifs (.call 17 (.cons (.bin .Add (.sliH (.var 0) (.var 4)) (.sliL (.var 0) (.bin .Add (.var 4) (.con (.int 1))))) (.cons (.idx (.var 0) (.var 4)) .nil)) []) (.cons (.ret (.con (.bl false))) .nil) .nil) .nil))) (.cons (.fr (.nm 5) (.seq (.call 18 (.cons (.var 2) (.cons (.idx (.lst (.cons (.con (.int 0)) (.cons (.con (.int 30)) (.cons (.con (.int 20)) (.cons (.con (.int 10)) (.cons (.con (.int 7)) .nil)))))) (.var 2)) .nil)) [])) (.cons (.ifs (.and (.call 15 (.cons (.var 1) (.cons (.var 5) (.cons (.var 3) .nil))) []) (.and (.cmp .Gt (.bi .sum (.cons (.var 5) .nil)) (.con (.int 0))) (.nt (.call 17 (.cons (.var 0) (.cons (.var 5) .nil)) [])))) (.cons (.ret (.con (.bl false))) .nil) .nil) .nil)) (.cons (.ret (.con (.bl true))) .nil)))))
noncomputable def JC:Ts:=(.cons (.asg 1 (.bin .Add (.con (.int 1)) (.call 12 (.cons (.var 0) (.cons (.con (.int 0)) (.cons (.con (.int 4)) .nil))) []))) (.cons (.asg 2 (.call 21 (.cons (.var 0) (.cons (.con (.int 5)) (.cons (.var 1) .nil))) [])) (.cons (.asg 3 (.bi .list (.cons (.var 2) .nil))) (.cons (.asgM 4 (.call 10 (.cons (.var 3) (.cons (.var 1) .nil)) [])) (.cons (.ifs (.or (.nt (.call 22 (.cons (.mvr 4) (.cons (.var 2) (.cons (.var 1) .nil))) [])) (.cmp .NotEq (.var 3) (.var 2))) (.cons (.ret (.con (.bl false))) .nil) .nil) (.cons (.asg 5 (.bi .list (.cons (.mvr 4) .nil))) (.cons (.asg 6 (.call 10 (.cons (.comp [none,none] (.seq (.var 2)) (.nm 1) .nil (.bi .tuple (.cons (.comp [none,none] (.seq (.var 1)) (.nm 1) .nil (.bin .Sub (.con (.int 0)) (.var 1))) .nil))) (.cons (.var 1) .nil)) [])) (.cons (.ifs (.or (.cmp .NotEq (.var 6) (.var 5)) (.cmp .NotEq (.mvr 4) (.var 5))) (.cons (.ret (.con (.bl false))) .nil) .nil) (.cons (.Be 4) (.cons (.ret (.and (.cmp .Eq (.call 10 (.cons (.var 3) (.cons (.var 1) .nil)) []) (.var 5)) (.cmp .Eq (.call 10 (.cons (.bi .tuple (.cons (.var 2) .nil)) (.cons (.var 1) .nil)) []) (.var 5)))) .nil))))))))))
noncomputable def fs:List Fn:=[⟨2,2,false,oE⟩,⟨3,3,false,vE⟩,⟨3,8,false,zh 1⟩,⟨4,7,false,vG⟩,⟨3,5,false,zm⟩,⟨2,7,false,zg 0⟩,⟨3,8,false,zi 2 3 4 5⟩,⟨3,3,false,zf⟩,⟨2,4,false,uc⟩,⟨2,3,false,B4 8⟩,⟨2,4,false,B3 7 6 9⟩,⟨2,3,false,rM⟩,⟨3,4,false,vJ 11⟩,⟨1,1,false,zk⟩,⟨2,4,false,zj⟩,⟨3,4,false,Fe 14⟩,⟨2,4,false,uc⟩,⟨2,3,false,Fc 16⟩,⟨2,4,false,Jz⟩,⟨2,6,false,JA⟩,⟨2,6,false,B2 13⟩,⟨3,8,false,Fb⟩,⟨3,6,false,JB⟩,⟨1,7,false,JC⟩]
theorem hok:rows.all Rx.Row.ok=true:=by decide +kernel
theorem hfs:oP ⟨rows.map Rx.Row.ent,cons,bls,fr,xs⟩ 0 rows=some fs:=by kernel_rfl
theorem wJ:rJ fs 12:=⟨11,rfl,rfl⟩
theorem J5:A4 fs 0 1 2 3 4 5 6 7 8 9 10:=⟨⟨rfl,rfl,rfl,rfl,rfl,rfl,rfl⟩,rfl,rfl,rfl,rfl⟩
theorem Bz (l:List Int):pl (tI l)=true/\dp (tI l)<=1:=by
 have:∀l:List Int,lH (l.map Dt.int)=true/\oK (l.map Dt.int)=0:=by
  intro l
  induction l with
  | nil=>exact⟨rfl,rfl⟩
  | cons x l ih=>exact⟨by rw[Qa,lH,ih.1];rfl,by rw[Qa,oK,ih.2];rfl⟩
 exact⟨by unfold tI;rw[pl];exact(this l).1,by unfold tI;rw[dp,(this l).2];lia⟩
theorem G8 (M:List (List Int)):pl (lI M)=true/\dp (lI M)<=2:=by
 have:∀M:List (List Int),lH (M.map tI)=true/\oK (M.map tI)<=1:=by
  intro M
  induction M with
  | nil=>exact⟨rfl,by simp[oK]⟩
  | cons x l ih=>exact⟨by rw[Qa,lH,ih.1,(Bz x).1];rfl,by rw[Qa,oK];have:=(Bz x).2;lia⟩
 exact⟨by unfold lI;rw[pl];exact(this M).1,by unfold lI;rw[dp];have:=(this M).2;lia⟩
theorem Bi (M:List (List Int)):cZ .Eq (lI M) (lI M)= .ok true/\cZ .NotEq (lI M) (lI M)= .ok false:=by
 obtain⟨h1,h2⟩:=G8 M;have ok:oM (lI M) (lI M)=true:=by unfold oM;rw[h1,PN (by lia)];rfl
 have e:=gk _ h1;constructor
 ·show ae (oM (lI M) (lI M)) (R.ok (du (lI M) (lI M)))=_;rw[ok,e];rfl
 ·show ae (oM (lI M) (lI M)) (R.ok (!du (lI M) (lI M)))=_;rw[ok,e];rfl
noncomputable def lJ (p:List Int×Nat):Dt:= .tup [tI p.1,.int p.2]
noncomputable def rz (p:List Int×Nat×Nat):Dt:= .tup [tI p.1,.int p.2.1,.int p.2.2]
noncomputable def og (T:Nat) (p:List Int×Nat):List (List Int×Nat×Nat):=(List.range (T - p.2 + 1)).map λn=>(p.1,p.2,n)
noncomputable def HB (T:Nat) (L:List (List Int×Nat)):List (List Int×Nat):=(L.flatMap (og T)).map λp=>(p.1++[(p.2.2:Int)],p.2.1 + p.2.2)
theorem Dg (p:List Int×Nat×Nat):kH (rz p)=true:=by simp[rz,kH,gV,cA]
theorem nh {α β:Type} {f:α->List β} {k:Nat}:∀{l:List α},(∀x∈l,(f x).length<=k)->(l.flatMap f).length<=l.length * k
 | [],_=>by simp
 | x::l,h=>by
  have:=nh (f:=f) (k:=k) (l:=l) λy hy=>h y (Ph _ hy)
  have:=h x Pk;rw[List.flatMap_cons,Pv,Px,Nat.succ_mul]
  lia
theorem DM {N T:Nat} {L:List (List Int×Nat)} (hN:1<=N) (hT:∀p∈L,p.2<=T) (hL:L.length * (T + 1)<=10000):aw fs N 19 [.lst (L.map lJ),.int T] none= .ok (.lst ((L.flatMap (og T)).map rz),none):=by
 have d6:lim=1000000:=rfl;have tl:∀p∈L,(og T p).length<=T + 1:=λp hp=>by unfold og;rw[Pn,List.length_range];lia
 have T1:T + 1<=10000\/L=[]:=by
  cases L with
  | nil=>exact .inr rfl
  | cons p L=>exact .inl (Pp (Nat.le_mul_of_pos_left _ (by simp)) hL)
 have loop:=bx (S:=none) (tg:= .tp [3,4]) (body:=aW (aw fs (N - 1)) (.cons (.fr (.nm 5) (.rng1 (.bin .Add (.bin .Sub (.var 1) (.var 4)) (.con (.int 1)))) (.cons (.app 2 (.tup (.cons (.var 3) (.cons (.var 4) (.cons (.var 5) .nil))))) .nil)) .nil)) (ds:=L.map lJ) (ρ:=[some (.lst (L.map lJ)),some (.int T),some (.lst []),none,none,none])
  (λpre ρ=>∃x y z,ρ=[some (.lst (L.map lJ)),some (.int T),some (.lst (((L.take pre.length).flatMap (og T)).map rz)),x,y,z]) ⟨none,none,none,rfl⟩ (by
   rintro pre x post ρ e ⟨x3,x4,x5,rfl⟩;obtain⟨p,IS,rfl⟩:=i3 e;have hp:=List.mem_of_getElem? IS;have OZ:=hT p hp;have dD:L≠[]:=λz=>by rw[z] at hp;cases hp
   have T1:=T1.resolve_right dD;have NG:((L.take pre.length).flatMap (og T)).length<=10000:=by
    have:=nh (f:=og T) (k:=T + 1) (l:=L.take pre.length) λy hy=>tl y (List.mem_of_mem_take hy)
    have h2:(L.take pre.length).length * (T + 1)<=L.length * (T + 1):=Nat.mul_le_mul_right _ (by rw[List.length_take];lia)
    lia
   have e1:((L.take (pre++[lJ p]).length).flatMap (og T))=(L.take pre.length).flatMap (og T)++og T p:=by rw[Pv,List.length_singleton,jh IS,List.flatMap_append];simp
   generalize (L.take pre.length).flatMap (og T)=A at *;have inner:=bx (S:=none) (tg:= .nm 5) (body:=aW (aw fs (N - 1)) (.cons (.app 2 (.tup (.cons (.var 3) (.cons (.var 4) (.cons (.var 5) .nil))))) .nil)) (ds:=aS 0 (T - p.2 + 1)) (ρ:=[some (.lst (L.map lJ)),some (.int T),some (.lst (A.map rz)),some (tI p.1),some (.int p.2),x5])
    (λpre ρ=>∃z,ρ=[some (.lst (L.map lJ)),some (.int T),some (.lst ((A++(List.range pre.length).map λn=>(p.1,p.2,n)).map rz)),some (tI p.1),some (.int p.2),z]) ⟨x5,by simp⟩ (by
     rintro pre y post ρ e ⟨z,rfl⟩;obtain⟨h1,rfl⟩:=cQ e;have e2:(pre++[Dt.int pre.length]).length=pre.length + 1:=by simp
     generalize pre.length=k at *;refine⟨_,_,rfl,qW (ds:=(A++(List.range k).map λn=>(p.1,p.2,n)).map rz) (d:=rz (p.1,p.2,k)) (S1:=none) rfl (by simp only[RX];rfl) (by unfold bO;rw[Dg,Bool.or_true]) (by rw[Pn,Pv,Pn,List.length_range];lia) rfl,some (.int k),?_⟩;have e3:(A++(List.range (k + 1)).map λn=>(p.1,p.2,n)).map rz=(A++(List.range k).map λn=>(p.1,p.2,n)).map rz++[rz (p.1,p.2,k)]:=by simp[List.range_succ]
     rw[e2,e3];rfl)
   obtain⟨ρ1,bQ,z,rfl⟩:=inner;have em:(aS 0 (T - p.2 + 1)).length=T - p.2 + 1:=by simp[aS]
   rw[em] at bQ;have ec:(T:Int) - (p.2:Int) + 1=((T - p.2 + 1:Nat):Int):=by lia
   refine⟨[some (.lst (L.map lJ)),some (.int T),some (.lst (A.map rz)),some (tI p.1),some (.int p.2),x5],_,rfl,xH (ds:=aS 0 (T - p.2 + 1)) (S1:=none) (d7 (n:=T - p.2 + 1) (by simp only[RX,ec]) (by lia)) rfl bQ rfl,some (tI p.1),some (.int p.2),z,?_⟩;rw[e1];rfl)
 obtain⟨ρ1,bQ,x,y,z,rfl⟩:=loop;rw[Pn,List.take_length] at bQ;refine aB (body:=JA) rfl hN rfl ?_;show fin (aW (aw fs (N - 1)) JA [some (.lst (L.map lJ)),some (.int T),none,none,none,none] none)=_;exact fP (d:= .lst []) (S1:=none) rfl rfl (bw (ds:=L.map lJ) (S1:=none) rfl rfl bQ (ay rfl))
noncomputable def LK (T k:Nat) (p:List Int×Nat):Prop:=p.1.length=k/\(∀x∈p.1,(0:Int)<=x)/\p.1.sum=(p.2:Int)/\p.2<=T
theorem En {N m T:Nat} (hN:2<=N) (hm:m<=4) (hp:(T + 1) ^ m<=10000):∃U:List (List Int),aw fs N 18 [.int m,.int T] none= .ok (lI U,none)/\∀x∈U,x.length=m/\(∀z∈x,(0:Int)<=z)/\x.sum<=T:=by
 have d6:lim=1000000:=rfl;have loop:=bx (S:=none) (tg:= .nm 3) (body:=aW (aw fs (N - 1)) (.cons (.asg 2 (.comp [none,none,none,none] (.seq (.call 19 (.cons (.var 2) (.cons (.var 1) .nil)) [])) (.tp [1,2,3]) .nil (.tup (.cons (.bin .Add (.var 1) (.tup (.cons (.var 3) .nil))) (.cons (.bin .Add (.var 2) (.var 3)) .nil))))) .nil)) (ds:=aS 0 m) (ρ:=[some (.int m),some (.int T),some (.lst ([([],0)].map lJ)),none])
  (λpre ρ=>∃L x,L.length<=(T + 1) ^ pre.length/\(∀p∈L,LK T pre.length p)/\ρ=[some (.int m),some (.int T),some (.lst (L.map lJ)),x]) ⟨[([],0)],none,by simp,λp hp=>by rw[PX] at hp;subst hp;exact⟨rfl,by simp,rfl,by lia⟩,rfl⟩ (by
   rintro pre y post ρ e ⟨L,x,hl,hL,rfl⟩;obtain⟨h1,rfl⟩:=cQ e;have e1:(pre++[Dt.int pre.length]).length=pre.length + 1:=by simp
   generalize pre.length=k at *;have eF:L.length * (T + 1)<=(T + 1) ^ (k + 1):=by rw[Nat.pow_succ];exact Nat.mul_le_mul_right _ hl
   have fG:(T + 1) ^ (k + 1)<=10000:=Pp (Nat.pow_le_pow_right (by lia) (by lia)) hp;have Ko:=DM (N:=N - 1) (T:=T) (L:=L) (by lia) (λp hp=>(hL p hp).2.2.2) (by lia);have uE:(L.flatMap (og T)).length<=L.length * (T + 1):=nh λp hp=>by unfold og;rw[Pn,List.length_range];lia
   have oV:∀p∈L.flatMap (og T),LK T (k + 1) (p.1++[(p.2.2:Int)],p.2.1 + p.2.2)/\p.1.length=k:=λp hp=>by
    obtain⟨p0,h0,hp⟩:=List.mem_flatMap.mp hp;obtain⟨n,hn,rfl⟩:=PY.mp hp;have hn:=Qd.mp hn;obtain⟨k1,k2,k3,k4⟩:=hL p0 h0;refine⟨⟨by simp[k1],λz hz=>?_,by simp[k3],by show p0.2 + n<=T;lia⟩,k1⟩;rcases PD.mp hz with hz | hz
    ·exact k2 z hz
    ·rw[PX] at hz;subst hz;show (0:Int)<=(n:Int);lia
   have hc:aK (aM (.tp [1,2,3]) (bh (aw fs (N - 1)) .nil) (bq (aw fs (N - 1)) (.tup (.cons (.bin .Add (.var 1) (.tup (.cons (.var 3) .nil))) (.cons (.bin .Add (.var 2) (.var 3)) .nil)))) [none,none,none,none]) ((L.flatMap (og T)).map rz) none= .ok ((L.flatMap (og T)).map λp=>lJ (p.1++[(p.2.2:Int)],p.2.1 + p.2.2),none):=aU λp hp=>by
    have lp:=(oV p hp).2;have ha:lF .Add (tI p.1) (.tup [.int p.2.2])= .ok (tI (p.1++[(p.2.2:Int)])):=by show ae (decide ((p.1.map Dt.int).length + 1<=lim)) (R.ok (Dt.tup (p.1.map Dt.int++[.int p.2.2])))=_;rw[PN (by rw[Pn];lia),guard_true];unfold tI;rw[Qb];rfl
    have ec:(p.2.1:Int) + (p.2.2:Int)=((p.2.1 + p.2.2:Nat):Int):=by lia
    exact aN (ρ1:=[none,some (tI p.1),some (.int p.2.1),some (.int p.2.2)]) rfl (by simp only[RX,ha,ec];rfl) (by unfold bO;simp[lJ,kH,gV,cA])
   have eC:((L.flatMap (og T)).map λp=>lJ (p.1++[(p.2.2:Int)],p.2.1 + p.2.2))=(HB T L).map lJ:=by unfold HB;rw[List.map_map];rfl
   rw[eC] at hc;have wM:ev (aw fs (N - 1)) (.call 19 (.cons (.var 2) (.cons (.var 1) .nil)) []) [some (.int m),some (.int T),some (.lst (L.map lJ)),some (.int k)] none= .ok (.lst ((L.flatMap (og T)).map rz),none):=by simp only[RX,Ko]
   refine⟨_,_,rfl,dg (d:= .lst ((HB T L).map lJ)) (S1:=none) (aV (ds:=(L.flatMap (og T)).map rz) (S1:=none) (i8 wM rfl) (by rw[Pn];lia) rfl hc) rfl rfl,HB T L,some (.int k),?_,λp hp=>?_,rfl⟩
   ·rw[e1];unfold HB;rw[Pn];lia
   ·obtain⟨p0,h0,rfl⟩:=PY.mp hp;rw[e1];exact(oV p0 h0).1)
 obtain⟨ρ1,bQ,L,x,hl,hL,rfl⟩:=loop;have em:(aS 0 m).length=m:=by simp[aS]
 rw[em] at hl hL;refine⟨L.map (·.1),?_,λx hx=>?_⟩
 ·have hc:aK (aM (.tp [1,2]) (bh (aw fs (N - 1)) .nil) (bq (aw fs (N - 1)) (.var 1)) [none,none,none]) (L.map lJ) none= .ok (L.map λp=>tI p.1,none):=aU λp hp=>aN (ρ1:=[none,some (tI p.1),some (.int p.2)]) rfl rfl (by unfold bO;rw[cA,Bool.or_true])
  have e:(L.map λp=>tI p.1)=(L.map (·.1)).map tI:=by rw[List.map_map];rfl
  rw[e] at hc;refine aB (body:=Jz) rfl (by lia) rfl ?_;show fin (aW (aw fs (N - 1)) Jz [some (.int m),some (.int T),none,none] none)=_;exact aE (d:= .lst ([([],0)].map lJ)) (S1:=none) rfl rfl (bw (ds:=aS 0 m) (S1:=none) (d7 (n:=m) rfl (by lia)) rfl bQ (ay (aV (ds:=L.map lJ) (S1:=none) rfl (by rw[Pn];lia) rfl hc)))
 ·obtain⟨p,hp,rfl⟩:=PY.mp hx;obtain⟨k1,k2,k3,k4⟩:=hL p hp;exact⟨k1,k2,by rw[k3];lia⟩
noncomputable def ka (f z:Int):Int:=if (if z < f then z else f) > 0 - f then(if z < f then z else f) else 0 - f
noncomputable def Ff:Ts:=(.cons (.asg 7 (.comp [none,none,some 4,some 6,some 2,some 0,some 1] (.rng1 (.var 2)) (.nm 1) .nil (.bin .Sub (.bin .Mod (.call 11 (.cons (.var 5) (.cons (.bin .Add (.bin .Add (.var 6) (.bin .Mult (.var 4) (.var 3))) (.var 1)) .nil)) []) (.bin .Add (.bin .Mult (.con (.int 2)) (.var 2)) (.con (.int 1)))) (.var 2)))) (.cons (.ifs (.and (.cmp .Gt (.var 6) (.con (.int 0))) (.cmp .Eq (.call 12 (.cons (.var 0) (.cons (.bin .Add (.con (.int 2)) (.var 6)) (.cons (.con (.int 3)) .nil))) []) (.con (.int 0)))) (.cons (.asg 7 (.comp [none,none,none] (.zip (.idx (.mvr 5) (.con (.int 0))) (.idx (.mvr 5) (.bin .Sub (.var 6) (.con (.int 1))))) (.tp [1,2]) .nil (.bin .Add (.var 1) (.var 2)))) (.cons (.asg 7 (.comp [none,none,some 4] (.seq (.var 7)) (.nm 1) .nil (.bi .max2 (.cons (.bin .Sub (.con (.int 0)) (.var 2)) (.cons (.bi .min2 (.cons (.var 2) (.cons (.var 1) .nil))) .nil))))) .nil)) .nil) (.cons (.app 5 (.bi .tuple (.cons (.var 7) .nil))) .nil)))
theorem x9 {N m far deep:Nat} {ns:List Int} (hN:3<=N) (hm:m<=4) (hf:1<=far) (OR:far<=3) (hd:deep<=4):
  ∃R:List (List Int),R.length<=4/\(∀q∈R,q.length=m/\∀z∈q,z.natAbs<=3)/\
   fin (aW (aw fs (N - 1)) (.cons (.asgM 5 (.lst .nil)) (.cons (.fr (.nm 6) (.rng1 (.var 3)) Ff) (.cons (.ret (.mvr 5)) .nil))) [some (.dw ns),some (.int 5),some (.int m),some (.int deep),some (.int far),none,none,none] none)= .ok (lI R,none):=by
 have d6:lim=1000000:=rfl;have loop:=bx (S:=none) (tg:= .nm 6) (body:=aW (aw fs (N - 1)) Ff) (ds:=aS 0 deep) (ρ:=[some (.dw ns),some (.int 5),some (.int m),some (.int deep),some (.int far),some (lI []),none,none])
  (λpre ρ=>∃R x6 x7,R.length=pre.length/\(∀q∈R,q.length=m/\∀z∈q,z.natAbs<=3)/\ρ=[some (.dw ns),some (.int 5),some (.int m),some (.int deep),some (.int far),some (lI R),x6,x7]) ⟨[],none,none,rfl,by simp,rfl⟩ (by
   rintro pre y post ρ e ⟨R,x6,x7,hl,hR,rfl⟩;obtain⟨h1,rfl⟩:=cQ e;have e1:(pre++[Dt.int pre.length]).length=pre.length + 1:=by simp
   generalize pre.length=k at *
   let r1:List Int:=(List.range m).map λj=>dC ns (5 + m * k + j) % (2 * (far:Int) + 1) - far
   have Gh:r1.length=m/\∀z∈r1,z.natAbs<=3:=by
    refine⟨by simp[r1],λz hz=>?_⟩;obtain⟨j,_,rfl⟩:=PY.mp hz;have a1:=P4 (dC ns (5 + m * k + j)) (b:=2 * (far:Int) + 1) (by lia);have a2:=P5 (dC ns (5 + m * k + j)) (b:=2 * (far:Int) + 1) (by lia)
    lia
   have c1:∀x7,ev (aw fs (N - 1)) (.comp [none,none,some 4,some 6,some 2,some 0,some 1] (.rng1 (.var 2)) (.nm 1) .nil (.bin .Sub (.bin .Mod (.call 11 (.cons (.var 5) (.cons (.bin .Add (.bin .Add (.var 6) (.bin .Mult (.var 4) (.var 3))) (.var 1)) .nil)) []) (.bin .Add (.bin .Mult (.con (.int 2)) (.var 2)) (.con (.int 1)))) (.var 2))) [some (.dw ns),some (.int 5),some (.int m),some (.int deep),some (.int far),some (lI R),some (.int k),x7] none= .ok (.lst (r1.map Dt.int),none):=λx7=>by
    have hc:aK (aM (.nm 1) (bh (aw fs (N - 1)) .nil) (bq (aw fs (N - 1)) (.bin .Sub (.bin .Mod (.call 11 (.cons (.var 5) (.cons (.bin .Add (.bin .Add (.var 6) (.bin .Mult (.var 4) (.var 3))) (.var 1)) .nil)) []) (.bin .Add (.bin .Mult (.con (.int 2)) (.var 2)) (.con (.int 1)))) (.var 2))) [none,none,some (.int far),some (.int k),some (.int m),some (.dw ns),some (.int 5)]) (aS 0 m) none= .ok ((List.range m).map λj=> .int (dC ns (5 + m * k + j) % (2 * (far:Int) + 1) - far),none):=by
     have er:aS 0 m=(List.range m).map λ(i:Nat)=>Dt.int i:=by unfold aS;exact List.map_congr_left λi _=>by rw[Int.zero_add]
     rw[er];refine aU λj hj=>?_
     have hj:=Qd.mp hj;have O8:m * k<=16:=Pp (Nat.mul_le_mul hm (by lia:k<=4)) (by decide);have m1:=bb (i:=(m:Int)) (j:=k) (.inl (by lia));have m2:=bb (i:=2) (j:=far) (.inl (by decide));have ec:(5:Int) + (m:Int) * (k:Int) + (j:Int)=((5 + m * k + j:Nat):Int):=by rw[Int.natCast_add,Int.natCast_add,Int.natCast_mul];rfl
     have Bo:aw fs (N - 1) 11 [.dw ns,.int ((5 + m * k + j:Nat):Int)] none= .ok (.int (dC ns (5 + m * k + j)),none):=rZ (fs:=fs) (ic:=11) rfl (n:=N - 1) (by lia) (ns:=ns) (k:=5 + m * k + j) (by lia);have md:=dU (i:=dC ns (5 + m * k + j)) (j:=2 * (far:Int) + 1) (by lia);exact aN (ρ1:=[none,some (.int j),some (.int far),some (.int k),some (.int m),some (.dw ns),some (.int 5)]) rfl (by simp only[RX,m1,m2,ec,Bo,md]) rfl
    have e:((List.range m).map λj=>Dt.int (dC ns (5 + m * k + j) % (2 * (far:Int) + 1) - far))=r1.map Dt.int:=by simp only[r1,List.map_map];rfl
    rw[e] at hc;exact aV (ds:=aS 0 m) (S1:=none) (d7 (n:=m) rfl (by lia)) (by simp[aS];lia) rfl hc
   have Mj:aw fs (N - 1) 12 [.dw ns,.int ((2 + k:Nat):Int),.int 3] none= .ok (.int (eN ns (2 + k) 3),none):=nL (fs:=fs) wJ (n:=N - 1) (by lia) (ns:=ns) (k:=2 + k) (many:=3) (by lia) (by decide);have LU:(2:Int) + (k:Int)=((2 + k:Nat):Int):=by lia
   have NV:(R.map tI).length<=lim:=by rw[Pn];lia
   have FG:∀q:List Int,aW (aw fs (N - 1)) (.cons (.app 5 (.bi .tuple (.cons (.var 7) .nil))) .nil) [some (.dw ns),some (.int 5),some (.int m),some (.int deep),some (.int far),some (lI R),some (.int k),some (.lst (q.map Dt.int))] none= .ok (.next,[some (.dw ns),some (.int 5),some (.int m),some (.int deep),some (.int far),some (lI (R++[q])),some (.int k),some (.lst (q.map Dt.int))],none):=λq=>by refine qW (ds:=R.map tI) (d:=tI q) (S1:=none) rfl rfl (by unfold bO;rw[cA,Bool.or_true]) NV ?_;unfold lI;rw[Qb];rfl
   have good:∀q:List Int,q.length=m->(∀z∈q,z.natAbs<=3)->∀z∈R++[q],z.length=m/\∀w∈z,w.natAbs<=3:=λq h1 h2 z hz=>by
    rcases PD.mp hz with hz | hz
    ·exact hR z hz
    ·rw[PX] at hz;subst hz;exact⟨h1,h2⟩
   by_cases hc:0 < k/\eN ns (2 + k) 3=0
   ·obtain⟨a,ha⟩:∃a,R[0]?=some a:=⟨R[0]'(by lia),PH (by lia)⟩;obtain⟨b,hb⟩:∃b,R[k - 1]?=some b:=⟨R[k - 1]'(by lia),PH (by lia)⟩;have OP:=hR a (List.mem_of_getElem? ha);have lh:=hR b (List.mem_of_getElem? hb);have i1:cF (lI R) (.int 0)= .ok (tI a):=nC (k:=0) ha;have i2:=nC hb;have ek:(k:Int) - 1=((k - 1:Nat):Int):=by lia
    let r2:List Int:=(a.zip b).map λq=>q.1 + q.2
    let r3:List Int:=r2.map λz=>ka far z
    have c2:ev (aw fs (N - 1)) (.comp [none,none,none] (.zip (.idx (.mvr 5) (.con (.int 0))) (.idx (.mvr 5) (.bin .Sub (.var 6) (.con (.int 1))))) (.tp [1,2]) .nil (.bin .Add (.var 1) (.var 2))) [some (.dw ns),some (.int 5),some (.int m),some (.int deep),some (.int far),some (lI R),some (.int k),some (.lst (r1.map Dt.int))] none= .ok (.lst (r2.map Dt.int),none):=by
     have nr:aK (aM (.tp [1,2]) (bh (aw fs (N - 1)) .nil) (bq (aw fs (N - 1)) (.bin .Add (.var 1) (.var 2))) [none,none,none]) (cU (a.map Dt.int) (b.map Dt.int)) none= .ok ((a.zip b).map λq=> .int (q.1 + q.2),none):=by rw[c9];exact aU λq _=>aN (ρ1:=[none,some (.int q.1),some (.int q.2)]) rfl (by simp only[RX]) rfl
     have e:((a.zip b).map λq=>Dt.int (q.1 + q.2))=r2.map Dt.int:=by simp only[r2,List.map_map];rfl
     rw[e] at nr;refine aV (ds:=cU (a.map Dt.int) (b.map Dt.int)) (S1:=none) (i9 (S1:=none) (S2:=none) (da:=tI a) (db:=tI b) (by simp only[RX,i1]) (by simp only[RX,ek,i2]) rfl rfl) (by rw[c9,Pn,List.length_zip];lia) rfl nr
    have c3:ev (aw fs (N - 1)) (.comp [none,none,some 4] (.seq (.var 7)) (.nm 1) .nil (.bi .max2 (.cons (.bin .Sub (.con (.int 0)) (.var 2)) (.cons (.bi .min2 (.cons (.var 2) (.cons (.var 1) .nil))) .nil)))) [some (.dw ns),some (.int 5),some (.int m),some (.int deep),some (.int far),some (lI R),some (.int k),some (.lst (r2.map Dt.int))] none= .ok (.lst (r3.map Dt.int),none):=by
     have nr:aK (aM (.nm 1) (bh (aw fs (N - 1)) .nil) (bq (aw fs (N - 1)) (.bi .max2 (.cons (.bin .Sub (.con (.int 0)) (.var 2)) (.cons (.bi .min2 (.cons (.var 2) (.cons (.var 1) .nil))) .nil)))) [none,none,some (.int far)]) (r2.map Dt.int) none= .ok (r2.map λz=> .int (ka far z),none):=b9 λz _=>aN (ρ1:=[none,some (.int z),some (.int far)]) rfl (by simp only[RX];rfl) rfl
     have e:(r2.map λz=>Dt.int (ka far z))=r3.map Dt.int:=by simp only[r3,List.map_map];rfl
     rw[e] at nr;exact aV (ds:=r2.map Dt.int) (S1:=none) rfl (by rw[Pn];simp only[r2,Pn,List.length_zip];lia) rfl nr
    have IK:(0:Int) < (k:Int):=by lia
    have Ge:(((eN ns (2 + k) 3:Nat):Int)==0)=true:=by rw[hc.2];rfl
    refine⟨_,_,rfl,dg (d:= .lst (r1.map Dt.int)) (S1:=none) (c1 _) rfl (pF (S1:=none) (by simp only[RX,PN IK,LU,Mj,Ge];rfl) (dg (d:= .lst (r2.map Dt.int)) (S1:=none) c2 rfl (dg (d:= .lst (r3.map Dt.int)) (S1:=none) c3 rfl (FG r3)))),R++[r3],some (.int k),_,by rw[e1,Pv,List.length_singleton,hl],good r3 (by simp only[r3,r2,Pn,List.length_zip];lia) λz hz=>?_,rfl⟩;obtain⟨w,_,rfl⟩:=PY.mp hz;show (ka far w).natAbs<=3;unfold ka;split <;> split <;> lia
   ·refine⟨_,_,rfl,dg (d:= .lst (r1.map Dt.int)) (S1:=none) (c1 _) rfl (gW (S1:=none) ?_ (FG r1)),R++[r1],some (.int k),_,by rw[e1,Pv,List.length_singleton,hl],good r1 Gh.1 Gh.2,rfl⟩;by_cases IK:(0:Int) < (k:Int)
    ·have Ge:(((eN ns (2 + k) 3:Nat):Int)==0)=false:=beq_eq_false_iff_ne.mpr λz=>hc ⟨by lia,by lia⟩
     simp only[RX,PN IK,LU,Mj,Ge];rfl
    ·simp only[RX,PJ IK];rfl)
 obtain⟨ρ1,bQ,R,x6,x7,hl,hR,rfl⟩:=loop;have em:(aS 0 deep).length=deep:=by simp[aS]
 rw[em] at hl;exact⟨R,by lia,hR,fP (d:= .lst []) (S1:=none) rfl rfl (bw (ds:=aS 0 deep) (S1:=none) (d7 (n:=deep) rfl (by lia)) rfl bQ (ay rfl))⟩
theorem AN {N m:Nat} {ns:List Int} (hN:3<=N) (hm:m<=4):∃R:List (List Int),R.length<=4/\(∀q∈R,q.length=m/\∀z∈q,z.natAbs<=3)/\aw fs N 21 [.dw ns,.int 5,.int m] none= .ok (lI R,none):=by
 have p1:aw fs (N - 1) 12 [.dw ns,.int 1,.int 7] none= .ok (.int (eN ns 1 7),none):=nL (fs:=fs) wJ (n:=N - 1) (by lia) (ns:=ns) (k:=1) (many:=7) (by decide) (by decide);have l1:=pM (ns:=ns) (k:=1) (many:=7) (by decide);generalize eN ns 1 7=q at p1 l1;obtain⟨deep,hd,F8⟩:∃deep:Nat,deep<=4/\cF (.lst [.int 1,.int 1,.int 2,.int 2,.int 3,.int 0,.int 4]) (.int q)= .ok (.int deep):=by
  match q,l1 with
  | 0,_=>exact⟨1,by decide,rfl⟩
  | 1,_=>exact⟨1,by decide,rfl⟩
  | 2,_=>exact⟨2,by decide,rfl⟩
  | 3,_=>exact⟨2,by decide,rfl⟩
  | 4,_=>exact⟨3,by decide,rfl⟩
  | 5,_=>exact⟨0,by decide,rfl⟩
  | 6,_=>exact⟨4,by decide,rfl⟩
 have yP:ev (aw fs (N - 1)) (.idx (.lst (.cons (.con (.int 1)) (.cons (.con (.int 1)) (.cons (.con (.int 2)) (.cons (.con (.int 2)) (.cons (.con (.int 3)) (.cons (.con (.int 0)) (.cons (.con (.int 4)) .nil)))))))) (.call 12 (.cons (.var 0) (.cons (.con (.int 1)) (.cons (.con (.int 7)) .nil))) [])) [some (.dw ns),some (.int 5),some (.int m),none,none,none,none,none] none= .ok (.int deep,none):=by simp only[RX,p1];exact(congrArg (R.bind · _) F8).trans rfl
 by_cases hc:1 < deep/\m=4
 ·obtain⟨R,h1,h2,h3⟩:=x9 (N:=N) (m:=m) (far:=4 - min deep 3) (deep:=deep) (ns:=ns) hN hm (by lia) (by lia) hd;refine⟨R,h1,h2,aB (body:=Fb) rfl (by lia) rfl ?_⟩;show fin (aW (aw fs (N - 1)) Fb [some (.dw ns),some (.int 5),some (.int m),none,none,none,none,none] none)=_;have hg:(1:Int) < (deep:Int):=by lia
  have IP:((m:Int)==4)=true:=by rw[hc.2];rfl
  have ef:(4:Int) - (if (3:Int) < (deep:Int) then 3 else(deep:Int))=((4 - min deep 3:Nat):Int):=by split <;> lia
  exact aE (d:= .int deep) (S1:=none) yP rfl (aE (d:= .int 3) (S1:=none) rfl rfl (l6 (S1:=none) (by simp only[RX,PN hg,IP];rfl) (aE (d:= .int ((4 - min deep 3:Nat):Int)) (S1:=none) (by simp only[RX,ef]) rfl h3)))
 ·obtain⟨R,h1,h2,h3⟩:=x9 (N:=N) (m:=m) (far:=3) (deep:=deep) (ns:=ns) hN hm (by lia) (by lia) hd;refine⟨R,h1,h2,aB (body:=Fb) rfl (by lia) rfl ?_⟩;show fin (aW (aw fs (N - 1)) Fb [some (.dw ns),some (.int 5),some (.int m),none,none,none,none,none] none)=_;refine aE (d:= .int deep) (S1:=none) yP rfl (aE (d:= .int 3) (S1:=none) rfl rfl (dS (S1:=none) ?_ h3));by_cases hg:(1:Int) < (deep:Int)
  ·have IP:((m:Int)==4)=false:=beq_eq_false_iff_ne.mpr λz=>hc ⟨by lia,by lia⟩
   simp only[RX,PN hg,IP];rfl
  ·simp only[RX,PJ hg];rfl
theorem xJ {F:List (List Int)} (h:F.Pairwise y7) {k:Nat} {q:List Int} (hq:F[k]?=some q):cO q (F.take k++F.drop (k + 1))=false:=by
 have hk:=(Pg.mp hq).1;have e:F=F.take k++q::F.drop (k + 1):=by
  conv=>lhs;rw[<-List.take_append_drop k F]
  rw[List.drop_eq_getElem_cons hk,(Pg.mp hq).2]
 rw[e,List.pairwise_append,List.pairwise_cons] at h;unfold cO;rw[List.any_eq_false];intro f hf;rcases PD.mp hf with hf | hf
 ·have:=(h.2.2 f hf q Pk).2.1;rw[this];exact Bool.false_ne_true
 ·have:=(h.2.1.1 f hf).2.2;rw[this];exact Bool.false_ne_true
theorem GN {x:List Int} (h:∀z∈x,(0:Int)<=z):∀i,i < x.length->0<=gI x i:=λi hi=>h _ (cM hi)
theorem zD {N m:Nat} {M:List (List Int)} (hN:4<=N) (E:qj m M (zeros M.length)) (hl:(bE m M).length<=900000):aw fs N 22 [lI (bE m M),lI M,.int m] none= .ok (.bl true,none):=by
 have d6:lim=1000000:=rfl;have m1:=E.m1;have m4:=E.m4;have ln:=E.ln;obtain⟨P1,P2,P3⟩:=ph E;generalize bE m M=F at *;have Mp:ev (aw fs (N - 1)) (.comp [none,none] (.seq (.var 1)) (.nm 1) .nil (.con (.int 0))) [some (lI F),some (lI M),some (.int m),none,none,none] none= .ok (.lst ((zeros M.length).map Dt.int),none):=by
  have hc:aK (aM (.nm 1) (bh (aw fs (N - 1)) .nil) (bq (aw fs (N - 1)) (.con (.int 0))) [none,none]) (M.map tI) none= .ok (M.map λ_=> .int 0,none):=aU λq _=>aN (ρ1:=[none,some (tI q)]) rfl rfl rfl
  have e:(M.map λ_=>Dt.int 0)=(zeros M.length).map Dt.int:=by unfold zeros;rw[List.map_replicate,List.map_const']
  rw[e] at hc;exact aV (ds:=M.map tI) (S1:=none) rfl (by rw[Pn];lia) rfl hc
 generalize hZ:Dt.lst ((zeros M.length).map Dt.int)=Z at Mp;have NF:∀k (h:k < (zeros M.length).length),cF Z (.int k)= .ok (.int (gI (zeros M.length) k)):=λk h=>by rw[<-hZ];refine(nB (ds:=(zeros M.length).map Dt.int) (k:=k) (d:= .int (gI (zeros M.length) k)) ?_).2;rw[Py,wA h];rfl
 have MA:∀x:List Int,x.length=m->aw fs (N - 1) 15 [lI M,tI x,Z] none= .ok (.bl (nR M (zeros M.length) x),none):=λx hx=>C5 (iw:=14) (is:=15) rfl rfl (N:=N - 1) (by lia) NF (by simp[zeros]) (by lia) (λq hq z hz=>by have:=E.bd q hq z hz;show z.natAbs < 2 ^ 64;lia) (by lia) E.wd hx
 have NH:=B0 (iw:=13) (ia:=20) (fs:=fs) rfl rfl (N:=N - 1) (m:=m) (by lia) (F:=F) (λq hq=>(P1 q hq).1) (λq hq=>(P1 q hq).2.1) P2;have xu:=bx (S:=none) (tg:= .nm 4) (body:=aW (aw fs (N - 1)) (.cons (.ifs (.or (.nt (.call 15 (.cons (.var 1) (.cons (.idx (.var 0) (.var 4)) (.cons (.var 3) .nil))) [])) (.cmp .Eq (.bi .sum (.cons (.idx (.var 0) (.var 4)) .nil)) (.con (.int 0)))) (.cons (.ret (.con (.bl false))) .nil) .nil) (.cons (.ifs (.call 17 (.cons (.bin .Add (.sliH (.var 0) (.var 4)) (.sliL (.var 0) (.bin .Add (.var 4) (.con (.int 1))))) (.cons (.idx (.var 0) (.var 4)) .nil)) []) (.cons (.ret (.con (.bl false))) .nil) .nil) .nil))) (ds:=aS 0 F.length) (ρ:=[some (lI F),some (lI M),some (.int m),some Z,none,none])
  (λpre ρ=>∃x,ρ=[some (lI F),some (lI M),some (.int m),some Z,x,none]) ⟨none,rfl⟩ (by
   rintro pre y post ρ e ⟨x4,rfl⟩;obtain⟨h1,rfl⟩:=cQ e;generalize pre.length=k at *;obtain⟨q,hq⟩:∃q,F[k]?=some q:=⟨F[k],PH h1⟩;obtain⟨q1,q2,q3,q4⟩:=P1 q (List.mem_of_getElem? hq);have i1:=nC hq;have s1:=MA q q1;have sz:nR M (zeros M.length) q=true:=kW.mpr (bf.mpr q3);rw[sz] at s1;have s2:=nX q;have s3:(q.sum==0)=false:=beq_eq_false_iff_ne.mpr (by lia);have c1:fq (lI F) none (some (k:Int))= .ok (lI (F.take k)):=by show Rx.R.ok (Dt.lst (cutD (F.map tI) none (some (k:Int))))=_;rw[v7 _ (by rw[Pn];lia),<-List.map_take];rfl
   have c2:fq (lI F) (some ((k:Int) + 1)) none= .ok (lI (F.drop (k + 1))):=by show Rx.R.ok (Dt.lst (cutD (F.map tI) (some (((k + 1:Nat)):Int)) none))=_;rw[qB _ (by rw[Pn];lia),<-List.map_drop];rfl
   have a1:lF .Add (lI (F.take k)) (lI (F.drop (k + 1)))= .ok (lI (F.take k++F.drop (k + 1))):=by have:=Ak (a:=(F.take k).map tI) (b:=(F.drop (k + 1)).map tI) (by rw[Pn,Pn,List.length_take,List.length_drop];lia);rw[<-Qb] at this;exact this
   have u1:=vD (iu:=16) (io:=17) (fs:=fs) rfl rfl (N:=N - 1) (by lia) q (F.take k++F.drop (k + 1));rw[xJ P2 hq] at u1;exact⟨_,_,rfl,gW (S1:=none) (by simp only[RX,i1,s1,s2,s3,Bool.not_true];rfl) (gW (S1:=none) (by simp only[RX,i1,c1,c2,a1,u1]) rfl),some (.int k),rfl⟩)
 obtain⟨ρ1,h1,x4,rfl⟩:=xu;obtain⟨T,hT,IU,F8⟩:∃T:Nat,([0,30,20,10,7]:List Int).getD m 0=T/\(T + 1) ^ m<=10000/\cF (.lst [.int 0,.int 30,.int 20,.int 10,.int 7]) (.int m)= .ok (.int T):=by
  have:m=1\/m=2\/m=3\/m=4:=by lia
  rcases this with rfl | rfl | rfl | rfl
  ·exact⟨30,rfl,by decide,rfl⟩
  ·exact⟨20,rfl,by decide,rfl⟩
  ·exact⟨10,rfl,by decide,rfl⟩
  ·exact⟨7,rfl,by decide,rfl⟩
 obtain⟨U,hU,ND⟩:=En (N:=N - 1) (m:=m) (T:=T) (by lia) m4 IU;have xx:=bx (S:=none) (tg:= .nm 5) (body:=aW (aw fs (N - 1)) (.cons (.ifs (.and (.call 15 (.cons (.var 1) (.cons (.var 5) (.cons (.var 3) .nil))) []) (.and (.cmp .Gt (.bi .sum (.cons (.var 5) .nil)) (.con (.int 0))) (.nt (.call 17 (.cons (.var 0) (.cons (.var 5) .nil)) [])))) (.cons (.ret (.con (.bl false))) .nil) .nil) .nil)) (ds:=U.map tI) (ρ:=[some (lI F),some (lI M),some (.int m),some Z,x4,none])
  (λpre ρ=>∃x,ρ=[some (lI F),some (lI M),some (.int m),some Z,x4,x]) ⟨none,rfl⟩ (by
   rintro pre y post ρ e ⟨x5,rfl⟩;obtain⟨q,oZ,rfl⟩:=i3 e;obtain⟨k1,k2,k3⟩:=ND q (List.mem_of_getElem? oZ);have s1:=MA q k1;have s2:=nX q;have u1:=vD (iu:=16) (io:=17) (fs:=fs) rfl rfl (N:=N - 1) (by lia) q F;refine⟨_,_,rfl,gW (S1:=none) ?_ rfl,some (tI q),rfl⟩;cases hs:nR M (zeros M.length) q with
   | false=>rw[hs] at s1;simp only[RX,s1];rfl
   | true=>
    rw[hs] at s1;by_cases h0:0 < q.sum
    ·have:=P3 q k1 (λi hi=>GN k2 i (by lia)) h0 (by rw[hT];exact k3) (bf.mp (kW.mp hs));rw[this] at u1;simp only[RX,s1,s2,PN h0,u1,Bool.not_true];rfl
    ·simp only[RX,s1,s2,PJ h0];rfl)
 obtain⟨ρ2,h2,x5,rfl⟩:=xx;have lf:=xl F;refine aB (body:=JB) rfl (by lia) rfl ?_;show fin (aW (aw fs (N - 1)) JB [some (lI F),some (lI M),some (.int m),none,none,none] none)=_;refine aE (d:=Z) (S1:=none) Mp (by rw[<-hZ];rfl) (dS (S1:=none) (by simp only[RX,NH,Bool.not_true]) (bw (ds:=aS 0 F.length) (S1:=none) (d7 (n:=F.length) (by simp only[RX,lf]) (by lia)) rfl h1 (bw (ds:=U.map tI) (S1:=none) (i8 (d:=lI U) ?_ rfl) rfl h2 (ay rfl))));simp only[RX];rw[F8];simp only[RX,hU]
theorem law_true:∀ns:List Int,ns.length<=63->∃S,aw fs 60 23 [.dw ns] none= .ok (.bl true,S):=λns _=>by
 refine⟨none,aB (body:=JC) rfl (by decide) rfl ?_⟩;show fin (aW (aw fs 59) JC [some (.dw ns),none,none,none,none,none,none] none)=_;have d6:lim=1000000:=rfl;have p0:aw fs 59 12 [.dw ns,.int 0,.int 4] none= .ok (.int (eN ns 0 4),none):=nL (fs:=fs) wJ (n:=59) (by decide) (ns:=ns) (k:=0) (many:=4) (by decide) (by decide);have l0:=pM (ns:=ns) (k:=0) (many:=4) (by decide);generalize eN ns 0 4=q at p0 l0;have ec:(1:Int) + (q:Int)=((1 + q:Nat):Int):=by lia
 obtain⟨m,hm⟩:∃m,1 + q=m:=⟨_,rfl⟩;rw[hm] at ec;obtain⟨M,M1,M2,M3⟩:=AN (N:=59) (m:=m) (ns:=ns) (by decide) (by lia);have E:qj m M (zeros M.length):=⟨by lia,by lia,by lia,by simp[zeros],λq hq=>(M2 q hq).1,λq hq=>(M2 q hq).2,λx hx=>by rw[List.eq_of_mem_replicate hx];decide⟩;obtain⟨L1,Ll⟩:=xy J5 (N:=59) (ei.lst M) (by decide) E;have hg:=zD (N:=59) (by decide) E Ll;have lk:d5 .list [lI M]= .ok (lI M):=rfl;have Oi:d5 .list [lI (bE m M)]= .ok (lI (bE m M)):=rfl;have E2:qj m (M.map dq) (zeros (M.map dq).length):=⟨by lia,by lia,by rw[Pn];lia,by simp[zeros],λq hq=>by obtain⟨q0,h0,rfl⟩:=PY.mp hq;rw[cz];exact(M2 q0 h0).1,λq hq x hx=>by
  obtain⟨q0,h0,rfl⟩:=PY.mp hq;obtain⟨z,hz,rfl⟩:=PY.mp hx;have:=(M2 q0 h0).2 z hz
  lia,λx hx=>by rw[List.eq_of_mem_replicate hx];decide⟩
 obtain⟨L2,_⟩:=xy J5 (N:=59) (ei.lst (M.map dq)) (by decide) E2;rw[xj E] at L2;obtain⟨L3,_⟩:=xy J5 (N:=59) (ei.tup M) (by decide) E;have tp:d5 .tuple [lI M]= .ok (.tup (M.map tI)):=rfl;have Gd:∀x4 x5,ev (aw fs 59) (.comp [none,none] (.seq (.var 2)) (.nm 1) .nil (.bi .tuple (.cons (.comp [none,none] (.seq (.var 1)) (.nm 1) .nil (.bin .Sub (.con (.int 0)) (.var 1))) .nil))) [some (.dw ns),some (.int m),some (lI M),some (lI M),x4,x5,none] none= .ok (lI (M.map dq),none):=λx4 x5=>by
  have hc:aK (aM (.nm 1) (bh (aw fs 59) .nil) (bq (aw fs 59) (.bi .tuple (.cons (.comp [none,none] (.seq (.var 1)) (.nm 1) .nil (.bin .Sub (.con (.int 0)) (.var 1))) .nil))) [none,none]) (M.map tI) none= .ok (M.map λq=>tI (dq q),none):=aU λq hq=>by
   have CB:aK (aM (.nm 1) (bh (aw fs 59) .nil) (bq (aw fs 59) (.bin .Sub (.con (.int 0)) (.var 1))) [none,none]) (q.map Dt.int) none= .ok (q.map λz=> .int (0 - z),none):=b9 λz _=>aN (ρ1:=[none,some (.int z)]) rfl (by simp only[RX]) rfl
   have e:(q.map λz=>Dt.int (0 - z))=(dq q).map Dt.int:=by unfold dq;rw[List.map_map];rfl
   rw[e] at CB;have yP:=aV (F:=aw fs 59) (cap:=[none,none]) (it:= .seq (.var 1)) (ρ:=[none,some (tI q)]) (S:=none) (ds:=q.map Dt.int) (S1:=none) rfl (by rw[Pn,(M2 q hq).1];lia) rfl CB;refine aN (ρ1:=[none,some (tI q)]) rfl ?_ (by unfold bO;rw[cA,Bool.or_true]);rw[fO,yP];rfl
  have e:(M.map λq=>tI (dq q))=(M.map dq).map tI:=by rw[List.map_map];rfl
  rw[e] at hc;exact aV (ds:=M.map tI) (S1:=none) rfl (by rw[Pn];lia) rfl hc
 obtain⟨q1,q2⟩:=Bi M;obtain⟨q3,q4⟩:=Bi (bE m M);have hF:jw (.call 10 (.cons (.var 3) (.cons (.var 1) .nil)) []) (lI (bE m M))=true:=rfl;generalize bE m M=F at *;refine aE (d:= .int m) (S1:=none) (by simp only[RX,p0,ec]) rfl (aE (d:=lI M) (S1:=none) (by simp only[RX,M3]) rfl (aE (d:=lI M) (S1:=none) (by simp only[RX,lk]) rfl (fP (d:=lI F) (S1:=none) (by simp only[RX,L1]) rfl (dS (S1:=none) (by simp only[RX,hg,q2,Bool.not_true];rfl) (aE (d:=lI F) (S1:=none) (by simp only[RX,Oi]) rfl (aE (d:=lI F) (S1:=none) ?_ rfl (dS (S1:=none) (by simp only[RX,q4];rfl) (fQ (Cq (ds:=F.map tI) rfl) (ay ?_)))))))))
 ·rw[ev];simp only[RX,Gd,L2]
 ·simp only[RX,L1,L3,tp,q3]
end K22
end
section
namespace PySem.W.Fast
theorem tw5346450183178963813:True:=⟨⟩
theorem tw7431686758199599322:True:=⟨⟩
theorem tw527646002558218784:True:=⟨⟩
theorem tw72356594786802310:True:=⟨⟩
theorem tw7353314063403966199:True:=⟨⟩
theorem tw1840247588766947213:True:=⟨⟩
theorem tw18432344263684487673:True:=⟨⟩
theorem tw4103890689196010129:True:=⟨⟩
theorem tw15666937501050210421:True:=⟨⟩
theorem tw15046920301343305440:True:=⟨⟩
theorem tw7717372548401589839:True:=⟨⟩
theorem tw14967833787047617359:True:=⟨⟩
theorem tw3709505573793089433:True:=⟨⟩
theorem tw6118513766344785554:True:=⟨⟩
theorem tw8092476296728255235:True:=⟨⟩
theorem tw11817432686860097313:True:=⟨⟩
theorem tw16314392284199783819:True:=⟨⟩
theorem tw13553038418524453768:True:=⟨⟩
theorem tw2360165589143571556:True:=⟨⟩
theorem tw12198684378917723115:True:=⟨⟩
theorem tw7715519639516264255:True:=⟨⟩
theorem tw4056020104861295905:True:=⟨⟩
theorem tw1193446677255300661:True:=⟨⟩
theorem tw3747112018034689119:True:=⟨⟩
theorem tw13400204512391901337:True:=⟨⟩
theorem tw6104132526744912706:True:=⟨⟩
theorem tw15028083685986319948:True:=⟨⟩
theorem tw12771323259880389125:True:=⟨⟩
theorem tw9491679687487082221:True:=⟨⟩
theorem tw6429372409013752145:True:=⟨⟩
theorem tw8915409445823459594:True:=⟨⟩
theorem tw16498711441920473405:True:=⟨⟩
theorem tw10937778440837592230:True:=⟨⟩
theorem tw2055790919490535408:True:=⟨⟩
theorem tw4853673906749620906:True:=⟨⟩
theorem tw907930367574957259:True:=⟨⟩
theorem tw3254557574905440702:True:=⟨⟩
theorem tw7876276163595649552:True:=⟨⟩
theorem tw4664202172535694155:True:=⟨⟩
theorem tw2905675153171510905:True:=⟨⟩
theorem tw2593458037962337200:True:=⟨⟩
theorem tw17802446390240379078:True:=⟨⟩
theorem tw13222962794151893410:True:=⟨⟩
theorem tw9271895754301666291:True:=⟨⟩
theorem tw2654656423912580302:True:=⟨⟩
theorem tw8687913758504639249:True:=⟨⟩
theorem tw7753933539066006460:True:=⟨⟩
theorem tw7976958363180222228:True:=⟨⟩
theorem tw7369235299533365708:True:=⟨⟩
theorem tw10076343664410277297:True:=⟨⟩
theorem tw4295822026939162345:True:=⟨⟩
theorem tw7114862377995796434:True:=⟨⟩
theorem tw514550883361630051:True:=⟨⟩
theorem tw15325001571457341347:True:=⟨⟩
theorem tw6884451543425683717:True:=⟨⟩
theorem tw8042563534180301196:True:=⟨⟩
theorem tw5256460600036404084:True:=⟨⟩
theorem tw12828730069811944624:True:=⟨⟩
theorem tw10238867005972114616:True:=⟨⟩
theorem tw17508365488726645155:True:=⟨⟩
theorem tw6832323358571368378:True:=⟨⟩
theorem tw15717178527017422062:True:=⟨⟩
theorem tw11006325426179967224:True:=⟨⟩
theorem tw2412461128433903672:True:=⟨⟩
theorem tw16493236001696910971:True:=⟨⟩
theorem tw11809920670083290681:True:=⟨⟩
theorem tw3414245768484178069:True:=⟨⟩
theorem tw9342192916936407102:True:=⟨⟩
theorem tw4321829592258425833:True:=⟨⟩
theorem tw9439516999433930628:True:=⟨⟩
theorem tw1106109574122304980:True:=⟨⟩
theorem tw6543681549906843776:True:=⟨⟩
theorem tw11252764370214115214:True:=⟨⟩
theorem tw13524428808939450660:True:=⟨⟩
theorem tw11361896118411434040:True:=⟨⟩
theorem tw4804254780555632490:True:=⟨⟩
theorem tw8069316357400112950:True:=⟨⟩
theorem tw1075499469344916732:True:=⟨⟩
theorem tw5653342894510422070:True:=⟨⟩
theorem tw3425938651141604299:True:=⟨⟩
end PySem.W.Fast
open PySem PySem.W PyProof.Rows Rx
set_option maxHeartbeats 0 in
theorem PySem.Challenge.cw_mixform_k22_least_are_least_holds : PySem.Challenge.rw_mixform_k22_least_are_least.Holds := by
 w_on;o_law;k_head;(case hw=>w_witness2)
 k_fill
 refine walkR (k:=60) (l:=PySem.Challenge.rw_mixform_k22_least_are_least) rfl rfl ⟨rfl,by decide,by decide⟩ (λw h Y=>kIn_of Y) ?F
 case F=>
  intro w mg fa h KX G hmg;refine law_mk (rs:=K22.rows) (cons:=K22.cons) (bls:=K22.bls) (xs:=K22.xs) (L:=23) (n:=59) KX G hmg rfl K22.hok K22.hfs (λs v _ _ _ _ _ _=> .of_eq rfl) K22.law_true ?B ?C ?D ?E
  case B=>exact⟨by k_is,by k_is,by k_is,by k_is,by k_is,by k_is,by k_is,by k_is,by k_is,by k_is,by k_is,by k_is,by k_is,by k_is,by k_is,trivial⟩
  case C=>exact⟨⟨_,by k_is,rfl,by first | rfl | exact⟨_,rfl⟩⟩,⟨_,by k_is,rfl,by first | rfl | exact⟨_,rfl⟩⟩,⟨_,by k_is,rfl,by first | rfl | exact⟨_,rfl⟩⟩,⟨_,by k_is,rfl,by first | rfl | exact⟨_,rfl⟩⟩,trivial⟩
  case D=>
   refine⟨?_,?_,?_,?_,?_,?_,?_,?_,?_,?_,?_,?_,?_,?_,?_,?_,?_,?_,?_,?_,?_,?_,?_,?_,trivial⟩
   all_goals exact⟨_,_,_,_,_,_,_,_,_,_,_,by k_is,by k_is,by k_is,by k_is,λ_=>rfl,binds0 (by repeat first | exact len0 rfl | refine lenS λ_=>?_)⟩
  case E=>exact rfl
#print axioms PySem.Challenge.cw_mixform_k22_least_are_least_holds
end