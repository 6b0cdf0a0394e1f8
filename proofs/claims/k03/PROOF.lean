import PyProof.Rows.All
import Wide.All
import OpenK.AllK
import Wide.FinOn
import Lean
import PyProof.EqAt
import PyProof.EqKinds
import PyProof.TupleCall
import PyProof.NeKinds
import PyProof.Rows.CallKwBuiltin
import PySem.Challenge.RW_mixform_k03_measures
set_option Elab.async false
set_option linter.all false
set_option maxRecDepth 100000
set_option maxHeartbeats 4000000
section
open PySem PySem.W PySem.Spec PyProof.Rows
def Pi:=@wpAny_bind
def Pj:=@Option.bind_eq_some_iff
def Pk:=@Heap.get?_push_of_some
def Pl:=@wpAny_pure
def Pm:=@Bool.and_eq_true
def Pn:=@List.size_toArray
def Po:=@of_decide_eq_true
def Pp:=@List.getElem?_eq_some_iff
def Pq:=@List.mem_cons_of_mem
def Pr:=@kasC_bind
def Pt:=@Nat.le_refl
def Pu:=@List.mem_cons_self
def Pv:=@Heap.get?_push_size
def Pw:=@kasC_pure
def Px:=@List.length_map
def Py:=@Heap.lt_size
def Pz:=@Nat.le_trans
def PC:=@List.mem_cons
def PD:=@List.not_mem_nil
def PF:=@List.append_assoc
def PH:=@Option.map_eq_some_iff
def PJ:=@List.length_append
def PL:=@List.getElem?_set_ne
def PM:=@List.length_cons
def PN:=@List.getElem?_map
def PP:=@Array.length_toList
def PQ:=@Nat.lt_of_lt_of_le
def PU:=@List.mem_append
def PV:=@eq_of_beq
def PX:=@List.getElem?_eq_getElem
def PY:=@decide_eq_false
def PZ:=@List.lookup_cons
def P0:=@KeyOrd.kle_trans
def P1:=@Heap.get?_update_other
def P3:=@decide_eq_true
def P4:=@Heap.size_push
def P5:=@Nat.ne_of_lt
def P6:=@List.mem_append_right
def P7:=@wpAny_setField_rec
def P8:=@List.mem_singleton
def P9:=@List.mem_map
def Qa:=@List.all_eq_true
def Qb:=@Int.emod_nonneg
def Qc:=@Int.emod_lt_of_pos
def Qd:=@List.append_nil
def Qe:=@Bool.or_eq_true
def Qf:=@List.getElem?_append_left
def Qg:=@List.getElem?_append_right
def Qh:=@List.map_cons
def Qi:=@List.map_append
def Qj:=@List.getElem?_set_self
def Qk:=@List.mem_range
def Ql:=@Array.size_push
end
section
namespace L2
open PySem PySem.Spec PyProof.Rows
abbrev Key:=Sum Int Str
def BD:Key->Value->Bool
 | .inl k,v=>Value.isInt k v
 | .inr x,v=>Value.isStrOf x v
def KI (w:World):Key->Int
 | .inl k=>hashInt k
 | .inr x=>hashStr w x
def bh:∀{k:Key} {v:Value},BD k v=true->(∃i t,k=Sum.inl i/\v=Value.int i t)\/(∃x t,k=Sum.inr x/\v=Value.str x t)
 | .inl i,v,h=>by obtain⟨t,e⟩:=Value.isInt_shape (k:=i) (v:=v) h;exact .inl ⟨i,t,rfl,e⟩
 | .inr x,v,h=>by obtain⟨t,e⟩:=Value.isStrOf_shape (x:=x) (v:=v) h;exact .inr ⟨x,t,rfl,e⟩
def CD (a b:Int):decide ((Sum.inl a:Key)=Sum.inl b)=(a==b):=by grind
def CJ (a b:Str):decide ((Sum.inr a:Key)=Sum.inr b)=decide (a=b):=by grind
def CF (a:Int) (b:Str):decide ((Sum.inl a:Key)=Sum.inr b)=false:=PY (λq=>nomatch q)
def D7 (a:Str) (b:Int):decide ((Sum.inr a:Key)=Sum.inl b)=false:=PY (λq=>nomatch q)
def nN (prog:Program) (w:World):PySem.KeyKind prog w Key where
 is:=BD
 hash:=KI w
 inj:=λv a b ha hb=>by
  rcases bh ha with ⟨i,t,rfl,rfl⟩ | ⟨x,t,rfl,rfl⟩
  ·rcases bh hb with ⟨j,u,rfl,e⟩ | ⟨y,u,rfl,e⟩
   ·injection e with e1 _;rw[e1]
   ·exact nomatch e
  ·rcases bh hb with ⟨j,u,rfl,e⟩ | ⟨y,u,rfl,e⟩
   ·exact nomatch e
   ·injection e with e1 _;rw[e1]
 byValue:=λk v h=>by rcases bh h with ⟨i,t,rfl,rfl⟩ | ⟨x,t,rfl,rfl⟩ <;> rfl
 pyHash:=λhv h=>by
  rcases bh hv with ⟨i,t,rfl,rfl⟩ | ⟨x,t,rfl,rfl⟩
  ·exact wpAny_pyHash_int h
  ·exact wpAny_pyHash_str h
 eqBool:=λhu hv h=>by
  rcases bh hu with ⟨i,t,rfl,rfl⟩ | ⟨x,t,rfl,rfl⟩
  ·rcases bh hv with ⟨j,u,rfl,rfl⟩ | ⟨y,u,rfl,rfl⟩
   ·rw[CD] at h;exact wpAny_eqBool_int h
   ·rw[CF] at h;exact SeqAt.EqAt.int_str i t y u _ _ _ _ h
  ·rcases bh hv with ⟨j,u,rfl,rfl⟩ | ⟨y,u,rfl,rfl⟩
   ·rw[D7] at h;exact SeqAt.EqAt.str_int x t j u _ _ _ _ h
   ·rw[CJ] at h;exact wpAny_eqBool_str h
 «strs»:=λk x t v h=>by
  rcases bh h with ⟨i,u,rfl,e⟩ | ⟨y,u,rfl,e⟩
  ·exact nomatch e
  ·injection e with e1 _;subst e1;cases v <;> rfl
end L2
namespace L2
open PySem PySem.Spec PyProof.Rows
inductive V where
 | bo | bl (b:Bool) | int (i:Int) | str (x:Str) | EZ (b:Array UInt8) | AX (b:UInt64) | ref (a:Addr) | ty (n:String)
 deriving DecidableEq
def RelV:V->Value->Prop
 | .bo,u=>u=Value.none
 | .bl b,u=>u=Value.bool b
 | .int i,u=>∃t,u=Value.int i t
 | .str x,u=>∃t,u=Value.str x t
 | .EZ b,u=>∃t,u=Value.bytes b t
 | .AX b,u=>∃t,u=Value.float b t
 | .ref a,u=>u=Value.ref a
 | .ty n,u=>u=Value.type n
abbrev aw:List V->List Value->Prop:=Paired RelV
def aw.length {xs:List V} {us:List Value} (r:aw xs us):xs.length=us.length:=Paired.length r
def aw.get:∀{xs:List V} {us:List Value} {i:Nat} {x:V},aw xs us->xs[i]?=some x->∃u,us[i]?=some u/\RelV x u
 | _,_,_,_,.nil,e=>by simp at e
 | _,_,0,_,.cons r _,e=>by simp at e;subst e;exact⟨_,rfl,r⟩
 | _,_,i + 1,x,.cons _ t,e=>by obtain⟨u,h1,h2⟩:=aw.get (i:=i) (x:=x) t (by simpa using e);exact⟨u,by simpa using h1,h2⟩
def aw.set {x:V} {u:Value} (r:RelV x u):∀{xs:List V} {us:List Value} (i:Nat),aw xs us->aw (xs.set i x) (us.set i u)
 | _,_,_,.nil=> .nil
 | _,_,0,.cons _ t=> .cons r t
 | _,_,i + 1,.cons q t=> .cons q (aw.set r i t)
def aw.append:∀{xs ys:List V} {us ws:List Value},aw xs us->aw ys ws->aw (xs++ys) (us++ws)
 | _,_,_,_,.nil,s=>s
 | _,_,_,_,.cons r t,s=> .cons r (aw.append t s)
def aw.take:∀{xs:List V} {us:List Value} (n:Nat),aw xs us->aw (xs.take n) (us.take n)
 | _,_,0,_=> .nil
 | _,_,_ + 1,.nil=> .nil
 | _,_,n + 1,.cons r t=> .cons r (aw.take n t)
def aw.drop:∀{xs:List V} {us:List Value} (n:Nat),aw xs us->aw (xs.drop n) (us.drop n)
 | _,_,0,r=>r
 | _,_,_ + 1,.nil=> .nil
 | _,_,n + 1,.cons _ t=>aw.drop n t
def DT:Option V->Option Value->Prop
 | some v,some u=>RelV v u
 | none,none=>True
 | _,_=>False
def KV {κ:Type}:List (κ×V)->List (κ×Value)->Prop:=Paired λ(p:κ×V) (q:κ×Value)=>p.1=q.1/\RelV p.2 q.2
def kV:Key->V
 | .inl i=> .int i
 | .inr x=> .str x
inductive HO where
 | lst (xs:List V)
 | tup (xs:List V)
 | dK (eL:List (Key×V)) | dT (eL:List (List Key×V))
 | set (S:Int->Bool) (n:Nat)
 | ins (C dx:Addr) (fs:List (Str×V))
 | own (x:Addr)
 | xd (fs:List (Str×V))
 | met (f x:Addr)
 | K0 (lo hi:Int)
 | sP (o:Obj) (u:HO)
 | Dq (ps:Array Value)
 | ext (φ:Heap->Prop)
abbrev Hp:=Addr->Option HO
def upd (H:Hp) (a:Addr) (o:HO):Hp:=λb=>if b=a then some o else H b
theorem az {H:Hp} {a:Addr} {o:HO}:upd H a o a=some o:=by unfold upd;rw[if_pos rfl]
theorem ao {H:Hp} {a b:Addr} {o:HO} (h:b≠a):upd H a o b=H b:=by unfold upd;rw[if_neg h]
def au {H:Hp} {a b:Addr} {o:HO} (h:H a=some o) (h':H b=none):a≠b:=by intro e;subst e;rw[h] at h';cases h'
section
variable (P:Program) (w:World)
def bO (H:Hp) (h:Heap) (a:Addr):HO->Prop
 | .lst xs=>xs.length<=sizeLine/\∃(its:List Value) (n:Nat),aw xs its/\h.get? a=some {cls:= .type "list",data:= .seq its.toArray n}
 | .tup xs=>xs.length<=sizeLine/\∃its:List Value,aw xs its/\IsTup h a its.toArray
 | .dK eL=>eL.length<=sizeLine/\(a==sysModules)=false/\∃vs,KV eL vs/\h.DictOf (nN P w) a vs
 | .dT eL=>eL.length<=sizeLine/\(a==sysModules)=false/\∃xs:List (List Key×Addr×Value),
   Paired (λ(p:List Key×V) (q:List Key×Addr×Value)=>p.1=q.1/\H q.2.1=some (.tup (p.1.map kV))/\RelV p.2 q.2.2) eL xs/\
   ∃o es ep,h.get? a=some o/\o.ExactDict/\o.data= .dict es ep/\es.toList=xs.map (entryOfKey (tupleKind (nN P w)))/\(xs.map (·.1)).Nodup
 | .set S n=>h.SetOf (intKind P w) a S n
 | .ins C dx fs=>H dx=some (.own a)/\fs.length<=1000/\dx≠a/\h.get? a=some (PySem.W.instObj C dx)/\
   ∃mA,h.Ns1 dx mA/\(∀f,DT (fs.lookup f) (mA f))/\PySem.Within mA (fs.map (·.1))
 | .own _=>∃o,h.get? a=some o
 | .xd fs=>∃mA,h.Ns1 a mA/\∀f,DT (fs.lookup f) (mA f)
 | .K0 lo hi=>∃t u v,h.get? a=some {cls:= .type "range",data:= .fields #[.int lo t,.int hi u,.int 1 v]}
 | .sP o u=>h.get? a=some o/\bO H h a u
 | .Dq ps=>h.get? a=some {cls:= .none,data:= .fields ps}
 | .met f x=>h.get? a=some (PySem.W.methodObj (.ref f) (.ref x))
 | .ext φ=>φ h/\(∃o,h.get? a=some o)/\∀h1 h2:Heap,φ h1->(∀o,h1.get? a=some o->h2.get? a=some o)->φ h2
def eh (H:Hp) (h:Heap):Prop:=∀a o,H a=some o->bO P w H h a o
end
section
variable {P:Program} {w:World} {H H':Hp} {h h':Heap} {a:Addr} {o:HO}
def bO.lt (x:bO P w H h a o):a < h.objs.size:=by
 cases o with
 | lst xs=>obtain⟨_,_,_,_,e⟩:=x;exact Py e
 | tup xs=>obtain⟨_,_,_,p⟩:=x;exact p.lt
 | dK eL=>obtain⟨_,_,_,_,o,_,_,e,_⟩:=x;exact Py e
 | dT eL=>obtain⟨_,_,_,_,o,_,_,e,_⟩:=x;exact Py e
 | set S n=>obtain⟨o,_,_,_,e,_⟩:=x;exact Py e
 | ins C dx fs=>obtain⟨_,_,_,e,_⟩:=x;exact Py e
 | own y=>obtain⟨_,e⟩:=x;exact Py e
 | xd fs=>obtain⟨_,⟨_,_,_,e,_⟩,_⟩:=x;exact Py e
 | K0 lo hi=>obtain⟨_,_,_,e⟩:=x;exact Py e
 | sP ob u=>obtain⟨e,_⟩:=x;exact Py e
 | Dq ps=>exact Py (show h.get? a=some _ from x)
 | met f y=>exact Py (show h.get? a=some _ from x)
 | ext φ=>obtain⟨_,⟨_,e⟩,_⟩:=x;exact Py e
def Paired.FL {α β:Type} {F G:α->β->Prop}:∀{l₁:List α} {l₂:List β},Paired F l₁ l₂->(∀a b,F a b->G a b)->Paired G l₁ l₂
 | _,_,.nil,_=> .nil
 | _,_,.cons r t,f=> .cons (f _ _ r) (Paired.FL t f)
def bO.iR (x:bO P w H h a o) (k:∀b u,(b=a\/H b=some (.own a))->h.get? b=some u->h'.get? b=some u)
  (ho:∀b,H b=some (.own a)->H' b=some (.own a)) (ht:∀b xs,H b=some (.tup xs)->H' b=some (.tup xs)):bO P w H' h' a o:=by
 induction o with
 | lst xs=>obtain⟨z,its,n,r,e⟩:=x;exact⟨z,its,n,r,k _ _ (.inl rfl) e⟩
 | tup xs=>obtain⟨z,its,r,ob,e,c⟩:=x;exact⟨z,its,r,ob,k _ _ (.inl rfl) e,c⟩
 | dK eL=>obtain⟨z,y,vs,r,ob,es,ep,e,c⟩:=x;exact⟨z,y,vs,r,ob,es,ep,k _ _ (.inl rfl) e,c⟩
 | dT eL=>obtain⟨z,y,xs,r,ob,es,ep,e,c⟩:=x;exact⟨z,y,xs,Paired.FL r λp q z=>⟨z.1,ht _ _ z.2.1,z.2.2⟩,ob,es,ep,k _ _ (.inl rfl) e,c⟩
 | set S n=>obtain⟨ob,es,ep,t,e,c⟩:=x;exact⟨ob,es,ep,t,k _ _ (.inl rfl) e,c⟩
 | ins C dx fs=>obtain⟨d,z,ne,e,mA,⟨od,es,ep,e2,c⟩,r⟩:=x;exact⟨ho _ d,z,ne,k _ _ (.inl rfl) e,mA,⟨od,es,ep,k _ _ (.inr d) e2,c⟩,r⟩
 | own y=>obtain⟨ob,e⟩:=x;exact⟨ob,k _ _ (.inl rfl) e⟩
 | xd fs=>obtain⟨mA,⟨od,es,ep,e,c⟩,r⟩:=x;exact⟨mA,⟨od,es,ep,k _ _ (.inl rfl) e,c⟩,r⟩
 | K0 lo hi=>obtain⟨t,u,v,e⟩:=x;exact⟨t,u,v,k _ _ (.inl rfl) e⟩
 | sP ob u ih=>obtain⟨e,q⟩:=x;exact⟨k _ _ (.inl rfl) e,ih q⟩
 | Dq ps=>have e:h.get? a=some {cls:= .none,data:= .fields ps}:=x;show h'.get? a=some {cls:= .none,data:= .fields ps};exact k a _ (.inl rfl) e
 | met f y=>have e:h.get? a=some (PySem.W.methodObj (.ref f) (.ref y)):=x;show h'.get? a=some (PySem.W.methodObj (.ref f) (.ref y));exact k a _ (.inl rfl) e
 | ext φ=>obtain⟨p,⟨o,e⟩,st⟩:=x;exact⟨st _ _ p λo q=>k _ _ (.inl rfl) q,⟨o,k _ _ (.inl rfl) e⟩,st⟩
def eh.lt (x:eh P w H h) (e:H a=some o):a < h.objs.size:=(x a o e).lt
def eh.fresh (x:eh P w H h) (e:h.objs.size<=a):H a=none:=by
 cases q:H a with
 | none=>rfl
 | some u=>exact absurd (PQ (x.lt q) e) (Nat.lt_irrefl _)
def eh.kept (x:eh P w H h) (k:∀b u,h.get? b=some u->h'.get? b=some u):eh P w H h':=λa o e=>
 (x a o e).iR (λb u _ q=>k b u q) (λ_ q=>q) λ_ _ q=>q
def eh.laid (x:eh P w H h) (k:∀b u,h.get? b=some u->h'.get? b=some u) (hp:h.objs.size<=a) (new:bO P w (upd H a o) h' a o):eh P w (upd H a o) h':=λb u e=>by
 have hn:=x.fresh hp;by_cases hb:b=a
 ·subst hb;rw[az] at e;cases e;exact new
 ·rw[ao hb] at e;exact(x b u e).iR (λc v _ q=>k c v q) (λc q=>by rw[ao (au q hn)];exact q) λc xs q=>by rw[ao (au q hn)];exact q
end
def Rd (H:Hp) (a:Addr) (u:HO):Prop:=H a=some u\/∃o,H a=some (.sP o u)
def Rd.ok {P:Program} {w:World} {H:Hp} {h:Heap} {a:Addr} {u:HO} (r:Rd H a u) (x:eh P w H h):bO P w H h a u:=by
 rcases r with r | ⟨o,r⟩
 ·exact x a u r
 ·obtain⟨_,q⟩:=x a _ r;exact q
def IC:Option HO->Prop
 | some (.lst _)=>True
 | some (.dK _)=>True
 | some (.dT _)=>True
 | some (.set _ _)=>True
 | some (.ins _ _ _)=>True
 | some (.ext _)=>True
 | _=>False
section
variable {P:Program} {w:World} {H:Hp} {h h':Heap} {x e:Addr} {o':HO}
def eh.write (ok:eh P w H h) (mu:IC (H x)) (he:e=x\/H e=some (.own x)) (k:∀b u,b≠e->h.get? b=some u->h'.get? b=some u) (EY:∃u,h'.get? e=some u)
  (new:bO P w (upd H x o') h' x o'):eh P w (upd H x o') h':=λb u q=>by
 have G5:∀c y,H c=some (.own y)->c≠x:=λc y r z=>by subst z;rw[r] at mu;exact mu
 have J0:∀c xs,H c=some (.tup xs)->c≠x:=λc xs r z=>by subst z;rw[r] at mu;exact mu
 by_cases hb:b=x
 ·subst hb;rw[az] at q;cases q;exact new
 ·rw[ao hb] at q;by_cases hbe:b=e
  ·have q':H b=some (.own x):=by
    rcases he with z | z
    ·exact absurd (hbe.trans z) hb
    ·rw[hbe];exact z
   rw[q] at q';cases q';obtain⟨v,hv⟩:=EY;exact⟨v,by rw[hbe];exact hv⟩
  ·refine(ok b u q).iR (λc v hc r=>k c v ?_ r) (λc r=>by rw[ao (G5 c b r)];exact r) λc xs r=>by rw[ao (J0 c xs r)];exact r
   rcases hc with rfl | hc
   ·exact hbe
   ·rintro rfl;rcases he with z | z
    ·exact G5 c b hc z
    ·rw[hc] at z;cases z;exact hb rfl
end
structure Un (fs ex:List Addr) (H H':Hp) (h h':Heap):Prop where
 keep:∀b o,h.get? b=some o->H b=none->b∉fs->b∉ex->h'.get? b=some o
 slot:∀b o,h.get? b=some o->H b=none->b∈fs->b∉ex->∃sl,h'.get? b=some {o with slots:=sl}
 free:∀b o,h.get? b=some o->H b=none->b∉ex->H' b=none
 there:∀b o,h.get? b=some o->b∉ex->∃o',h'.get? b=some o'
 tups:∀b xs,H b=some (.tup xs)->H' b=some (.tup xs)
 frzs:∀b o u,H b=some (.sP o u)->H' b=some (.sP o u)
 tbls:∀b ps,H b=some (.Dq ps)->∃more,H' b=some (.Dq (ps++more))
section
variable {fs KD ex O9:List Addr} {H H1 H2:Hp} {h h1 h2 h':Heap} {a x e:Addr} {o:HO}
def Un.any (u:Un fs ex H H1 h h1) {b:Addr} {ob:Obj} (q:h.get? b=some ob) (n:H b=none) (hx:b∉ex):∃sl,h1.get? b=some {ob with slots:=sl}:=by
 by_cases hb:b∈fs
 ·exact u.slot b ob q n hb hx
 ·exact⟨ob.slots,u.keep b ob q n hb hx⟩
def Un.trans (a:Un fs ex H H1 h h1) (b:Un fs ex H1 H2 h1 h2):Un fs ex H H2 h h2 where
 keep:=λc ob q n hc hx=>b.keep c ob (a.keep c ob q n hc hx) (a.free c ob q n hx) hc hx
 slot:=λc ob q n hc hx=>by obtain⟨sl,e1⟩:=a.slot c ob q n hc hx;obtain⟨Fx,e2⟩:=b.slot c _ e1 (a.free c ob q n hx) hc hx;exact⟨Fx,e2⟩
 free:=λc ob q n hx=>by obtain⟨o',e1⟩:=a.there c ob q hx;exact b.free c o' e1 (a.free c ob q n hx) hx
 there:=λc ob q hx=>by obtain⟨o',e1⟩:=a.there c ob q hx;exact b.there c o' e1 hx
 tups:=λc xs q=>b.tups c xs (a.tups c xs q)
 frzs:=λc ob xs q=>b.frzs c ob xs (a.frzs c ob xs q)
 tbls:=λc ps q=>by obtain⟨m1,e1⟩:=a.tbls c ps q;obtain⟨m2,e2⟩:=b.tbls c _ e1;exact⟨m1++m2,by rw[e2,Array.append_assoc]⟩
def Un.kept (k:∀b u,h.get? b=some u->h'.get? b=some u):Un fs ex H H h h':=
 ⟨λb ob q _ _ _=>k b ob q,λb ob q _ _ _=>⟨ob.slots,k b ob q⟩,λ_ _ _ n _=>n,λb ob q _=>⟨ob,k b ob q⟩,λ_ _ q=>q,λ_ _ _ q=>q,λ_ ps q=>⟨#[],by rw[q];simp⟩⟩
def Un.refl:Un fs ex H H h h:=Un.kept λ_ _ q=>q
def Un.laid (k:∀b u,h.get? b=some u->h'.get? b=some u) (hp:h.objs.size<=a) (hn:H a=none):Un fs ex H (upd H a o) h h' where
 keep:=λb u q _ _ _=>k b u q
 slot:=λb u q _ _ _=>⟨u.slots,k b u q⟩
 free:=λb u q n _=>by rw[ao (P5 (PQ (Py q) hp))];exact n
 there:=λb u q _=>⟨u,k b u q⟩
 tups:=λb xs q=>by rw[ao (au q hn)];exact q
 frzs:=λb u xs q=>by rw[ao (au q hn)];exact q
 tbls:=λb ps q=>⟨#[],by rw[ao (au q hn),q];simp⟩
def Un.write (mu:IC (H x)) (he:e=x\/H e=some (.own x)) (k:∀b u,b≠e->h.get? b=some u->h'.get? b=some u) (EY:∃u,h'.get? e=some u):Un fs ex H (upd H x o) h h':=by
 have hx:∀b,H b=none->b≠x:=λb n z=>by subst z;rw[n] at mu;exact mu
 have hb:∀b,H b=none->b≠e:=λb n z=>by
  subst z;rcases he with r | r
  ·exact hx b n r
  ·rw[n] at r;cases r
 have hm:∀b u,H b=some u->¬IC (some u)->b≠x:=λb u q nm z=>by subst z;rw[q] at mu;exact nm mu
 refine⟨λb u q n _ _=>k b u (hb b n) q,λb u q n _ _=>⟨u.slots,k b u (hb b n) q⟩,λb u q n _=>by rw[ao (hx b n)];exact n,λb u q _=>?_,
  λb xs q=>by rw[ao (hm b _ q λz=>z)];exact q,λb u xs q=>by rw[ao (hm b _ q λz=>z)];exact q,λb ps q=>⟨#[],by rw[ao (hm b _ q λz=>z),q];simp⟩⟩
 by_cases hbe:b=e
 ·subst hbe;exact EY
 ·exact⟨u,k b u hbe q⟩
end
def EM (h:Heap) (H:Hp):List Addr:=(List.range h.objs.size).filter λa=>(H a).isSome
def nq (h:Heap) (H:Hp):Heap:=PySem.W.hideAll h (EM h H)
def uV (h:Heap) (H:Hp):(nq h H).objs.size=h.objs.size:=PySem.W.hideAll_size _ _
def xJ {h:Heap} {H:Hp} {b:Addr} {o:Obj} (e:h.get? b=some o) (n:H b=none):(nq h H).get? b=some o:=
 PySem.W.hideAll_get _ e λhm=>by have q:(H b).isSome=true:=(List.mem_filter.mp hm).2;rw[n] at q;simp at q
def Bh {h:Heap} {H:Hp} {b:Addr} {o:Obj} (e:(nq h H).get? b=some o):h.get? b=some o/\H b=none:=by
 have e':h.get? b=some o:=PySem.W.of_hideAll (EM h H) e;refine⟨e',?_⟩;cases q:H b with
 | none=>rfl
 | some x=>have hm:b∈EM h H:=List.mem_filter.mpr ⟨Qk.mpr (Py e'),by simp[q]⟩;have z:(nq h H).get? b=none:=PySem.W.hideAll_none (EM h H) hm;rw[z] at e;cases e
def Am (g h:Heap) (L:Addr):List (Addr×Obj):=(List.range h.objs.size).filterMap λa=>if a=L\/(g.get? a).isSome=true then none else(h.get? a).map λo=>(a,o)
def rest (g h:Heap) (L d:Addr):List (Addr×Obj):=(Am g h L).filter λp=>decide (p.1≠d)
end L2
namespace L2
open PySem PySem.Spec PyProof.Rows
structure Mod (K:PySem.W.Frag) (mg:Str->Option Value) (base:Heap):Prop where
 J7:K.In base
 glob:base.Ns mainGlobals mg
 blt:∃mb,base.Ns builtinsNs mb/\∀x:Str,x≠"__name__"->mb x=bootBuiltins x
 nolimit:base.NoLimit
structure Cx where
 prog:Program
 w:World
 K:PySem.W.Frag
 mg:Str->Option Value
 base:Heap
 A:Around
 N:List Str
 s₀:Shared
 H₀:Hp
 env:Env
 outer:List Env
 stack:List Env
 ex:List Addr
 fn:Str->Bool
 calm:Bool
 pn:List (Addr×Obj)
 xe:Value->Shared->Prop
def eW (l:List Env):List Addr:=l.filterMap (·.frame)
abbrev Cx.fs (X:Cx):List Addr:=eW X.outer
def HC (sc:Scope) (x:Str):Prop:=sc.names.lookup x=some .local\/sc.names.lookup x=some .cell\/sc.names.lookup x=some .free
def Loc (sc:Scope) (x:Str):Prop:=sc.names.lookup x=some .local\/sc.names.lookup x=some .cell
def Look (env:Env) (h:Heap) (m:Str->Option Value) (x:Str) (u:Value):Prop:=
 (env.kindOf x=some .local/\m x=some u)\/((env.kindOf x=some .cell\/env.kindOf x=some .free)/\∃c,env.cells.lookup x=some c/\h.IsCell c (some u))
structure Cx.Ok (X:Cx):Prop where
 mod:Mod X.K X.mg X.base
 kind:X.env.scope.kind= .function
 glob:X.env.globals=mainGlobals
 blt:X.env.builtins=builtinsNs
 above:X.s₀.heap.objs.size<=X.env.locals
 inj:∀x y c,X.env.cells.lookup x=some c->X.env.cells.lookup y=some c->x=y
 has:∀x,(X.env.kindOf x=some .cell\/X.env.kindOf x=some .free)->∃c,X.env.cells.lookup x=some c
 Du:∀x c,X.fn x=true->X.env.cells.lookup x=some c->X.s₀.heap.objs.size<=c
 hd:X.calm=true->X.A.handled=none
 frames:X.A.frames=some X.stack
 Fe:X.stack=X.outer\/(X.stack=X.env::X.outer/\X.env.frame=some X.env.locals)
 F9:∀b∈X.ex,b≠X.env.locals/\∀x c,X.env.cells.lookup x=some c->c≠b
 bs:∀b o,X.base.get? b=some o->X.s₀.heap.get? b=some o/\X.H₀ b=none
 B8:X.base.objs.size<=X.s₀.heap.objs.size
 qw:∀b o,X.base.get? b=some o->b∉X.ex
 uW:∀b∈X.ex,b∉X.fs
 kb:X.s₀.heap.FunFrames X.base X.outer
 E0:∀b∈X.fs,X.H₀ b=none
structure Inv (X:Cx) (pins:List (Addr×Obj)) (σ:List (Option V)) (H:Hp) (s:Shared):Prop where
 ok:X.Ok
 os:s.os=X.s₀.os
 bare:AllBare s.gens
 base:Un X.fs X.ex X.H₀ H X.s₀.heap s.heap
 loc:∃m,s.heap.Ns X.env.locals m/\∀(i:Nat) (x:Str) (v:V),X.N[i]?=some x->σ[i]?=some (some v)->HC X.env.scope x->∃u,RelV v u/\Look X.env s.heap m x u
 cell:∀x c,X.env.cells.lookup x=some c->∃v,s.heap.IsCell c v
 free:H X.env.locals=none
 dw:∀x c,X.env.cells.lookup x=some c->H c=none
 pin:∀p∈X.pn++pins,s.heap.get? p.1=some p.2/\H p.1=none/\p.1≠X.env.locals/\p.1∉X.fs/\∀v,p.2.data≠ .cell v
 hok:eh X.prog X.w H s.heap
 len:σ.length=X.N.length
section
variable {X:Cx} {pins:List (Addr×Obj)} {σ:List (Option V)} {H H':Hp} {s:Shared} {h':Heap}
def Cx.Ok.JC (ok:X.Ok) {b:Addr} {o:Obj} (e:X.base.get? b=some o):b∉X.fs:=λhb=>by have:=(ok.kb.mem hb).1;rw[e] at this;cases this
def Inv.bs (I:Inv X pins σ H s):∀b o,X.base.get? b=some o->s.heap.get? b=some o/\H b=none:=λb o e=>
 ⟨I.base.keep b o (I.ok.bs b o e).1 (I.ok.bs b o e).2 (I.ok.JC e) (I.ok.qw b o e),I.base.free b o (I.ok.bs b o e).1 (I.ok.bs b o e).2 (I.ok.qw b o e)⟩
def Inv.bk (I:Inv X pins σ H s):∀b o,X.base.get? b=some o->s.heap.get? b=some o:=λb o e=>(I.bs b o e).1
def Inv.mod (I:Inv X pins σ H s):Mod X.K X.mg X.base:=I.ok.mod
def Inv.pH (I:Inv X pins σ H s):X.K.In s.heap:=I.ok.mod.J7.keeps I.bk
def Inv.fr (I:Inv X pins σ H s):∃m,Fr X.base X.env.locals s.heap m:=
 let ⟨m,hn,_⟩:=I.loc
 ⟨m,hn,I.bk,Pz I.ok.B8 I.ok.above⟩
def Inv.lt (I:Inv X pins σ H s):X.env.locals < s.heap.objs.size:=let ⟨_,hn,_⟩:=I.loc;hn.lt
def Inv.sz (I:Inv X pins σ H s):X.s₀.heap.objs.size<=s.heap.objs.size:=Pz I.ok.above (Nat.le_of_lt I.lt)
def Inv.Jz (I:Inv X pins σ H s) {a:Addr} (h:s.heap.objs.size<=a):a∉X.fs:=λhb=>by obtain⟨_,o,ho,_⟩:=I.ok.kb.mem hb;exact absurd (PQ (Py ho) (Pz I.sz h)) (Nat.lt_irrefl _)
def Inv.CA (I:Inv X pins σ H s):∀x c,X.env.cells.lookup x=some c->c≠X.env.locals:=λx c e z=>by obtain⟨v,o,ho,hd⟩:=I.cell x c e;obtain⟨m,⟨o',es,ep,oy,rO,_⟩,_⟩:=I.loc;rw[z,oy] at ho;cases ho;rw[rO] at hd;cases hd
def Inv.kb (I:Inv X pins σ H s):s.heap.FunFrames X.base X.outer:=by
 have all:∀(l:List Env),(∀b∈eW l,b∈X.fs)->X.s₀.heap.FunFrames X.base l->s.heap.FunFrames X.base l:=by
  intro l
  induction l with
  | nil=>intro _ _;trivial
  | cons env r ih=>
   intro hs hl;obtain⟨hk,⟨L,o,hf,hn,ho,hd⟩,hr⟩:=hl;have hL:L∈X.fs:=hs L (by unfold eW;rw[List.filterMap_cons,hf];exact Pu);obtain⟨sl,e⟩:=I.base.slot L o ho (I.ok.E0 L hL) hL λz=>I.ok.uW L z hL
   exact⟨hk,⟨L,_,hf,hn,e,hd⟩,ih (λb hb=>hs b (by unfold eW;rw[List.filterMap_cons,hf];exact Pq _ hb)) hr⟩
 exact all X.outer (λ_ hb=>hb) I.ok.kb
def Inv.stack (I:Inv X pins σ H s):s.heap.FunFrames X.base X.stack:=by
 rcases I.ok.Fe with e | ⟨e,hf⟩
 ·rw[e];exact I.kb
 ·rw[e];obtain⟨m,hn,_⟩:=I.loc;refine .cons (by rw[I.ok.kind];decide) hf hn ?_ I.kb;exact Heap.get?_none_of_le (Pz I.ok.B8 I.ok.above)
def Inv.kg (I:Inv X pins σ H s):∀b∈eW X.stack,b∈X.env.locals::X.fs:=λb hb=>by
 rcases I.ok.Fe with e | ⟨e,hf⟩
 ·rw[e] at hb;exact Pq _ hb
 ·rw[e] at hb;unfold eW at hb;rw[List.filterMap_cons,hf] at hb;exact hb
def Inv.nO (I:Inv X pins σ H s):∀b∈eW X.stack,H b=none:=λb hb=>by
 rcases PC.mp (I.kg b hb) with e | hb
 ·rw[e];exact I.free
 ·obtain⟨_,o,ho,_⟩:=I.ok.kb.mem hb;exact I.base.free b o ho (I.ok.E0 b hb) λz=>I.ok.uW b z hb
def Inv.step {g':Array GenState} {t':Nat} {d':Drawn} {ch:List Addr} (I:Inv X pins σ H s)
  (zr:∀b∈ch,(b∈X.ex\/X.s₀.heap.objs.size<=b)/\b≠X.env.locals/\(∀x c,X.env.cells.lookup x=some c->c≠b)/\∀p∈X.pn++pins,p.1≠b)
  (keep:∀b o,b≠X.env.locals->b∉X.fs->b∉ch->s.heap.get? b=some o->H b=none->h'.get? b=some o)
  (slot:∀b o,b≠X.env.locals->b∈X.fs->b∉ch->s.heap.get? b=some o->H b=none->∃sl,h'.get? b=some {o with slots:=sl}) (free:∀b o,b∉ch->s.heap.get? b=some o->H b=none->H' b=none)
  (there:∀b o,b∉ch->s.heap.get? b=some o->∃o',h'.get? b=some o')
  (tups:∀b xs,H b=some (.tup xs)->H' b=some (.tup xs)) (frzs:∀b o u,H b=some (.sP o u)->H' b=some (.sP o u)) (tbls:∀b ps,H b=some (.Dq ps)->∃more,H' b=some (.Dq (ps++more)))
  (ns:∀m,s.heap.Ns X.env.locals m->h'.Ns X.env.locals m) (hok:eh X.prog X.w H' h') (hg:AllBare g'):
  Inv X pins σ H' {s with heap:=h',gens:=g',drawn:=d',toks:=t'}:=by
 have Jn:∀b o,X.s₀.heap.get? b=some o->b≠X.env.locals:=λb o e=>P5 (PQ (Py e) I.ok.above)
 have Ir:∀b o,X.s₀.heap.get? b=some o->b∉X.ex->b∉ch:=λb o e hx hb=>by
  rcases (zr b hb).1 with z | z
  ·exact hx z
  ·exact absurd (PQ (Py e) z) (Nat.lt_irrefl _)
 have cellK:∀x c,X.env.cells.lookup x=some c->∀v,s.heap.IsCell c v->h'.IsCell c v:=λx c e v ⟨o,ho,hd⟩=>by
  have HU:c∉ch:=λz=>(zr c z).2.2.1 x c e rfl
  by_cases hc:c∈X.fs
  ·obtain⟨sl,q⟩:=slot c o (I.CA x c e) hc HU ho (I.dw x c e);exact⟨_,q,hd⟩
  ·exact⟨o,keep c o (I.CA x c e) hc HU ho (I.dw x c e),hd⟩
 refine⟨I.ok,I.os,hg,⟨λb o e n hb hx=>?_,λb o e n hb hx=>?_,λb o e n hx=>?_,λb o e hx=>?_,λb xs e=>tups b xs (I.base.tups b xs e),λb o xs e=>frzs b o xs (I.base.frzs b o xs e),λb ps e=>?_⟩,?_,λx c e=>?_,?_,λx c e=>?_,λp hp=>?_,hok,I.len⟩
 ·exact keep b o (Jn b o e) hb (Ir b o e hx) (I.base.keep b o e n hb hx) (I.base.free b o e n hx)
 ·obtain⟨sl,e1⟩:=I.base.slot b o e n hb hx;obtain⟨Fx,e2⟩:=slot b _ (Jn b o e) hb (Ir b o e hx) e1 (I.base.free b o e n hx);exact⟨Fx,e2⟩
 ·obtain⟨o',e1⟩:=I.base.there b o e hx;exact free b o' (Ir b o e hx) e1 (I.base.free b o e n hx)
 ·obtain⟨o',e1⟩:=I.base.there b o e hx;exact there b o' (Ir b o e hx) e1
 ·obtain⟨m1,e1⟩:=I.base.tbls b ps e;obtain⟨m2,e2⟩:=tbls b _ e1;exact⟨m1++m2,by rw[e2,Array.append_assoc]⟩
 ·obtain⟨m,hn,hl⟩:=I.loc;refine⟨m,ns m hn,λi x v e1 e2 e3=>?_⟩;obtain⟨u,r,l⟩:=hl i x v e1 e2 e3;refine⟨u,r,?_⟩;rcases l with l | ⟨k,c,e,z⟩
  ·exact .inl l
  ·exact .inr ⟨k,c,e,cellK x c e _ z⟩
 ·obtain⟨v,z⟩:=I.cell x c e;exact⟨v,cellK x c e v z⟩
 ·obtain⟨m,⟨o,_,_,ho,_⟩,_⟩:=I.loc;exact free _ o (λz=>(zr _ z).2.1 rfl) ho I.free
 ·obtain⟨v,o,ho,hd⟩:=I.cell x c e;exact free c o (λz=>(zr c z).2.2.1 x c e rfl) ho (I.dw x c e)
 ·obtain⟨e,n,ne,nf,d⟩:=I.pin p hp;have HU:p.1∉ch:=λz=>(zr p.1 z).2.2.2 p hp rfl
  exact⟨keep p.1 p.2 ne nf HU e n,free p.1 p.2 HU e n,ne,nf,d⟩
def Inv.un {t':Nat} (I:Inv X pins σ H s) (u:Un X.fs [] H H' s.heap h') (hok:eh X.prog X.w H' h'):Inv X pins σ H' {s with heap:=h',toks:=t'}:=by
 obtain⟨m,⟨o,es,ep,ho,r⟩,_⟩:=id I.loc;obtain⟨sl,hL⟩:=u.any ho I.free (by simp);exact I.step (g':=s.gens) (d':=s.drawn) (ch:=[]) (λ_ z=>nomatch z) (λb o _ hb _ e n=>u.keep b o e n hb (by simp)) (λb o _ hb _ e n=>u.slot b o e n hb (by simp)) (λb o _ e n=>u.free b o e n (by simp)) (λb o _ e=>u.there b o e (by simp)) u.tups u.frzs u.tbls (λm' hm=>by
  obtain⟨o',cQ,Jm,oy,r'⟩:=hm;rw[ho] at oy;cases oy;exact⟨_,cQ,Jm,hL,r'⟩) hok I.bare
def Inv.call {g':Array GenState} {t':Nat} {d':Drawn} {ch:List Addr} (I:Inv X pins σ H s) (u:Un (eW X.stack) ch H H' s.heap h') (hok:eh X.prog X.w H' h') (hg:AllBare g')
  (zr:∀b∈ch,(b∈X.ex\/X.s₀.heap.objs.size<=b)/\b≠X.env.locals/\(∀x c,X.env.cells.lookup x=some c->c≠b)/\∀p∈X.pn++pins,p.1≠b):
  Inv X pins σ H' {s with heap:=h',gens:=g',drawn:=d',toks:=t'}:=by
 obtain⟨m,⟨o,es,ep,ho,r⟩,_⟩:=id I.loc;obtain⟨sl,hL⟩:=u.any ho I.free λz=>(zr _ z).2.1 rfl
 exact I.step (ch:=ch) zr (λb o hL hb hc e n=>u.keep b o e n (λz=>(PC.mp (I.kg b z)).elim hL hb) hc) (λb o _ _ hc e n=>u.any e n hc) (λb o hc e n=>u.free b o e n hc) (λb o hc e=>u.there b o e hc) u.tups u.frzs u.tbls (λm' hm=>by
  obtain⟨o',cQ,Jm,oy,r'⟩:=hm;rw[ho] at oy;cases oy;exact⟨_,cQ,Jm,hL,r'⟩) hok hg
def Inv.turned {t':Nat} {it:Addr} (I:Inv X pins σ H s) (k:∀b o,b≠it->s.heap.get? b=some o->h'.get? b=some o) (hn:H it=none) (hL:it≠X.env.locals)
  (h1:it∈X.ex\/X.s₀.heap.objs.size<=it) (h2:∀x c,X.env.cells.lookup x=some c->c≠it) (h3:∀p∈X.pn++pins,p.1≠it):Inv X pins σ H {s with heap:=h',toks:=t'}:=by
 have MR:∀b u,H b=some u->b≠it:=λb u e z=>by rw[z,hn] at e;cases e
 refine I.step (g':=s.gens) (d':=s.drawn) (ch:=[it]) (λb hb=>?_) (λb o _ _ hc e _=>k b o (λz=>hc (by simp[z])) e) (λb o _ _ hc e _=>⟨o.slots,k b o (λz=>hc (by simp[z])) e⟩) (λ_ _ _ _ n=>n)
  (λb o hc e=>⟨o,k b o (λz=>hc (by simp[z])) e⟩) (λ_ _ e=>e) (λ_ _ _ e=>e) (λb ps e=>⟨#[],by rw[e];simp⟩) (λm hm=>?_) (λb u e=>?_) I.bare
 ·have e:b=it:=by simpa using hb
  subst e;exact⟨h1,hL,h2,h3⟩
 ·obtain⟨o,es,ep,ho,r⟩:=hm;exact⟨o,es,ep,k _ o (Ne.symm hL) ho,r⟩
 ·refine(I.hok b u e).iR (λc v hc q=>k c v ?_ q) (λ_ q=>q) λ_ _ q=>q
  rcases hc with z | z
  ·rw[z];exact MR b u e
  ·exact MR c _ z
def Inv.tok (I:Inv X pins σ H s) (t:Nat):Inv X pins σ H {s with toks:=t}:=I.un (h':=s.heap) (t':=t) Un.refl I.hok
def Inv.kept {t':Nat} (I:Inv X pins σ H s) (k:∀b u,s.heap.get? b=some u->h'.get? b=some u):Inv X pins σ H {s with heap:=h',toks:=t'}:=I.un (Un.kept k) (I.hok.kept k)
def Inv.laid {a:Addr} {o:HO} {t':Nat} (I:Inv X pins σ H s) (k:∀b u,s.heap.get? b=some u->h'.get? b=some u) (hp:s.heap.objs.size<=a) (new:bO X.prog X.w (upd H a o) h' a o):
  Inv X pins σ (upd H a o) {s with heap:=h',toks:=t'}:=I.un (Un.laid k hp (I.hok.fresh hp)) (I.hok.laid k hp new)
def Inv.write {x e:Addr} {o:HO} {t':Nat} (I:Inv X pins σ H s) (mu:IC (H x)) (he:e=x\/H e=some (.own x)) (k:∀b u,b≠e->s.heap.get? b=some u->h'.get? b=some u) (EY:∃u,h'.get? e=some u)
  (new:bO X.prog X.w (upd H x o) h' x o):Inv X pins σ (upd H x o) {s with heap:=h',toks:=t'}:=I.un (Un.write mu he k EY) (I.hok.write mu he k EY new)
def Inv.weak {σ':List (Option V)} (I:Inv X pins σ H s) (hl:σ'.length=σ.length) (w:∀(i:Nat) v,σ'[i]?=some (some v)->σ[i]?=some (some v)):Inv X pins σ' H s:=
 ⟨I.ok,I.os,I.bare,I.base,let ⟨m,hn,Aq⟩:=I.loc;⟨m,hn,λi x v e1 e2 e3=>Aq i x v e1 (w i v e2) e3⟩,I.cell,I.free,I.dw,I.pin,I.hok,hl.trans I.len⟩
def Inv.jJ {B4:List (Addr×Obj)} (I:Inv X pins σ H s) (h:∀p∈B4,s.heap.get? p.1=some p.2/\H p.1=none/\p.1≠X.env.locals/\p.1∉X.fs/\∀v,p.2.data≠ .cell v):Inv X B4 σ H s:=
 ⟨I.ok,I.os,I.bare,I.base,I.loc,I.cell,I.free,I.dw,λp hp=>(PU.mp hp).elim (λz=>I.pin p (List.mem_append_left _ z)) (h p),I.hok,I.len⟩
def kJ {N:List Str} (hN:N.Nodup) {i j:Nat} {x:Str} (a:N[i]?=some x) (b:N[j]?=some x):i=j:=by obtain⟨h1,e1⟩:=Pp.mp a;obtain⟨h2,e2⟩:=Pp.mp b;exact(List.getElem_inj hN).mp (e1.trans e2.symm)
def lZ {M:Model} {A:Around} {E:Value->Shared->Prop} {i:Nat} {x:Str} {v:V} {u:Value} {Q:Unit->Shared->Prop} (I:Inv X pins σ H s) (hN:X.N.Nodup) (hi:X.N[i]?=some x) (hx:Loc X.env.scope x) (r:RelV v u)
  (h:∀s',Inv X pins (σ.set i (some v)) H s'->(∃a,Heap.SameBut a s.heap s'.heap/\(a=X.env.locals\/X.env.cells.lookup x=some a))->Q () s') (hf:X.fn x=true\/X.env.scope.names.lookup x=some .local:=by first | exact .inl rfl | exact .inr rfl | assumption):wpAny M A (storeName X.env x u) Q E s:=by
 obtain⟨m,hn,hl⟩:=id I.loc;have qa:(X.env.scope.kind== .class||(X.env.scope.kind== .module&&X.env.locals != X.env.globals))=false:=by rw[I.ok.kind];rfl
 have hiσ:i < σ.length:=by rw[I.len];exact(Pp.mp hi).1
 have CA:=I.CA;have tracked:∀{a:Addr} {h':Heap},(∃o,s.heap.get? a=some o/\H a=none)->Heap.SameBut a s.heap h'->eh X.prog X.w H h':=λ {a h'} ha hs b ob e=>by
  obtain⟨_,_,BW⟩:=ha;refine(I.hok b ob e).iR (λc w' hc q=>(hs.2 c ?_).trans q) (λ_ q=>q) λ_ _ q=>q
  rintro rfl;rcases hc with rfl | hc
  ·rw[BW] at e;cases e
  ·rw[BW] at hc;cases hc
 rcases hx with hk | hk
 ·refine wpAny_storeName_local hk hn (λh' Ob hs=>?_) qa;obtain⟨oL,_,_,Iy,_⟩:=id hn;refine h _ ⟨I.ok,I.os,I.bare,⟨λb o e n hb hx=>?_,λb o e n hb hx=>?_,I.base.free,λb o e hx=>?_,I.base.tups,I.base.frzs,I.base.tbls⟩,⟨_,Ob,λj y v' e1 e2 e3=>?_⟩,λy c e=>?_,I.free,I.dw,λp hp=>?_,tracked ⟨oL,Iy,I.free⟩ hs,by simpa using I.len⟩ ⟨_,hs,.inl rfl⟩
  ·exact(hs.2 b (P5 (PQ (Py e) I.ok.above))).trans (I.base.keep b o e n hb hx)
  ·obtain⟨sl,e1⟩:=I.base.slot b o e n hb hx;exact⟨sl,(hs.2 b (P5 (PQ (Py e) I.ok.above))).trans e1⟩
  ·obtain⟨o',e1⟩:=I.base.there b o e hx;exact⟨o',(hs.2 b (P5 (PQ (Py e) I.ok.above))).trans e1⟩
  ·by_cases hj:j=i
   ·subst hj;rw[hi] at e1;cases e1;rw[Qj hiσ] at e2;cases e2;exact⟨u,r,.inl ⟨hk,by simp⟩⟩
   ·rw[PL (Ne.symm hj)] at e2;obtain⟨u',r',q⟩:=hl j y v' e1 e2 e3;refine⟨u',r',?_⟩;rcases q with ⟨k,e⟩ | ⟨k,c,e,z⟩
    ·refine .inl ⟨k,?_⟩;have:y≠x:=λe=>hj (kJ hN e1 (e▸hi))
     simp[this,e]
    ·exact .inr ⟨k,c,e,z.sameBut hs (CA y c e)⟩
  ·obtain⟨w',z⟩:=I.cell y c e;exact⟨w',z.sameBut hs (CA y c e)⟩
  ·obtain⟨e,n,ne,nf,d⟩:=I.pin p hp;exact⟨(hs.2 p.1 ne).trans e,n,ne,nf,d⟩
 ·have xj:X.fn x=true:=by
   rcases hf with z | z
   ·exact z
   ·rw[z] at hk;cases hk
  obtain⟨c,hc⟩:=I.ok.has x (.inl hk);obtain⟨w',z⟩:=I.cell x c hc;refine wpAny_storeName_cell I.ok.kind hk hc z (λh' ng hs=>?_);obtain⟨oc,MY,LF⟩:=id z;refine h {s with heap:=h'} ⟨I.ok,I.os,I.bare,⟨λb o e n hb hx=>?_,λb o e n hb hx=>?_,I.base.free,λb o e hx=>?_,I.base.tups,I.base.frzs,I.base.tbls⟩,⟨m,hn.sameBut hs (Ne.symm (CA x c hc)),λj y v' e1 e2 e3=>?_⟩,λy c' e=>?_,I.free,I.dw,λp hp=>?_,tracked ⟨oc,MY,I.dw x c hc⟩ hs,by simpa using I.len⟩ ⟨c,hs,.inr hc⟩
  ·exact(hs.2 b (P5 (PQ (Py e) (I.ok.Du x c xj hc)))).trans (I.base.keep b o e n hb hx)
  ·obtain⟨sl,e1⟩:=I.base.slot b o e n hb hx;exact⟨sl,(hs.2 b (P5 (PQ (Py e) (I.ok.Du x c xj hc)))).trans e1⟩
  ·obtain⟨o',e1⟩:=I.base.there b o e hx;exact⟨o',(hs.2 b (P5 (PQ (Py e) (I.ok.Du x c xj hc)))).trans e1⟩
  ·by_cases hj:j=i
   ·subst hj;rw[hi] at e1;cases e1;rw[Qj hiσ] at e2;cases e2;exact⟨u,r,.inr ⟨.inl hk,c,hc,ng⟩⟩
   ·rw[PL (Ne.symm hj)] at e2;obtain⟨u',r',q⟩:=hl j y v' e1 e2 e3;refine⟨u',r',?_⟩;rcases q with q | ⟨k,c',e,z'⟩
    ·exact .inl q
    ·refine .inr ⟨k,c',e,z'.sameBut hs ?_⟩;rintro rfl;exact hj (kJ hN e1 (I.ok.inj _ _ _ e hc▸hi))
  ·by_cases hcc:c'=c
   ·subst hcc;exact⟨_,ng⟩
   ·obtain⟨w2,z2⟩:=I.cell y c' e;exact⟨w2,z2.sameBut hs hcc⟩
  ·obtain⟨e,n,ne,nf,d⟩:=I.pin p hp;refine⟨(hs.2 p.1 ?_).trans e,n,ne,nf,d⟩;intro q;rw[q,MY] at e;have q':oc=p.2:=Option.some.inj e;exact d w' (by rw[<-q'];exact LF)
def pT {M:Model} {A:Around} {E:Value->Shared->Prop} {i:Nat} {x:Str} {v:V} {u:Value} {Q:Unit->Shared->Prop} (I:Inv X pins σ H s) (hN:X.N.Nodup) (hi:X.N[i]?=some x) (hx:Loc X.env.scope x) (r:RelV v u)
  (h:∀s',Inv X pins (σ.set i (some v)) H s'->Q () s') (hf:X.fn x=true\/X.env.scope.names.lookup x=some .local:=by first | exact .inl rfl | exact .inr rfl | assumption):wpAny M A (storeName X.env x u) Q E s:=
 lZ I hN hi hx r (λs' I' _=>h s' I') hf
def Inv.yN {s':Shared} {ch:List Addr} (I:Inv X pins σ H s) (ho:s'.os=s.os) (u:Un (eW X.stack) ch H H' s.heap s'.heap) (hok:eh X.prog X.w H' s'.heap) (hg:AllBare s'.gens)
  (zr:∀b∈ch,(b∈X.ex\/X.s₀.heap.objs.size<=b)/\b≠X.env.locals/\(∀x c,X.env.cells.lookup x=some c->c≠b)/\∀p∈X.pn++pins,p.1≠b):Inv X pins σ H' s':=by
 obtain⟨h',g',d',t',o'⟩:=s';have e:o'=s.os:=ho;subst e;exact I.call (g':=g') (t':=t') (d':=d') u hok hg zr
end
abbrev XK:=Value->Option Addr->Hp->Prop
abbrev St:=List (Option V)
abbrev VK:=V->Hp->Prop
abbrev TE:=St->Hp->VK->Prop
abbrev TT:=St->Hp->(Bool->Hp->Prop)->Prop
abbrev TA:=St->Hp->(List V->Hp->Prop)->Prop
structure Ends where
 nx:St->Hp->Prop
 rt:VK
 bk:St->Hp->Prop:=λ_ _=>False
 ct:St->Hp->Prop:=λ_ _=>False
abbrev TS:=Ends->St->Hp->Prop
def EP (X:Cx) (pins:List (Addr×Obj)) (σ:St) (Q:VK) (u:Value) (s':Shared):Prop:=∃v H',Inv X pins σ H' s'/\RelV v u/\Q v H'
def TP (X:Cx) (pins:List (Addr×Obj)) (σ:St) (Q:Bool->Hp->Prop) (b:Bool) (s':Shared):Prop:=∃H',Inv X pins σ H' s'/\Q b H'
def AP (X:Cx) (pins:List (Addr×Obj)) (σ:St) (Q:List V->Hp->Prop) (us:List Value) (s':Shared):Prop:=∃vs H',Inv X pins σ H' s'/\aw vs us/\Q vs H'
def SP (X:Cx) (pins:List (Addr×Obj)) (D:Ends) (f:Flow) (s':Shared):Prop:=
 match f with
 | .next=>∃σ' H',Inv X pins σ' H' s'/\D.nx σ' H'
 | .brk=>∃σ' H',Inv X pins σ' H' s'/\D.bk σ' H'
 | .cont=>∃σ' H',Inv X pins σ' H' s'/\D.ct σ' H'
 | .ret u=>∃v σ' H',Inv X pins σ' H' s'/\RelV v u/\D.rt v H'
def PE (X:Cx) (e:Expr) (t:TE):Prop:=
 ∀(pins:List (Addr×Obj)) (s:Shared) (σ:St) (H:Hp) (Q:VK),Inv X pins σ H s->t σ H Q->wpAny (model X.prog X.w) X.A (eval e X.env) (EP X pins σ Q) X.xe s
def PT (X:Cx) (e:Expr) (t:TT):Prop:=
 ∀(pins:List (Addr×Obj)) (s:Shared) (σ:St) (H:Hp) (Q:Bool->Hp->Prop),Inv X pins σ H s->t σ H Q->wpAny (model X.prog X.w) X.A (isTrue e X.env (eval e X.env)) (TP X pins σ Q) X.xe s
def PW (X:Cx) (e:Expr) (t:TT):Prop:=
 ∀(whole:Sem Value) (pins:List (Addr×Obj)) (s:Shared) (σ:St) (H:Hp) (Q:Bool->Hp->Prop),Inv X pins σ H s->t σ H Q->wpAny (model X.prog X.w) X.A (isTrue e X.env whole) (TP X pins σ Q) X.xe s
def PW.pt {X:Cx} {e:Expr} {t:TT} (h:PW X e t):PT X e t:=h _
def PA (X:Cx) (es:List Expr) (t:TA):Prop:=
 ∀(pos:Pos) (pins:List (Addr×Obj)) (s:Shared) (σ:St) (H:Hp) (Q:List V->Hp->Prop),Inv X pins σ H s->t σ H Q->wpAny (model X.prog X.w) X.A (spliced (backTo pos (starEach es X.env))) (AP X pins σ Q) X.xe s
def PS (X:Cx) (st:Stmt) (t:TS):Prop:=
 ∀(pins:List (Addr×Obj)) (s:Shared) (σ:St) (H:Hp) (D:Ends),Inv X pins σ H s->t D σ H->wpAny (model X.prog X.w) X.A (exec st X.env) (SP X pins D) X.xe s
def qM (X:Cx) (st:List Stmt) (t:TS):Prop:=
 ∀(pins:List (Addr×Obj)) (s:Shared) (σ:St) (H:Hp) (D:Ends),Inv X pins σ H s->t D σ H->wpAny (model X.prog X.w) X.A (execs st X.env) (SP X pins D) X.xe s
def bw {α:Type} {t:Sem α} {Q Q':α->Shared->Prop} {M:Model} {A:Around} {E:Value->Shared->Prop} {s:Shared} (h:wpAny M A t Q E s) (hQ:∀a s,Q a s->Q' a s):wpAny M A t Q' E s:=wpAny_mono h hQ λ_ _ x=>x
end L2
namespace L2
open PySem PySem.Spec PyProof.Rows
section
variable {X:Cx}
def bin {a b:Expr} {ta tb:TE} (ha:PE X a ta) (hb:PE X b tb) {pins:List (Addr×Obj)} {s:Shared} {σ:St} {H:Hp} {R:V->V->Hp->Prop} (I:Inv X pins σ H s) (h:ta σ H λx H1=>tb σ H1 λy H2=>R x y H2)
  {α:Type} {Q:α->Shared->Prop} {f:Value->Value->Sem α}
  (hf:∀v u s2 x y H2,Inv X pins σ H2 s2->RelV x v->RelV y u->R x y H2->wpAny (model X.prog X.w) X.A (f v u) Q X.xe s2):
  wpAny (model X.prog X.w) X.A (eval a X.env) (λv s₁=>wpAny (model X.prog X.w) X.A (eval b X.env) (λu s₂=>wpAny (model X.prog X.w) X.A (f v u) Q X.xe s₂) X.xe s₁) X.xe s:=by
 refine bw (ha pins s σ H _ I h) λv s1 ⟨x,H1,I1,r1,q1⟩=>?_
 refine bw (hb pins s1 σ H1 _ I1 q1) λu s2 ⟨y,H2,I2,r2,q2⟩=>?_
 exact hf v u s2 x y H2 I2 r1 r2 q2
def lA (i:Nat):TE:=λσ H Q=>∃v,σ[i]?=some (some v)/\Q v H
def tC (v:V):TE:=λ_ H Q=>Q v H
def xg {i:Nat} {x:Str} {pos:Pos} (hN:X.N[i]?=some x) (hv:HC X.env.scope x) (hd:(x==("__debug__":Str))=false:=by decide) (zm:(x==("__classdict__":Str))=false:=by decide):PE X (.Name x pos) (lA i):=by
 intro pins s σ H Q I h;obtain⟨v,e,h⟩:=h;obtain⟨m,hn,hl⟩:=I.loc;obtain⟨u,r,l⟩:=hl i x v hN e hv;have fin:EP X pins σ Q u s:=⟨v,H,I,r,h⟩;rcases l with ⟨hk,hm⟩ | ⟨hk,c,hc,Cb⟩
 ·exact wpAny_Name (wpAny_loadName_local I.ok.kind hk hn hm fin) hd
 ·rcases hk with hk | hk
  ·exact wpAny_Name (wpAny_loadName_cell I.ok.kind hk hc Cb fin) hd
  ·exact wpAny_Name (wpAny_loadName_free I.ok.kind hk hc Cb fin zm) hd
def xV {i j pos}:PE X (.Constant (.int i) j pos) (tC (.int i)):=λ_ _ _ H _ I h=>wpAny_Constant_int ⟨.int i,H,I.tok _,⟨_,rfl⟩,h⟩
def Hl {b j pos}:PE X (.Constant (.bool b) j pos) (tC (.bl b)):=λ_ _ _ H _ I h=>Constant_bool ⟨.bl b,H,I,rfl,h⟩
def CY {j pos}:PE X (.Constant .none j pos) (tC .bo):=λ_ _ _ H _ I h=>Constant_none ⟨.bo,H,I,rfl,h⟩
def DO {x j pos}:PE X (.Constant (.str x) j pos) (tC (.str x)):=λ_ _ _ H _ I h=>Calls.Constant_str ⟨.str x,H,I.tok _,⟨_,rfl⟩,h⟩
def Gl (X:Cx) (x:Str):Prop:=X.env.kindOf x=some .globalImplicit
def tU {E:Value->Shared->Prop} {pins:List (Addr×Obj)} {s:Shared} {σ:St} {H:Hp} {x:Str} {u:Value} {pos:Pos} {Q:Value->Shared->Prop} (I:Inv X pins σ H s) (hg:Gl X x) (hm:X.mg x=some u) (h:Q u s)
  (hd:(x==("__debug__":Str))=false:=by decide):wpAny (model X.prog X.w) X.A (eval (.Name x pos) X.env) Q E s:=
 Calls.Name_function_global I.ok.kind hg (Calls.loadGlobal_global (by rw[I.ok.glob];exact I.mod.glob.keeps I.bk) hm h) hd
def dz {E:Value->Shared->Prop} {pins:List (Addr×Obj)} {s:Shared} {σ:St} {H:Hp} {x:Str} {u:Value} {pos:Pos} {Q:Value->Shared->Prop} (I:Inv X pins σ H s) (hg:Gl X x) (hm:X.mg x=none) (hv:bootBuiltins x=some u) (h:Q u s)
  (hn:x≠"__name__":=by decide) (hd:(x==("__debug__":Str))=false:=by decide):wpAny (model X.prog X.w) X.A (eval (.Name x pos) X.env) Q E s:=by
 obtain⟨mb,h1,h2⟩:=I.mod.blt;exact Calls.Name_function_global I.ok.kind hg (Calls.loadGlobal_builtin (by rw[I.ok.glob];exact I.mod.glob.keeps I.bk) hm (by rw[I.ok.blt];exact h1.keeps I.bk) ((h2 x hn).trans hv) h) hd
def AK {x:Str} {v:V} {u:Value} {pos:Pos} (hg:Gl X x) (hm:X.mg x=some u) (r:RelV v u) (hd:(x==("__debug__":Str))=false:=by decide):PE X (.Name x pos) (tC v):=
 λ_ _ _ H _ I h=>tU I hg hm ⟨v,H,I,r,h⟩ hd
def A9 {x:Str} {v:V} {u:Value} {pos:Pos} (hg:Gl X x) (hm:X.mg x=none) (hv:bootBuiltins x=some u) (r:RelV v u) (hn:x≠"__name__":=by decide) (hd:(x==("__debug__":Str))=false:=by decide):PE X (.Name x pos) (tC v):=
 λ_ _ _ H _ I h=>dz I hg hm hv ⟨v,H,I,r,h⟩ hn hd
variable {a b:Expr} {ta tb:TE} {pos:Pos}
variable {tA Ja:TT} {rest:List Expr}
def Ko (t u:TT):TT:=λσ H Q=>t σ H λc H1=>if c=true then u σ H1 Q else Q false H1
def OK (t u:TT):TT:=λσ H Q=>t σ H λc H1=>if c=true then Q true H1 else u σ H1 Q
def LX (t:TT):TT:=λσ H Q=>t σ H λc H1=>Q (!c) H1
def zV (ha:PT X a tA):PW X (.BoolOp .And [a] pos) tA:=by
 intro wh pins s σ H Q I h;refine isTrue_and (bw (ha pins s σ H Q I h) λc s1 e=>?_);cases c with
 | true=>exact isTrue_and_nil e
 | false=>exact e
def Cg (ha:PT X a tA):PW X (.BoolOp .Or [a] pos) tA:=by
 intro wh pins s σ H Q I h;refine isTrue_or (bw (ha pins s σ H Q I h) λc s1 e=>?_);cases c with
 | false=>exact isTrue_or_nil e
 | true=>exact e
def El (ha:PT X a tA) (hb:PW X (.BoolOp .And (b::rest) pos) Ja):PW X (.BoolOp .And (a::b::rest) pos) (Ko tA Ja):=by
 intro wh pins s σ H Q I h;refine isTrue_and (bw (ha pins s σ H _ I h) λc s1 ⟨H1,I1,q1⟩=>?_);cases c with
 | true=>exact hb wh pins s1 σ H1 Q I1 q1
 | false=>exact⟨H1,I1,q1⟩
def FI (ha:PT X a tA) (hb:PW X (.BoolOp .Or (b::rest) pos) Ja):PW X (.BoolOp .Or (a::b::rest) pos) (OK tA Ja):=by
 intro wh pins s σ H Q I h;refine isTrue_or (bw (ha pins s σ H _ I h) λc s1 ⟨H1,I1,q1⟩=>?_);cases c with
 | true=>exact⟨H1,I1,q1⟩
 | false=>exact hb wh pins s1 σ H1 Q I1 q1
def CV (ha:PT X a tA):PT X (.UnaryOp .Not a pos) (LX tA):=by intro pins s σ H Q I h;exact isTrue_not (ha pins s σ H (λc H1=>Q (!c) H1) I h)
def Hi (ta tb:TE):TE:=λσ H Q=>ta σ H λx H1=>∃c,x= .bl c/\if c=true then tb σ H1 Q else Q (.bl false) H1
def KO (ta tb:TE):TE:=λσ H Q=>ta σ H λx H1=>∃c,x= .bl c/\if c=true then Q (.bl true) H1 else tb σ H1 Q
def HV (ta:TE):TE:=λσ H Q=>ta σ H λx H1=>∃c,x= .bl c/\Q (.bl (!c)) H1
def DD {op} {t:TE} (h:PE X a t):PE X (.BoolOp op [a] pos) t:=λpins s σ H Q I hw=>BoolOp_one (h pins s σ H Q I hw)
def Dj (ha:PE X a ta) (hb:PE X (.BoolOp .And (b::rest) pos) tb):PE X (.BoolOp .And (a::b::rest) pos) (Hi ta tb):=by
 intro pins s σ H Q I h;refine BoolOp_and (bw (ha pins s σ H _ I h) λv s1 ⟨x,H1,I1,r1,q1⟩=>?_);obtain⟨c,rfl,q1⟩:=q1;cases r1;refine wpAny_truthy_bool ?_;cases c with
 | true=>exact hb pins s1 σ H1 Q I1 q1
 | false=>exact⟨.bl false,H1,I1,rfl,q1⟩
def Ht (ha:PE X a ta) (hb:PE X (.BoolOp .Or (b::rest) pos) tb):PE X (.BoolOp .Or (a::b::rest) pos) (KO ta tb):=by
 intro pins s σ H Q I h;refine BoolOp_or (bw (ha pins s σ H _ I h) λv s1 ⟨x,H1,I1,r1,q1⟩=>?_);obtain⟨c,rfl,q1⟩:=q1;cases r1;refine wpAny_truthy_bool ?_;cases c with
 | false=>exact hb pins s1 σ H1 Q I1 q1
 | true=>exact⟨.bl true,H1,I1,rfl,q1⟩
def Er (ha:PE X a ta):PE X (.UnaryOp .Not a pos) (HV ta):=by intro pins s σ H Q I h;refine UnaryOp_ (bw (ha pins s σ H _ I h) λv s1 ⟨x,H1,I1,r1,q1⟩=>?_);obtain⟨c,rfl,q1⟩:=q1;cases r1;exact not_of (wpAny_truthy_bool ⟨.bl (!c),H1,I1,rfl,q1⟩)
end
end L2
namespace L2
open PySem PySem.Spec PyProof.Rows
def c6 (K:PySem.W.Frag) (H:Hp) (a:Addr) (xs:List V):Prop:=
 Rd H a (.lst xs)\/
  ∃(o:Obj) (its:Array Value) (n:Nat),K.lookup a=some o/\o.cls= .type "list"/\o.dict=none/\o.data= .seq its n/\its.size<=sizeLine/\aw xs its.toList
def ek (K:PySem.W.Frag) (H:Hp) (a:Addr) (xs:List V):Prop:=
 Rd H a (.tup xs)\/
  ∃(o:Obj) (its:Array Value) (n:Nat),K.lookup a=some o/\o.cls= .type "tuple"/\o.data= .seq its n/\its.size<=sizeLine/\aw xs its.toList
def FU:Value->Option V
 | .none=>some .bo
 | .bool b=>some (.bl b)
 | .int i _=>some (.int i)
 | .str x _=>some (.str x)
 | .bytes b _=>some (.EZ b)
 | .float b _=>some (.AX b)
 | .ref a=>some (.ref a)
 | .type n=>some (.ty n)
 | _=>none
def RelV.abs {x:V} {u:Value} (r:RelV x u):FU u=some x:=by grind [V,RelV,FU]
def RelV.inj {x y:V} {u:Value} (r:RelV x u) (q:RelV y u):x=y:=Option.some.inj (r.abs.symm.trans q.abs)
def aw.inj:∀{xs ys:List V} {us:List Value},aw xs us->aw ys us->xs=ys
 | _,_,_,.nil,.nil=>rfl
 | _,_,_,.cons r t,.cons r' t'=>by rw[r.inj r',aw.inj t t']
section
variable {X:Cx} {pins:List (Addr×Obj)} {σ:St} {H:Hp} {s:Shared} {a:Addr} {xs ys:List V}
def c6.of {K:PySem.W.Frag} (h:H a=some (.lst xs)):c6 K H a xs:= .inl (.inl h)
def ek.of {K:PySem.W.Frag} (h:H a=some (.tup xs)):ek K H a xs:= .inl (.inl h)
def Inv.list (I:Inv X pins σ H s) (h:c6 X.K H a xs):∃its:List Value,aw xs its/\PlainL s.heap a its.toArray/\xs.length<=sizeLine:=by
 rcases h with h | ⟨o,its,n,hk,hc,hd,hs,hz,r⟩
 ·obtain⟨z,its,n,r,e⟩:=h.ok I.hok;exact⟨its,r,⟨_,n,e,rfl,rfl,rfl⟩,z⟩
 ·refine⟨its.toList,r,⟨o,n,I.pH a o hk,hc,hd,by simpa using hs⟩,?_⟩;have e:=r.length;simp only[PP] at e;omega
def Inv.tuple (I:Inv X pins σ H s) (h:ek X.K H a xs):∃its:List Value,aw xs its/\IsTup s.heap a its.toArray/\xs.length<=sizeLine:=by
 rcases h with h | ⟨o,its,n,hk,hc,hs,hz,r⟩
 ·obtain⟨z,its,r,p⟩:=h.ok I.hok;exact⟨its,r,p,z⟩
 ·refine⟨its.toList,r,⟨o,I.pH a o hk,hc,n,by simpa using hs⟩,?_⟩;have e:=r.length;simp only[PP] at e;omega
def Inv.wJ (I:Inv X pins σ H s) (h:c6 X.K H a xs) (h':c6 X.K H a ys):xs=ys:=by
 obtain⟨its,r,⟨o,n,e,_,_,d⟩,_⟩:=I.list h;obtain⟨its',r',⟨o',n',e',_,_,d'⟩,_⟩:=I.list h';rw[e] at e';cases e';rw[d] at d';injection d' with d1 _;have:its=its':=by simpa using congrArg Array.toList d1
 subst this;exact r.inj r'
def Inv.uP (I:Inv X pins σ H s) (h:ek X.K H a xs) (h':ek X.K H a ys):xs=ys:=by
 obtain⟨its,r,⟨o,e,_,n,d⟩,_⟩:=I.tuple h;obtain⟨its',r',⟨o',e',_,n',d'⟩,_⟩:=I.tuple h';rw[e] at e';cases e';rw[d] at d';injection d' with d1 _;have:its=its':=by simpa using congrArg Array.toList d1
 subst this;exact r.inj r'
end
abbrev Cx.dk (X:Cx) (E:Value->Shared->Prop):Cx:={X with xe:=E}
def Cx.Ok.dk {X:Cx} (ok:X.Ok) (E:Value->Shared->Prop):(X.dk E).Ok:=
 ⟨ok.mod,ok.kind,ok.glob,ok.blt,ok.above,ok.inj,ok.has,ok.Du,ok.hd,ok.frames,ok.Fe,ok.F9,ok.bs,ok.B8,ok.qw,ok.uW,ok.kb,ok.E0⟩
def Cx.Ok.ez {X:Cx} {E:Value->Shared->Prop} (ok:(X.dk E).Ok):X.Ok:=
 ⟨ok.mod,ok.kind,ok.glob,ok.blt,ok.above,ok.inj,ok.has,ok.Du,ok.hd,ok.frames,ok.Fe,ok.F9,ok.bs,ok.B8,ok.qw,ok.uW,ok.kb,ok.E0⟩
section
variable {X:Cx} {pins:List (Addr×Obj)} {σ:St} {H:Hp} {s:Shared} {E:Value->Shared->Prop}
def Inv.dk (I:Inv X pins σ H s) (E:Value->Shared->Prop):Inv (X.dk E) pins σ H s:=⟨I.ok.dk E,I.os,I.bare,I.base,I.loc,I.cell,I.free,I.dw,I.pin,I.hok,I.len⟩
def Inv.ez (I:Inv (X.dk E) pins σ H s):Inv X pins σ H s:=⟨I.ok.ez,I.os,I.bare,I.base,I.loc,I.cell,I.free,I.dw,I.pin,I.hok,I.len⟩
def SP.ez {D:Ends} {f:Flow} {s':Shared} (h:SP (X.dk E) pins D f s'):SP X pins D f s':=by
 cases f with
 | next=>obtain⟨σ',H',I,q⟩:=h;exact⟨σ',H',I.ez,q⟩
 | brk=>obtain⟨σ',H',I,q⟩:=h;exact⟨σ',H',I.ez,q⟩
 | cont=>obtain⟨σ',H',I,q⟩:=h;exact⟨σ',H',I.ez,q⟩
 | ret u=>obtain⟨v,σ',H',I,r,q⟩:=h;exact⟨v,σ',H',I.ez,r,q⟩
end
section
variable {X:Cx} {st:Stmt} {rest:List Stmt} {t u:TS} {e:Expr} {te:TE} {pos:Pos}
def xA:TS:=λD σ H=>D.nx σ H
def Jr (t u:TS):TS:=λD σ H=>t {D with nx:=u D} σ H
def AO:qM X [] xA:=λ_ _ σ H _ I h=>wpAny_execs_nil ⟨σ,H,I,h⟩
def xX (h1:PS X st t) (h2:qM X rest u):qM X (st::rest) (Jr t u):=by
 intro pins s σ H D I h;refine wpAny_execs_cons (bw (h1 pins s σ H {D with nx:=u D} I h) λf s1 q=>?_);cases f with
 | next=>obtain⟨σ',H',I',q⟩:=q;exact h2 pins s1 σ' H' D I' q
 | ret v=>exact q
 | brk=>exact q
 | cont=>exact q
def wo:TS:=λD σ H=>D.bk σ H
def BZ:TS:=λD σ H=>D.ct σ H
def Af:PS X (.Pass pos) xA:=λ_ _ σ H _ I h=>wpAny_Pass ⟨σ,H,I,h⟩
def xa:PS X (.Break pos) wo:=λ_ _ σ H _ I h=>wpAny_Break ⟨σ,H,I,h⟩
def o4:PS X (.Continue pos) BZ:=λ_ _ σ H _ I h=>wpAny_Continue ⟨σ,H,I,h⟩
def Inv.quiet {pins:List (Addr×Obj)} {σ:St} {H:Hp} {s:Shared} (I:Inv X pins σ H s):interactive X.env=false:=by simp[interactive,I.ok.kind]
def pV (te:TE):TS:=λD σ H=>te σ H λ_ H1=>D.nx σ H1
def jo (he:PE X e te) (hs:swapsWith e none pos.line X.env=pure false:=by rfl):PS X (.Expr e pos) (pV te):=by intro pins s σ H D I h;exact wpAny_Expr_any (bw (he pins s σ H _ I h) λv s1 ⟨x,H1,I1,r1,q1⟩=>⟨σ,H1,I1,q1⟩) I.quiet hs
def Dd (te:TE):TS:=λD σ H=>te σ H D.rt
def qF (he:PE X e te):PS X (.Return (some e) pos) (Dd te):=by intro pins s σ H D I h;exact wpAny_Return_some (bw (he pins s σ H _ I h) λv s1 ⟨x,H1,I1,r1,q1⟩=>⟨x,σ,H1,I1,r1,q1⟩)
def BQ:TS:=λD _ H=>D.rt .bo H
def Ab:PS X (.Return none pos) BQ:=λ_ _ σ H _ I h=>wpAny_Return_none ⟨.bo,σ,H,I,rfl,h⟩
def Ic (c:TT) (t u:TS):TS:=λD σ H=>c σ H λb H1=>if b=true then t D σ H1 else u D σ H1
def FM {c:Expr} {a b:List Stmt} {tc:TT} (hc:PT X c tc) (ha:qM X a t) (hb:qM X b u):PS X (.If c a b pos) (Ic tc t u):=by
 intro pins s σ H D I h;refine wpAny_If (bw (hc pins s σ H _ I h) λd s1 ⟨H1,I1,q1⟩=>?_);cases d with
 | true=>exact ha pins s1 σ H1 D I1 q1
 | false=>exact hb pins s1 σ H1 D I1 q1
end
abbrev TG:=V->St->Hp->(St->Hp->Prop)->Prop
abbrev xR:=List V->St->Hp->(St->Hp->Prop)->Prop
def PG (X:Cx) (target:Expr) (t:TG):Prop:=
 ∀(pins:List (Addr×Obj)) (s:Shared) (σ:St) (H:Hp) (v:V) (u:Value) (Q:St->Hp->Prop),Inv X pins σ H s->RelV v u->t v σ H Q->
  wpAny (model X.prog X.w) X.A (assign target X.env u) (λ_ s'=>∃σ' H',Inv X pins σ' H' s'/\Q σ' H') X.xe s
def FQ (X:Cx) (ts:List Expr) (t:xR):Prop:=
 ∀(pins:List (Addr×Obj)) (s:Shared) (σ:St) (H:Hp) (vs:List V) (us:List Value) (Q:St->Hp->Prop),Inv X pins σ H s->aw vs us->t vs σ H Q->
  wpAny (model X.prog X.w) X.A (assignInOrder ((assignEach ts X.env).map (·.2)) us) (λ_ s'=>∃σ' H',Inv X pins σ' H' s'/\Q σ' H') X.xe s
abbrev CT:=V->V->V->Hp->(Hp->Prop)->Prop
def Hg (X:Cx) (t:CT):Prop:=
 ∀(pins:List (Addr×Obj)) (s:Shared) (σ:St) (H:Hp) (o i v:V) (ov iv u:Value) (Q:Hp->Prop),Inv X pins σ H s->RelV o ov->RelV i iv->RelV v u->t o i v H Q->
  wpAny (model X.prog X.w) X.A (setItem ov iv u) (λ_ s'=>∃H',Inv X pins σ H' s'/\Q H') X.xe s
section
variable {X:Cx} {pos:Pos}
def dU (i:Nat):TG:=λv σ H Q=>Q (σ.set i (some v)) H
theorem zL {i:Nat} {x:Str} (hN:X.N.Nodup) (hi:X.N[i]?=some x) (hx:Loc X.env.scope x) (hf:X.fn x=true\/X.env.scope.names.lookup x=some .local:=by first | exact .inl rfl | exact .inr rfl | assumption):PG X (.Name x pos) (dU i):=by intro pins s σ H v u Q I r h;exact wpAny_assign_Name (pT I hN hi hx r (λs' I'=>⟨_,H,I',h⟩) hf)
def Cr:xR:=λvs σ H Q=>vs=[]/\Q σ H
def wm (t:TG) (u:xR):xR:=λvs σ H Q=>∃v r,vs=v::r/\t v σ H λσ' H'=>u r σ' H' Q
def Ax:FQ X [] Cr:=by intro pins s σ H vs us Q I r h;obtain⟨e,h⟩:=h;subst e;cases r;exact assignInOrder_nil ⟨σ,H,I,h⟩
def yF {e:Expr} {es:List Expr} {t:TG} {u:xR} (h1:PG X e t) (h2:FQ X es u)
  (hs:(assignEach (e::es) X.env).map (·.2)=assign e X.env::(assignEach es X.env).map (·.2):=by rfl):FQ X (e::es) (wm t u):=by
 intro pins s σ H vs us Q I r h;obtain⟨v,vr,e1,h⟩:=h;subst e1;cases r with
 | cons r rr=>rw[hs];refine assignInOrder_cons (bw (h1 pins s σ H _ _ _ I r h) λ_ s1 ⟨σ1,H1,I1,q1⟩=>?_);exact h2 pins s1 σ1 H1 _ _ Q I1 rr q1
def Cw (K:PySem.W.Frag) (n:Nat) (t:xR):TG:=λv σ H Q=>∃a xs,v= .ref a/\ek K H a xs/\xs.length=n/\t xs σ H Q
def DR {es:List Expr} {k:Nat} {t:xR} {n:Nat} (hc:X.calm=true) (h:FQ X es t)
  (hn:(assignEach es X.env).length=n:=by rfl) (gP:(assignEach es X.env).findIdx? (·.1)=none:=by rfl):PG X (.Tuple es k pos) (Cw X.K n t):=by
 intro pins s σ H v u Q I r hw;obtain⟨a,xs,e1,hq,hl,hw⟩:=hw;subst e1;cases r;obtain⟨its,rv,ht,hz⟩:=I.tuple hq;refine assign_Tuple_tuple (I.ok.hd hc) ht (by simp[hn,<-hl,rv.length]) gP λh' hx=>?_
 have I1:Inv X pins σ H {s with heap:=h'}:=I.kept (t':=s.toks) λb o e=>hx b o (P5 (Py e)) e
 exact h pins _ σ H xs _ Q I1 (by simpa using rv) hw
def GD (to ti:TE) (t:CT):TG:=λv σ H Q=>to σ H λo H1=>ti σ H1 λi H2=>t o i v H2 λH3=>Q σ H3
def Dw {o i:Expr} {to ti:TE} {t:CT} (ho:PE X o to) (hi:PE X i ti) (hs:Hg X t)
  (ha:∀v,assign (.Subscript o i pos) X.env v=(do
   let ov<-holding [v] (eval o X.env)
   let iv<-holding [v,ov] (eval i X.env)
   standAt pos
   holding [v,ov,iv] (setItem ov iv v)
   release [v,ov,iv] []):=by intro _;rfl):PG X (.Subscript o i pos) (GD to ti t):=by
 intro pins s σ H v u Q I r h;rw[ha];refine Pi (wpAny_holding (bw (ho pins s σ H _ I h) λov s1 ⟨x,H1,I1,r1,q1⟩=>?_));refine Pi (wpAny_holding (bw (hi pins s1 σ H1 _ I1 q1) λiv s2 ⟨y,H2,I2,r2,q2⟩=>?_));refine Pi (wpAny_standAt (Pi (wpAny_holding (bw (hs pins s2 σ H2 x y v ov iv u _ I2 r1 r2 r q2) λ_ s3 ⟨H3,I3,q3⟩=>?_))));exact wpAny_release ⟨σ,H3,I3,q3⟩
def qr (te:TE) (g:TG):TS:=λD σ H=>te σ H λx H1=>g x σ H1 D.nx
def Ce {tg e:Expr} {te:TE} {g:TG} (he:PE X e te) (hg:PG X tg g) (hs:swapsWithSole [tg] e pos.line X.env=pure false:=by rfl) (hw:swappedStores [tg] e X.env=pure none:=by rfl)
  (h1:(assignEach [tg] X.env).map (·.2)=[assign tg X.env]:=by rfl):PS X (.Assign [tg] e pos) (qr te g):=by
 intro pins s σ H D I h;refine wpAny_Assign_stores (bw (he pins s σ H _ I h) λv s1 ⟨x,H1,I1,r1,q1⟩=>?_) hs hw;rw[h1];exact bw (hg pins s1 σ H1 x v _ I1 r1 q1) λ_ s2 q=>q
def yV {i:Nat} {x:Str} {e:Expr} {te:TE} {pos':Pos} (hN:X.N.Nodup) (hi:X.N[i]?=some x) (hx:Loc X.env.scope x) (he:PE X e te) (hs:swapsWith e (some (.Name x pos')) pos.line X.env=pure false:=by rfl) (hf:X.fn x=true\/X.env.scope.names.lookup x=some .local:=by first | exact .inl rfl | exact .inr rfl | assumption):
  PS X (.Assign [.Name x pos'] e pos) (qr te (dU i)):=by
 intro pins s σ H D I h;refine wpAny_Assign_Name (bw (he pins s σ H _ I h) λv s1 ⟨y,H1,I1,r1,q1⟩=>?_) hs;exact pT I1 hN hi hx r1 (λs2 I2=>⟨_,H1,I2,q1⟩) hf
end
structure It where
 go:Nat->Hp->Prop
 yld:Nat->Hp->V->Hp->Prop
 stop:Nat->Hp->Prop
def fW (X:Cx) (pins:List (Addr×Obj)) (H:Hp) (b:Addr):Prop:=
 H b=none/\b≠X.env.locals/\b∉X.fs/\(b∈X.ex\/X.s₀.heap.objs.size<=b)/\(∀x c,X.env.cells.lookup x=some c->c≠b)/\∀p∈X.pn++pins,p.1≠b
def Inv.pA {X:Cx} {pins:List (Addr×Obj)} {σ:St} {H H':Hp} {s:Shared} {b:Addr} (I:Inv X pins σ H s) (hb:s.heap.objs.size<=b) (hn:H' b=none):fW X pins H' b:=by
 refine⟨hn,Nat.ne_of_gt (PQ I.lt hb),I.Jz hb,.inr (Pz I.sz hb),λx c e z=>?_,λp hp z=>?_⟩
 ·obtain⟨v,q⟩:=I.cell x c e;exact absurd (PQ q.lt (by rw[z];exact hb)) (Nat.lt_irrefl _)
 ·exact absurd (PQ (Py (I.pin p hp).1) (by rw[z];exact hb)) (Nat.lt_irrefl _)
structure Turn (P:Program) (w:World) (K:PySem.W.Frag) (tg:Expr) (J:It) (fp:List Addr) (it:Addr) (tn:Nat->Heap->Prop):Prop where
 mem:it∈fp
 obj:∀i h,tn i h->∀b∈fp,∃o,h.get? b=some o/\∀v,o.data≠ .cell v
 keep:∀i h h',tn i h->(∀b∈fp,∀o,h.get? b=some o->h'.get? b=some o)->tn i h'
 item:∀(X:Cx),X.prog=P->X.w=w->X.K=K->X.calm=true->∀(i:Nat) (pins:List (Addr×Obj)) (s:Shared) (σ:St) (H:Hp) (E:Value->Shared->Prop),Inv X pins σ H s->(∀b∈fp,fW X pins H b)->tn i s.heap->J.go i H->
  wpAny (model P w) X.A (pyNext (.ref it)) (λr s1=>∃u,r=some u/\
   wpAny (model P w) X.A (letOwnedTupleGo tg (.ref it) u) (λ_ s2=>∃x H',Inv X pins σ H' s2/\RelV x u/\J.yld i H x H'/\tn (i + 1) s2.heap/\∀b∈fp,H' b=none) E s1) E s
 done:∀(X:Cx),X.prog=P->X.w=w->X.K=K->X.calm=true->∀(i:Nat) (pins:List (Addr×Obj)) (s:Shared) (σ:St) (H:Hp) (E:Value->Shared->Prop),Inv X pins σ H s->(∀b∈fp,fW X pins H b)->tn i s.heap->J.stop i H->
  wpAny (model P w) X.A (pyNext (.ref it)) (λr s1=>r=none/\Inv X pins σ H s1) E s
 self:∀(A:Around) (i:Nat) (s:Shared) (Q:Value->Shared->Prop) (E:Value->Shared->Prop),tn i s.heap->Q (.ref it) s->wpAny (model P w) A (pyIter (.ref it)) Q E s
abbrev TI:=St->Hp->(It->Hp->Prop)->Prop
def MF (X:Cx) (pins:List (Addr×Obj)) (σ:St) (tg:Expr) (R:It->Hp->Prop) (ot:Value) (s2:Shared):Prop:=
 ∃(it:Addr) (fp:List Addr) (tn:Nat->Heap->Prop) (J:It) (H':Hp),ot= .ref it/\Inv X pins σ H' s2/\Turn X.prog X.w X.K tg J fp it tn/\tn 0 s2.heap/\(∀b∈fp,fW X pins H' b)/\R J H'
def PI (X:Cx) (tg iter:Expr) (wi:TI):Prop:=
 ∀(pins:List (Addr×Obj)) (s:Shared) (σ:St) (H:Hp) (R:It->Hp->Prop),Inv X pins σ H s->wi σ H R->
  wpAny (model X.prog X.w) X.A (eval iter X.env) (λv s1=>wpAny (model X.prog X.w) X.A (pyIter v) (MF X pins σ tg R) X.xe s1) X.xe s
def yM {M:Model} {A:Around} {E:Value->Shared->Prop} {s:Shared} {tg:Expr} {it:Addr} {u:Value} {o:Obj} {n:String} {vs:Array Value} {Q:Unit->Shared->Prop} (ho:s.heap.get? it=some o) (hc:o.cls= .type n) (hd:o.data= .fields vs)
  (hn:["enumerate","zip","dict_itemiterator","dict_reverseitemiterator","odict_iterator","itertools.zip_longest","itertools.pairwise"].contains n=false) (hQ:Q () s):wpAny M A (letOwnedTupleGo tg (.ref it) u) Q E s:=by
 unfold letOwnedTupleGo;cases tg <;> first
  | exact Pl hQ
  | (cases u <;> first
    | exact Pl hQ
    | (refine Pi (wpAny_load ho ?_);rw[hc,hd];show wpAny M A (if (["enumerate","zip","dict_itemiterator","dict_reverseitemiterator","odict_iterator","itertools.zip_longest","itertools.pairwise"].contains n&&vs[0]?==some (rawInt _))=true then _ else _) Q E s;rw[if_neg (by intro h;rw[hn,Bool.false_and] at h;cases h)];exact Pl hQ))
def Iu (K:PySem.W.Frag) (a:Addr):It:=
 ⟨λi H=>∃xs x,c6 K H a xs/\xs[i]?=some x,λi H x H'=>H'=H/\∀xs,c6 K H a xs->xs[i]?=some x,λi H=>∃xs,c6 K H a xs/\xs.length<=i⟩
def Kp (K:PySem.W.Frag) (a:Addr):It:=
 ⟨λi H=>∃xs x,ek K H a xs/\xs[i]?=some x,λi H x H'=>H'=H/\∀xs,ek K H a xs->xs[i]?=some x,λi H=>∃xs,ek K H a xs/\xs.length<=i⟩
def IE (lo:Int) (n:Nat):It:=⟨λi _=>i < n,λi H x H'=>H'=H/\x= .int (lo + i),λi _=>n<=i⟩
def u5 {P:Program} {w:World} {K:PySem.W.Frag} {tg:Expr} (a it:Addr):Turn P w K tg (Iu K a) [it] it (λi h=>h.IsListIter it a i) where
 mem:=by simp
 obj:=λi h st b hb=>by
  have e:b=it:=by simpa using hb
  subst e;obtain⟨o,e,c,d⟩:=st;exact⟨o,e,λv z=>by rw[d] at z;cases z⟩
 keep:=λi h h' st k=>st.at λo e=>k it (by simp) o e
 item:=by
  intro X hP hw hK hc i pins s σ H E I hf st hg;subst hP hw hK;obtain⟨xs,x,hq,hx⟩:=hg;obtain⟨its,rv,p,hz⟩:=I.list hq;obtain⟨u,hu,ru⟩:=rv.get hx;obtain⟨f0,f1,f2,f3,f4,f5⟩:=hf it (by simp);refine wpAny_pyNext_list_item st p.isList (x:=u) (by simpa using hu) λh' ah sb=>?_
  have I1:Inv X pins σ H {s with heap:=h'}:=I.turned (t':=s.toks) (λb o hb e=>(sb.2 b hb).trans e) f0 f1 f3 f4 f5;obtain⟨o,e,c,d⟩:=id ah;exact⟨u,rfl,yM (s:={s with heap:=h'}) e c d (by decide) ⟨x,H,I1,ru,⟨rfl,λys hy=>by rw[I.wJ hy hq];exact hx⟩,ah,λb hb=>(hf b hb).1⟩⟩
 done:=by intro X hP hw hK hc i pins s σ H E I hf st hg;subst hP hw hK;obtain⟨xs,hq,hx⟩:=hg;obtain⟨its,rv,p,hz⟩:=I.list hq;obtain⟨f0,f1,f2,f3,f4,f5⟩:=hf it (by simp);have hl:=rv.length;exact wpAny_pyNext_list_end (I.ok.hd hc) st p.isList (by simp;omega) λh' eb=>⟨rfl,I.turned (t':=s.toks) (λb o hb e=>eb b o hb e) f0 f1 f3 f4 f5⟩
 self:=λ_ _ _ _ _ st h=>wpAny_pyIter_listiter st h
def rg {P:Program} {w:World} {K:PySem.W.Frag} {tg:Expr} (a it:Addr):Turn P w K tg (Kp K a) [it] it (λi h=>h.IsTupleIter it a i) where
 mem:=by simp
 obj:=λi h st b hb=>by
  have e:b=it:=by simpa using hb
  subst e;obtain⟨o,e,c,d⟩:=st;exact⟨o,e,λv z=>by rw[d] at z;cases z⟩
 keep:=λi h h' st k=>st.at λo e=>k it (by simp) o e
 item:=by
  intro X hP hw hK hc i pins s σ H E I hf st hg;subst hP hw hK;obtain⟨xs,x,hq,hx⟩:=hg;obtain⟨its,rv,p,hz⟩:=I.tuple hq;obtain⟨u,hu,ru⟩:=rv.get hx;obtain⟨f0,f1,f2,f3,f4,f5⟩:=hf it (by simp);refine wpAny_pyNext_tuple_item st (show s.heap.IsTuple a its.toArray from p) (x:=u) (by simpa using hu) λh' ah sb=>?_
  have I1:Inv X pins σ H {s with heap:=h'}:=I.turned (t':=s.toks) (λb o hb e=>(sb.2 b hb).trans e) f0 f1 f3 f4 f5;obtain⟨o,e,c,d⟩:=id ah;exact⟨u,rfl,yM (s:={s with heap:=h'}) e c d (by decide) ⟨x,H,I1,ru,⟨rfl,λys hy=>by rw[I.uP hy hq];exact hx⟩,ah,λb hb=>(hf b hb).1⟩⟩
 done:=by intro X hP hw hK hc i pins s σ H E I hf st hg;subst hP hw hK;obtain⟨xs,hq,hx⟩:=hg;obtain⟨its,rv,p,hz⟩:=I.tuple hq;obtain⟨f0,f1,f2,f3,f4,f5⟩:=hf it (by simp);have hl:=rv.length;exact wpAny_pyNext_tuple_end (I.ok.hd hc) st (show s.heap.IsTuple a its.toArray from p) (by simp;omega) λh' eb=>⟨rfl,I.turned (t':=s.toks) (λb o hb e=>eb b o hb e) f0 f1 f3 f4 f5⟩
 self:=λ_ _ _ _ _ st h=>wpAny_pyIter_tupleiter st h
def rT {P:Program} {w:World} {K:PySem.W.Frag} {tg:Expr} (it:Addr) (lo:Int) (n:Nat):Turn P w K tg (IE lo n) [it] it (λi h=>IsRangeIter h it (lo + (i:Nat) * 1) ((n:Int) - (i:Nat)) 1) where
 mem:=by simp
 obj:=λi h st b hb=>by
  have e:b=it:=by simpa using hb
  subst e;exact⟨_,st,λv z=>by
   have z':Data.fields _=Data.cell v:=z;cases z'⟩
 keep:=λi h h' st k=>k it (by simp) _ st
 item:=by
  intro X hP hw hK hc i pins s σ H E I hf st hg;subst hP hw hK;obtain⟨f0,f1,f2,f3,f4,f5⟩:=hf it (by simp);have W:=Walks.range (prog:=X.prog) (w:=X.w) (I.ok.hd hc) it lo 1 n;refine W.item i s _ _ hg st λv h' tk hv ah kk=>?_
  obtain⟨t,rfl⟩:=hv;have I1:Inv X pins σ H {s with heap:=h',toks:=tk}:=I.turned (λb o hb e=>kk b o (by simpa using hb) e) f0 f1 f3 f4 f5;refine⟨_,rfl,yM (s:={s with heap:=h',toks:=tk}) (n:="range_iterator") ah rfl rfl (by decide) ⟨.int (lo + i),H,I1,⟨t,?_⟩,⟨rfl,rfl⟩,ah,λb hb=>(hf b hb).1⟩⟩;rw[Int.mul_one]
 done:=by intro X hP hw hK hc i pins s σ H E I hf st hg;subst hP hw hK;obtain⟨f0,f1,f2,f3,f4,f5⟩:=hf it (by simp);exact wpAny_pyNext_range_end (I.ok.hd hc) st (by have:n<=i:=hg;omega) λh' eb=>⟨rfl,I.turned (t':=s.toks) (λb o hb e=>eb b o hb e) f0 f1 f3 f4 f5⟩
 self:=λ_ _ _ _ _ st h=>wpAny_pyIter_rangeiter st h
end L2
namespace L2
open PySem PySem.Spec PyProof.Rows
section
variable {X:Cx} {tg:Expr}
def w5 {pins:List (Addr×Obj)} {σ:St} {H:Hp} {s:Shared} {R:It->Hp->Prop} {E:Value->Shared->Prop} {lo hi:Int} {t u v:Tok} {tk:Nat} (I:Inv X pins σ H s) (h1: -(2 ^ 62)<=lo) (h2:lo < 2 ^ 62) (h3: -(2 ^ 62)<=hi) (h4:hi < 2 ^ 62)
  (q:R (IE lo (hi - lo).toNat) H):wpAny (model X.prog X.w) X.A (pyIter (.ref s.heap.objs.size)) (MF X pins σ tg R) E {s with heap:=s.heap.push {cls:= .type "range",data:= .fields #[.int lo t,.int hi u,.int 1 v]},toks:=tk}:=by
 refine wpAny_pyIter_range (IsRange.new ..) (small_one h1 h2 h3 h4) ?_;have I1:Inv X pins σ H {s with heap:=s.heap.push {cls:= .type "range",data:= .fields #[.int lo t,.int hi u,.int 1 v]},toks:=tk}:=I.kept λb o e=>Pk _ e
 refine⟨(s.heap.push {cls:= .type "range",data:= .fields #[.int lo t,.int hi u,.int 1 v]}).objs.size,[(s.heap.push {cls:= .type "range",data:= .fields #[.int lo t,.int hi u,.int 1 v]}).objs.size],_,_,H,rfl,
  I1.kept (t':=tk) λb o e=>Pk _ e,rT _ lo (hi - lo).toNat,?_,λb hb=>?_,q⟩
 ·have e1:lo + ((0:Nat):Int) * 1=lo:=by simp
  have e2:(((hi - lo).toNat:Nat):Int) - ((0:Nat):Int)=Builtin.Range.rangeSize lo hi 1:=by rw[rangeSize_one];split <;> omega
  show IsRangeIter _ _ (lo + ((0:Nat):Int) * 1) ((((hi - lo).toNat:Nat):Int) - ((0:Nat):Int)) 1;rw[e1,e2];exact Pv _ rfl
 ·have e:b=(s.heap.push {cls:= .type "range",data:= .fields #[.int lo t,.int hi u,.int 1 v]}).objs.size:=by simpa using hb
  subst e;exact I1.pA (Pt _) (I1.hok.fresh (Pt _))
def GO (ta:TA):TI:=λσ H R=>ta σ H λvs H1=>∃j:Int,vs=[.int j]/\ -(2 ^ 62)<=j/\j < 2 ^ 62/\R (IE 0 j.toNat) H1
def vz {a:Expr} {ta:TA} {p pos:Pos} (hg:Gl X "range") (hm:X.mg "range"=none) (ha:PA X [a] ta) (hs:starEach [a] X.env=[(false,eval a X.env)]:=by rfl):PI X tg (.Call (.Name "range" p) [a] [] pos) (GO ta):=by
 intro pins s σ H R I h;refine Call_ (dz I hg hm boot_range (PyProof.Rows.callWith_type1 (bw (ha pos pins s σ H _ I h) λus s1 ⟨vs,H1,I1,r1,q1⟩=>?_) hs rfl));obtain⟨j,e,q1,q2,q⟩:=q1;subst e;cases r1 with
 | cons r rr=>cases rr;obtain⟨t,rfl⟩:=r;exact call_range_1 (w5 I1 (by omega) (by omega) q1 q2 (by simpa using q))
def FB (wi:TI) (g:TG) (tb:TS):TS:=λD σ H=>wi σ H λJ H1=>∃W:Nat->Nat->St->Hp->Prop,(∃m,W 0 m σ H1)/\∀i m σ H,W i m σ H->
 (J.stop i H/\D.nx σ H)\/(J.go i H/\∃N:St->Hp->Prop,(∀σ' H',N σ' H'->∃m',m' < m/\W (i + 1) m' σ' H')/\∀x H',J.yld i H x H'->g x σ H' λσ2 H2=>tb {D with nx:=N,ct:=N,bk:=D.nx} σ2 H2)
def jV (fp:List Addr) (h:Heap):List (Addr×Obj):=fp.filterMap λb=>(h.get? b).map λo=>(b,o)
def d8 {fp:List Addr} {h:Heap} {b:Addr} {o:Obj} (hb:b∈fp) (e:h.get? b=some o):(b,o)∈jV fp h:=List.mem_filterMap.mpr ⟨b,hb,by rw[e];rfl⟩
def vd {fp:List Addr} {h:Heap} {p:Addr×Obj} (hp:p∈jV fp h):p.1∈fp/\h.get? p.1=some p.2:=by
 obtain⟨b,hb,e⟩:=List.mem_filterMap.mp hp;cases q:h.get? b with
 | none=>rw[q] at e;cases e
 | some o=>rw[q] at e;have e':(b,o)=p:=Option.some.inj e;subst e';exact⟨hb,q⟩
def Inv.pinned {pins:List (Addr×Obj)} {σ:St} {H:Hp} {s:Shared} {fp:List Addr} (I:Inv X pins σ H s) (hf:∀b∈fp,fW X pins H b) (ho:∀b∈fp,∃o,s.heap.get? b=some o/\∀v,o.data≠ .cell v):Inv X (pins++jV fp s.heap) σ H s:=
 I.jJ λp hp=>(PU.mp hp).elim (λz=>I.pin p (P6 _ z)) λz=>by obtain⟨hb,e⟩:=vd z;obtain⟨f0,f1,f2,_⟩:=hf p.1 hb;obtain⟨o,e',d⟩:=ho p.1 hb;rw[e] at e';cases e';exact⟨e,f0,f1,f2,d⟩
def Inv.gQ {pins pl:List (Addr×Obj)} {σ:St} {H:Hp} {s:Shared} (I:Inv X (pins++pl) σ H s):Inv X pins σ H s:=I.jJ λp hp=>I.pin p (P6 _ (List.mem_append_left _ hp))
def En {iter:Expr} {body:List Stmt} {wi:TI} {g:TG} {tb:TS} {pos:Pos} (hp:PassesOwn (model X.prog X.w) X.A X.env X.xe) (hc:X.calm=true) (hi:PI X tg iter wi) (hg:PG X tg g) (hb:qM X body tb)
  (hs:∀x,foldedSetIterable iter X.env x=pure x:=by intro _;rfl):PS X (.For tg iter body [] pos) (FB wi g tb):=by
 intro pins s σ H D I h;refine wpAny_For (bw (hi pins s σ H _ I h) λv s1 h1=>bw h1 λot s2 h2=>?_) hs;obtain⟨it,fp,tn,J,H2,e,I2,T,dB,f2,W,⟨m0,w0⟩,turn⟩:=h2;subst e;have nW:∀{H':Hp},(∀b∈fp,H' b=none)->∀b∈fp,fW X pins H' b:=λhn b hb=>⟨hn b hb,(f2 b hb).2⟩
 refine codeAny_forLoop_any (λn s'=>∃i σ' H',Inv X pins σ' H' s'/\tn i s'.heap/\(∀b∈fp,H' b=none)/\W i n σ' H') ?_ m0 ⟨0,σ,H2,I2,dB,λb hb=>(f2 b hb).1,w0⟩;rintro n s3 ⟨i,σ3,H3,I3,EX,Mj,w3⟩;rcases turn i n σ3 H3 w3 with ⟨stop,qn⟩ | ⟨go,N,hN,step⟩
 ·refine wpAny_passesOwn hp (bw (T.done X rfl rfl rfl hc i pins s3 σ3 H3 X.xe I3 (nW Mj) EX stop) λr s4 ⟨hr,I4⟩=>?_);subst hr;exact wpAny_execs_nil ⟨σ3,H3,I4,qn⟩
 ·refine wpAny_passesOwn hp (bw (T.item X rfl rfl rfl hc i pins s3 σ3 H3 X.xe I3 (nW Mj) EX go) λr s4 ⟨u,hr,h4⟩=>?_);subst hr;refine wpAny_passesOwn hp (bw h4 λ_ s5 ⟨x,H5,I5,r5,y5,K1,JW⟩=>?_);have OU:=I5.pinned (nW JW) (T.obj _ _ K1);refine wpAny_passesOwn hp (bw (hg _ s5 σ3 H5 x u _ OU r5 (step x H5 y5)) λ_ s6 ⟨σ6,H6,I6,q6⟩=>?_);refine wpAny_passesOwn hp (bw (hb _ s6 σ6 H6 _ I6 q6) λf s7 q7=>?_);have again:∀{σ7:St} {H7:Hp},Inv X (pins++jV fp s5.heap) σ7 H7 s7->N σ7 H7->∃m,m < n/\∃i σ' H',Inv X pins σ' H' s7/\tn i s7.heap/\(∀b∈fp,H' b=none)/\W i m σ' H':=λ {σ7 H7} I7 n7=>by obtain⟨m',hm,w7⟩:=hN σ7 H7 n7;refine⟨m',hm,i + 1,σ7,H7,I7.gQ,T.keep _ _ _ K1 λb hb o e=>(I7.pin (b,o) (P6 _ (P6 _ (d8 hb e)))).1,λb hb=>?_,w7⟩;obtain⟨o,e,d⟩:=T.obj _ _ K1 b hb;exact(I7.pin (b,o) (P6 _ (P6 _ (d8 hb e)))).2.1
  cases f with
  | next=>obtain⟨σ7,H7,I7,n7⟩:=q7;exact again I7 n7
  | cont=>obtain⟨σ7,H7,I7,n7⟩:=q7;exact again I7 n7
  | brk=>obtain⟨σ7,H7,I7,q7⟩:=q7;exact⟨σ7,H7,I7.gQ,q7⟩
  | ret v=>obtain⟨x7,σ7,H7,I7,r7,q7⟩:=q7;exact⟨x7,σ7,H7,I7.gQ,r7,q7⟩
end
end L2
namespace L2
open PySem PySem.Spec PyProof.Rows
abbrev R2:=V->V->Hp->VK->Prop
def kZ (X:Cx) (f:Value->Value->Sem Value) (r:R2):Prop:=
 ∀(pins:List (Addr×Obj)) (s:Shared) (σ:St) (H:Hp) (x y:V) (v u:Value) (Q:VK),Inv X pins σ H s->RelV x v->RelV y u->r x y H Q->
  wpAny (model X.prog X.w) X.A (f v u) (EP X pins σ Q) X.xe s
def KQ (X:Cx) (f:Value->Sem Value) (r:V->Hp->VK->Prop):Prop:=
 ∀(pins:List (Addr×Obj)) (s:Shared) (σ:St) (H:Hp) (x:V) (v:Value) (Q:VK),Inv X pins σ H s->RelV x v->r x H Q->
  wpAny (model X.prog X.w) X.A (f v) (EP X pins σ Q) X.xe s
def eG (X:Cx) (f:Value) (r:List V->Hp->VK->Prop):Prop:=
 ∀(pins:List (Addr×Obj)) (s:Shared) (σ:St) (H:Hp) (xs:List V) (us:List Value) (Q:VK),Inv X pins σ H s->aw xs us->r xs H Q->
  wpAny (model X.prog X.w) X.A (call f us) (EP X pins σ Q) X.xe s
def Lb (X:Cx) (r:V->Hp->(Bool->Hp->Prop)->Prop):Prop:=
 ∀(pins:List (Addr×Obj)) (s:Shared) (σ:St) (H:Hp) (x:V) (v:Value) (Q:Bool->Hp->Prop),Inv X pins σ H s->RelV x v->r x H Q->
  wpAny (model X.prog X.w) X.A (truthy v) (TP X pins σ Q) X.xe s
def Io (r:R2) (ta tb:TE):TE:=λσ H Q=>ta σ H λx H1=>tb σ H1 λy H2=>r x y H2 Q
def Oj (r:V->Hp->VK->Prop) (ta:TE):TE:=λσ H Q=>ta σ H λx H1=>r x H1 Q
def rI (C:Int->Int->Prop) (g:Int->Int->V):R2:=λx y H Q=>∃i j,x= .int i/\y= .int j/\C i j/\Q (g i j) H
def BF (g:Int->Int->V):R2:=λx y H Q=>∃i j,x= .int i/\y= .int j/\Q (g i j) H
def rU (g:Int->V):V->Hp->VK->Prop:=λx H Q=>∃i,x= .int i/\Q (g i) H
section
variable {X:Cx} {a b c:Expr} {ta tb tc:TE} {pos:Pos}
def EG (ha:PE X a ta) (hb:PE X b tb) {pins:List (Addr×Obj)} {s:Shared} {σ:St} {H:Hp} {R:V->V->Hp->Prop} (I:Inv X pins σ H s)
  (h:ta σ H λx H1=>tb σ H1 λy H2=>R x y H2) {Q:Value->Shared->Prop} {f:Value->Value->Sem Value}
  (hf:∀v u s2 x y H2,Inv X pins σ H2 s2->RelV x v->RelV y u->R x y H2->wpAny (model X.prog X.w) X.A (f v u) Q X.xe s2):
  wpAny (model X.prog X.w) X.A (eval a X.env) (λv s₁=>wpAny (model X.prog X.w) X.A (eval b X.env) (λu s₂=>wpAny (model X.prog X.w) X.A (f v u) Q X.xe s₂) X.xe s₁) X.xe s:=by
 refine bw (ha pins s σ H _ I h) λv s1 ⟨x,H1,I1,r1,q1⟩=>?_
 refine bw (hb pins s1 σ H1 _ I1 q1) λu s2 ⟨y,H2,I2,r2,q2⟩=>?_
 exact hf v u s2 x y H2 I2 r1 r2 q2
def GY {op:Operator} {r:R2} (ho:kZ X (binaryOp op) r) (ha:PE X a ta) (hb:PE X b tb):PE X (.BinOp a op b pos) (Io r ta tb):=by intro pins s σ H Q I h;exact wpAny_BinOp (EG ha hb I h λv u s2 x y H2 I2 rx ry q=>ho pins s2 σ H2 x y v u Q I2 rx ry q)
def GR {op:UnaryOp} {r:V->Hp->VK->Prop} (ho:KQ X (unaryOp op) r) (ha:PE X a ta):PE X (.UnaryOp op a pos) (Oj r ta):=by intro pins s σ H Q I h;exact UnaryOp_ (bw (ha pins s σ H _ I h) λv s1 ⟨x,H1,I1,r1,q1⟩=>ho pins s1 σ H1 x v Q I1 r1 q1)
def Ji {f:Value->Value->Sem Value} {C:Int->Int->Prop} {g:Int->Int->Int}
  (rule:∀(i j:Int) (t u:Tok) (s:Shared) (Q:Value->Shared->Prop) (E:Value->Shared->Prop),C i j->Q (.int (g i j) s.toks) {s with toks:=s.toks + 1}->wpAny (model X.prog X.w) X.A (f (.int i t) (.int j u)) Q E s):
  kZ X f (rI C λi j=> .int (g i j)):=by
 intro pins s σ H x y v u Q I rx ry h;obtain⟨i,j,rfl,rfl,hc,q⟩:=h;obtain⟨t,rfl⟩:=rx;obtain⟨t',rfl⟩:=ry;exact rule i j t t' s _ _ hc ⟨.int (g i j),H,I.tok _,⟨_,rfl⟩,q⟩
def Gq {f:Value->Value->Sem Value} {g:Int->Int->Int}
  (rule:∀(i j:Int) (t u:Tok) (s:Shared) (Q:Value->Shared->Prop) (E:Value->Shared->Prop),Q (.int (g i j) s.toks) {s with toks:=s.toks + 1}->wpAny (model X.prog X.w) X.A (f (.int i t) (.int j u)) Q E s):
  kZ X f (BF λi j=> .int (g i j)):=by
 intro pins s σ H x y v u Q I rx ry h;obtain⟨i,j,rfl,rfl,q⟩:=h;obtain⟨t,rfl⟩:=rx;obtain⟨t',rfl⟩:=ry;exact rule i j t t' s _ _ ⟨.int (g i j),H,I.tok _,⟨_,rfl⟩,q⟩
def Bp {f:Value->Value->Sem Value} {g:Int->Int->Bool}
  (rule:∀(i j:Int) (t u:Tok) (s:Shared) (Q:Value->Shared->Prop) (E:Value->Shared->Prop),Q (.bool (g i j)) s->wpAny (model X.prog X.w) X.A (f (.int i t) (.int j u)) Q E s):
  kZ X f (BF λi j=> .bl (g i j)):=by
 intro pins s σ H x y v u Q I rx ry h;obtain⟨i,j,rfl,rfl,q⟩:=h;obtain⟨t,rfl⟩:=rx;obtain⟨t',rfl⟩:=ry;exact rule i j t t' s _ _ ⟨.bl (g i j),H,I,rfl,q⟩
def JV (i j:Int):Prop:=0<=j/\j<=1000000/\i.natAbs < 2 ^ 64
def Ez (i j:Int):Prop:=(-(2 ^ 64) < i/\i < 2 ^ 64)\/(-(2 ^ 64) < j/\j < 2 ^ 64)
def Ez.ok {i j:Int} (h:Ez i j):IntMulOk i j:=by
 rcases h with ⟨h1,h2⟩ | ⟨h1,h2⟩
 ·exact .of_left (intBits_le_64 h1 h2)
 ·exact .of_right (intBits_le_64 h1 h2)
def D5:kZ X (binaryOp .Add) (BF λi j=> .int (i + j)):=Gq λ_ _ _ _ _ _ _ q=>add_int q
def Eu:kZ X (binaryOp .Sub) (BF λi j=> .int (i - j)):=Gq λ_ _ _ _ _ _ _ q=>sub_int q
def Dm:kZ X (binaryOp .Mult) (rI Ez λi j=> .int (i * j)):=Ji λ_ _ _ _ _ _ _ hc q=>mul_int q hc.ok
def Dy:kZ X (binaryOp .Mod) (rI (λ_ j=>0 < j) λi j=> .int (i % j)):=Ji λi j _ _ _ _ _ hc q=>by have h1:(0:Int) < j:=hc;exact mod_int' (by omega) (by rw[Int.fmod_eq_emod_of_nonneg i (by omega)];exact q)
def DJ:kZ X (binaryOp .Pow) (rI JV λi j=> .int (i ^ j.toNat)):=Ji λ_ _ _ _ _ _ _ hc q=>pow_int_small hc.1 hc.2.1 hc.2.2 q
def OC {f:Value->Sem Value} {g:Int->Int}
  (rule:∀(i:Int) (t:Tok) (s:Shared) (Q:Value->Shared->Prop) (E:Value->Shared->Prop),Q (.int (g i) s.toks) {s with toks:=s.toks + 1}->wpAny (model X.prog X.w) X.A (f (.int i t)) Q E s):
  KQ X f (rU λi=> .int (g i)):=by
 intro pins s σ H x v Q I rx h;obtain⟨i,rfl,q⟩:=h;obtain⟨t,rfl⟩:=rx;exact rule i t s _ _ ⟨.int (g i),H,I.tok _,⟨_,rfl⟩,q⟩
def Ey:KQ X (unaryOp .USub) (rU λi=> .int (-i)):=OC λ_ _ _ _ _ q=>neg_int q
end
section
variable {X:Cx} {a b c:Expr} {ta tb tc:TE} {pos:Pos}
def Gj:kZ X (compareOp .Lt) (BF λi j=> .bl (decide (i < j))):=Bp λ_ _ _ _ _ _ _ q=>lt_int q
def HF:kZ X (compareOp .LtE) (BF λi j=> .bl (decide (i<=j))):=Bp λ_ _ _ _ _ _ _ q=>le_int q
def HS:kZ X (compareOp .Gt) (BF λi j=> .bl (decide (j < i))):=Bp λ_ _ _ _ _ _ _ q=>gt_int q
def GJ:kZ X (compareOp .GtE) (BF λi j=> .bl (decide (j<=i))):=Bp λ_ _ _ _ _ _ _ q=>ge_int q
def Bx {op:CmpOp} {r:R2} (ho:kZ X (compareOp op) r) (ha:PE X a ta) (hb:PE X b tb) (hm:behindInMarks op b=false):PE X (.Compare a [op] [b] pos) (Io r ta tb):=by intro pins s σ H Q I h;exact wpAny_Compare1 (EG ha hb I h λv u s2 x y H2 I2 rx ry q=>ho pins s2 σ H2 x y v u Q I2 rx ry q) hm
def Hu (t:TE):TT:=λσ H Q=>t σ H λx H'=>∃k,x= .bl k/\Q k H'
def z9 {op:CmpOp} {r:R2} (ho:kZ X (compareOp op) r) (ha:PE X a ta) (hb:PE X b tb) (hm:behindInMarks op b=false):PT X (.Compare a [op] [b] pos) (Hu (Io r ta tb)):=by
 intro pins s σ H Q I h;refine wpAny_isTrue_Compare1 (bw (ha pins s σ H _ I h) λv s1 ⟨x,H1,I1,r1,q1⟩=>bw (hb pins s1 σ H1 _ I1 q1) λu s2 ⟨y,H2,I2,r2,q2⟩=>
  bw (ho pins s2 σ H2 x y v u _ I2 r1 r2 q2) λc s3 ⟨z,H3,I3,r3,k,e,q3⟩=>?_) hm
 subst e;cases r3;exact wpAny_truthy_bool ⟨H3,I3,q3⟩
def Hw (K:PySem.W.Frag) (x:V) (H:Hp) (k:Bool):Prop:=
 match x with
 | .bo=>k=false
 | .bl b=>k=b
 | .int i=>k=(i != 0)
 | .str y=>y.length<=sizeLine/\k=((y.length:Int) != 0)
 | .EZ y=>y.size<=sizeLine/\k=((y.size:Int) != 0)
 | .ref p=>(∃xs,c6 K H p xs/\k= !xs.isEmpty)\/(∃xs,ek K H p xs/\k= !xs.isEmpty)\/∃eL,H p=some (.dK eL)/\k= !eL.isEmpty
 | _=>False
def qA {κ:Type} {eL:List (κ×V)} {vs:List (κ×Value)} (r:KV eL vs):(!vs.isEmpty)= !eL.isEmpty:=by cases r <;> rfl
def jL {xs:List V} {its:List Value} (r:aw xs its):(!its.toArray.isEmpty)= !xs.isEmpty:=by cases r <;> simp
def iX:(sizeLine:Nat) < 2 ^ 63:=by rw[sizeLine_eq];decide
def CW:Lb X (λx H Q=>∃k,Hw X.K x H k/\Q k H):=by
 intro pins s σ H x v Q I rx h;obtain⟨k,e,q⟩:=h;have hl:=iX;have hs:sizeLine=16777216:=sizeLine_eq;cases x with
 | bo=>cases rx;have e':k=false:=e;subst e';exact truthy_none ⟨H,I,q⟩
 | bl b=>cases rx;have e':k=b:=e;subst e';exact wpAny_truthy_bool ⟨H,I,q⟩
 | int i=>obtain⟨t,rfl⟩:=rx;have e':k=(i != 0):=e;subst e';exact PySem.P.truthy_int ⟨H,I,q⟩
 | str y=>obtain⟨t,rfl⟩:=rx;obtain⟨hy,e'⟩:y.length<=sizeLine/\k=((y.length:Int) != 0):=e;subst e';exact PySem.P.truthy_str (by omega) ⟨H,I.tok _,q⟩
 | EZ y=>obtain⟨t,rfl⟩:=rx;obtain⟨hy,e'⟩:y.size<=sizeLine/\k=((y.size:Int) != 0):=e;subst e';exact PySem.W.truthy_bytes (by omega) ⟨H,I.tok _,q⟩
 | ref p=>
  cases rx;have e':(∃xs,c6 X.K H p xs/\k= !xs.isEmpty)\/(∃xs,ek X.K H p xs/\k= !xs.isEmpty)\/∃eL,H p=some (.dK eL)/\k= !eL.isEmpty:=e;rcases e' with ⟨xs,hx,e'⟩ | ⟨xs,hx,e'⟩ | ⟨eL,hx,e'⟩
  ·subst e';obtain⟨its,r,pl,hz⟩:=I.list hx;have hlen:=r.length;exact wpAny_truthy_list pl.isList (by simp only[Pn];omega) ⟨H,I.tok _,by rw[jL r];exact q⟩
  ·subst e';obtain⟨its,r,pl,hz⟩:=I.tuple hx;have hlen:=r.length;exact truthy_tuple pl (by simp only[Pn];omega) ⟨H,I.tok _,by rw[jL r];exact q⟩
  ·subst e';obtain⟨hz,hS,vs,r,m⟩:eL.length<=sizeLine/\(p==sysModules)=false/\∃vs,KV eL vs/\s.heap.DictOf (nN X.prog X.w) p vs:=I.hok p _ hx;have hlen:eL.length=vs.length:=Paired.length r;exact wpAny_truthy_dict hS m (by omega) ⟨H,I.tok _,by rw[qA r];exact q⟩
 | _=>exact(show False from e).elim
def yO (ha:PE X a ta) (he:∀whole,isTrue a X.env whole=(do let v<-whole;standAt a.pos;holding [v] (truthy v))):
  PT X a (λσ H Q=>ta σ H λx H'=>∃k,Hw X.K x H' k/\Q k H'):=by
 intro pins s σ H Q I h;exact isTrue_plain (bw (ha pins s σ H _ I h) λv s1 ⟨x,H1,I1,r1,q1⟩=>CW pins s1 σ H1 x v Q I1 r1 q1) (he _)
def qx:kZ X (binaryOp .Add) (λx y H Q=>∃i j,x= .str i/\y= .str j/\i.length + j.length<=sizeLine/\Q (.str (i++j)) H):=by intro pins s σ H x y v u Q I rx ry h;obtain⟨i,j,rfl,rfl,hz,q⟩:=h;obtain⟨t,rfl⟩:=rx;obtain⟨t',rfl⟩:=ry;exact add_str (λt' tk=>⟨.str (i++j),H,I.tok _,⟨_,rfl⟩,q⟩) hz
def vals1 {x:V} {us:List Value} (r:aw [x] us):∃u,us=[u]/\RelV x u:=by
 cases r with
 | cons r1 r2=>cases r2;exact⟨_,rfl,r1⟩
def vals2 {x y:V} {us:List Value} (r:aw [x,y] us):∃u w',us=[u,w']/\RelV x u/\RelV y w':=by
 cases r with
 | cons r1 r2=>
  cases r2 with
  | cons r3 r4=>cases r4;exact⟨_,_,rfl,r1,r3⟩
def vm (hc:X.calm=true):eG X (.builtin "min") (λxs H Q=>∃i j,xs=[.int i,.int j]/\Q (.int (if j < i then j else i)) H):=by
 intro pins s σ H xs us Q I r h;obtain⟨i,j,rfl,q⟩:=h;obtain⟨u,w',rfl,⟨t,rfl⟩,⟨t',rfl⟩⟩:=vals2 r;refine min_two_ints (I.ok.hd hc) λh' tk k=>⟨_,H,I.kept k,?_,q⟩
 by_cases hj:j < i
 ·rw[if_pos hj,if_pos hj];exact⟨_,rfl⟩
 ·rw[if_neg hj,if_neg hj];exact⟨_,rfl⟩
def KN (K:PySem.W.Frag) (x:V) (H:Hp) (n:Nat):Prop:=
 match x with
 | .str y=>y.length<=sizeLine/\n=y.length
 | .EZ y=>y.size<=sizeLine/\n=y.size
 | .ref p=>(∃xs,c6 K H p xs/\n=xs.length)\/∃xs,ek K H p xs/\n=xs.length
 | _=>False
def g9:eG X (.builtin "len") (λxs H Q=>∃x n,xs=[x]/\KN X.K x H n/\Q (.int n) H):=by
 intro pins s σ H xs us Q I r h;obtain⟨x,n,rfl,e,q⟩:=h;obtain⟨u,rfl,rx⟩:=vals1 r;have hl:=iX;have hs:sizeLine=16777216:=sizeLine_eq;cases x with
 | str y=>obtain⟨t,rfl⟩:=rx;obtain⟨hy,e'⟩:y.length<=sizeLine/\n=y.length:=e;subst e';exact len_str (by omega) ⟨.int _,H,I.tok _,⟨_,rfl⟩,q⟩
 | EZ y=>obtain⟨t,rfl⟩:=rx;obtain⟨hy,e'⟩:y.size<=sizeLine/\n=y.size:=e;subst e';exact PySem.W.len_bytes (by omega) ⟨.int _,H,I.tok _,⟨_,rfl⟩,q⟩
 | ref p=>
  cases rx;have e':(∃xs,c6 X.K H p xs/\n=xs.length)\/∃xs,ek X.K H p xs/\n=xs.length:=e;rcases e' with ⟨xs,hx,e'⟩ | ⟨xs,hx,e'⟩
  ·subst e';obtain⟨its,r',pl,hz⟩:=I.list hx;have hlen:=r'.length;exact Calls.call_len_list pl.isList (by simp only[Pn];omega) ⟨.int xs.length,H,I.tok _,⟨_,by simp only[Pn];rw[hlen]⟩,q⟩
  ·subst e';obtain⟨its,r',pl,hz⟩:=I.tuple hx;have hlen:=r'.length;exact len_tuple pl (by simp only[Pn];omega) ⟨.int xs.length,H,I.tok _,⟨_,by simp only[Pn];rw[hlen]⟩,q⟩
 | _=>exact(show False from e).elim
end
end L2
namespace L2
open PySem PySem.Spec PyProof.Rows
structure C2 (h:Heap) (x dx C:Addr) (mA:Str->Option Value):Prop where
 obj:h.get? x=some (PySem.W.instObj C dx)
 ns:h.Ns1 dx mA
 ne:dx≠x
def uY {h:Heap} {dx:Addr} {mA:Str->Option Value} (n:h.Ns1 dx mA):∃od,h.get? dx=some od/\∀name,PySem.W.lookIn name od=some (mA name):=by
 obtain⟨o,es,ep,ho,hd,hk,_,hm⟩:=n;refine⟨o,ho,λname=>?_⟩;have e:=hm name;unfold nsFind findBy at e;rw[<-Array.find?_toList] at e;unfold PySem.W.lookIn;rw[hd];dsimp only;split
 ·rename_i y q;rw[q] at e;exact congrArg some e
 ·rename_i q;rw[q] at e;have a:es.toList.any (·.refKey)=false:=by rw[List.any_eq_false];intro y hy;obtain⟨z,t,A7⟩:=hk y (Array.mem_toList_iff.mp hy);simp[DictEntry.refKey,A7]
  have a':¬es.toList.any (·.refKey)=true:=by rw[a];exact Bool.false_ne_true
  rw[if_neg a'];exact congrArg some e
def C2.look {h:Heap} {x dx C:Addr} {mA:Str->Option Value} (I:C2 h x dx C mA):∃od,PySem.W.InstAt h x (PySem.W.instObj C dx) C (some od)/\∀name,PySem.W.lookIn name od=some (mA name):=
 let ⟨od,ho,hl⟩:=uY I.ns
 ⟨od,⟨I.obj,rfl,rfl,ho⟩,hl⟩
section
variable {P:Program} {w:World} {H H':Hp} {h h':Heap} {a C dx:Addr} {fs KD:List (Str×V)}
def Bq (hok:eh P w H h) (e:H a=some (.ins C dx fs)):∃mA,C2 h a dx C mA/\(∀f,DT (fs.lookup f) (mA f))/\PySem.Within mA (fs.map (·.1))/\fs.length<=1000/\H dx=some (.own a):=by obtain⟨d,z,ne,ob,mA,n,r,q⟩:=(show bO P w H h a (.ins C dx fs) from hok a _ e);exact⟨mA,⟨ob,n,ne⟩,r,q,z,d⟩
end
structure Kv (K:PySem.W.Frag) (C:Addr):Prop where
 pg:PySem.W.plainGet K C Str.empty=true
 hd:PySem.W.hasDictIn K C=true
 po:PySem.W.plainOver K C=true
 sa:PySem.W.findIn K (.ref C) "__setattr__"=some (some (.builtin "object.__setattr__"))
def Kv.get {K:PySem.W.Frag} {C:Addr} (c:Kv K C) (f:Str):PySem.W.plainGet K C f=true:=c.pg
section
variable {X:Cx} {pins:List (Addr×Obj)} {σ:St} {H:Hp} {s:Shared} {A:Around} {E:Value->Shared->Prop} {Q:Value->Shared->Prop} {c:Value} {b:Bool}
inductive gS (K:PySem.W.Frag) (H:Hp):V->Value->Prop where
 | bo:gS K H .bo (.type "NoneType")
 | bl (x:Bool):gS K H (.bl x) (.type "bool")
 | int (i:Int):gS K H (.int i) (.type "int")
 | str (x:Str):gS K H (.str x) (.type "str")
 | AX (x:UInt64):gS K H (.AX x) (.type "float")
 | lst {a:Addr} {xs:List V} (e:H a=some (.lst xs)):gS K H (.ref a) (.type "list")
 | sP {a:Addr} {o:Obj} {xs:List V} (e:H a=some (.sP o (.lst xs))):gS K H (.ref a) (.type "list")
 | tup {a:Addr} {xs:List V} (e:H a=some (.tup xs)):gS K H (.ref a) (.type "tuple")
 | dK {a:Addr} {eL:List (Key×V)} (e:H a=some (.dK eL)):gS K H (.ref a) (.type "dict")
 | dT {a:Addr} {eL:List (List Key×V)} (e:H a=some (.dT eL)):gS K H (.ref a) (.type "dict")
 | ins {a C dx:Addr} {fs:List (Str×V)} (e:H a=some (.ins C dx fs)) (cl:Kv K C) (ha:PySem.W.findIn K (.ref C) "__class__"=some (some (.builtin "object.__class__")))
   (hn:PySem.W.specialIn K (.builtin "object.__class__") "__get__"=some (some (.builtin "getset_descriptor.__get__"))) (L7:PySem.W.takesIn K (.builtin "object.__class__")=some true)
   (hm:PySem.W.mroIn K C (.type "object")=some true):gS K H (.ref a) (.ref C)
def vF {x:V} {u t:Value} (I:Inv X pins σ H s) (rx:RelV x u) (ty:gS X.K H x t) (e:PySem.W.kitOne X.K t c=some b) (h:∀tk,Q (.bool b) {s with toks:=tk}):
  wpAny (model X.prog X.w) A (call (.builtin "isinstance") [u,c]) Q E s:=by
 cases ty with
 | bo=>cases (show u=Value.none from rx);exact PySem.W.kia_one PySem.W.kitx_none I.pH True.intro e (λz=>nomatch z) h
 | bl y=>cases (show u=Value.bool y from rx);exact PySem.W.kia_one PySem.W.kitx_bool I.pH True.intro e (λz=>nomatch z) h
 | int i=>obtain⟨t,q⟩:=(show∃t,u=Value.int i t from rx);cases q;exact PySem.W.kia_one PySem.W.kitx_int I.pH True.intro e (λz=>nomatch z) h
 | str y=>obtain⟨t,q⟩:=(show∃t,u=Value.str y t from rx);cases q;exact PySem.W.kia_one PySem.W.kitx_str I.pH True.intro e (λz=>nomatch z) h
 | AX y=>obtain⟨t,q⟩:=(show∃t,u=Value.float y t from rx);cases q;exact PySem.W.kia_one PySem.W.kitx_float I.pH True.intro e (λz=>nomatch z) h
 | @lst a xs ea=>cases (show u=Value.ref a from rx);obtain⟨_,_,n,_,h1⟩:=(show bO X.prog X.w H s.heap a (.lst xs) from I.hok a _ ea);exact PySem.W.kia_one PySem.W.kitx_list I.pH ⟨_,h1,rfl⟩ e (λz=>nomatch z) h
 | @sP a ob xs ea=>cases (show u=Value.ref a from rx);obtain⟨_,_,_,n,_,h1⟩:=(show bO X.prog X.w H s.heap a (.sP ob (.lst xs)) from I.hok a _ ea);exact PySem.W.kia_one PySem.W.kitx_list I.pH ⟨_,h1,rfl⟩ e (λz=>nomatch z) h
 | @tup a xs ea=>cases (show u=Value.ref a from rx);obtain⟨_,_,_,p⟩:=(show bO X.prog X.w H s.heap a (.tup xs) from I.hok a _ ea);obtain⟨o,h1,h2,_⟩:=p;exact PySem.W.kia_one PySem.W.kitx_tuple I.pH ⟨o,h1,h2⟩ e (λz=>nomatch z) h
 | @dK a eL ea=>cases (show u=Value.ref a from rx);obtain⟨_,_,vs,_,p⟩:=(show bO X.prog X.w H s.heap a (.dK eL) from I.hok a _ ea);obtain⟨o,es,ep,h1,h2,_⟩:=p;exact PySem.W.kia_one PySem.W.kitx_dict I.pH ⟨o,h1,h2.1⟩ e (λz=>nomatch z) h
 | @dT a eL ea=>cases (show u=Value.ref a from rx);obtain⟨_,_,xs,_,o,es,ep,h1,h2,_⟩:=(show bO X.prog X.w H s.heap a (.dT eL) from I.hok a _ ea);exact PySem.W.kia_one PySem.W.kitx_dict I.pH ⟨o,h1,h2.1⟩ e (λz=>nomatch z) h
 | @ins a C dx fs ea cl ha hn L7 hm=>cases (show u=Value.ref a from rx);obtain⟨mA,O,_⟩:=Bq I.hok ea;obtain⟨od,J,_⟩:=O.look;exact PySem.W.kia_one (PySem.W.kitx_own (cl.get _) cl.hd ha hn L7 hm) I.pH J e (λz=>nomatch z) h
end
end L2
namespace L2
open PySem PySem.Spec PyProof.Rows
structure iz (k:Nat) (A:Around):Prop where
 hd:A.handled=none
 dp:A.depth + 3 * k + 5 < recursionLimit
 un:A.units + 16 * k + 200 < cLine
def iz.deeper {k:Nat} {A:Around} (r:iz (k + 1) A) (env:Env):iz k (A.deeper env):=
 ⟨r.hd,by have:=r.dp;show A.depth + 1 + 3 * k + 5 < _;omega,by have:=r.un;show A.units + 3 + 16 * k + 200 < _;omega⟩
def iz.depth {k:Nat} {A:Around} (r:iz k A):A.depth < recursionLimit:=by have:=r.dp;omega
def wx:TA:=λ_ H Q=>Q [] H
def pX (ta:TE) (tr:TA):TA:=λσ H Q=>ta σ H λx H1=>tr σ H1 λxs H2=>Q (x::xs) H2
section
variable {X:Cx} {e:Expr} {es:List Expr} {te:TE} {t:TA} {pos:Pos}
def ft:PA X [] wx:=λ_ _ _ _ H Q I h=>Calls.spliced_nil ⟨[],H,I,.nil,h⟩
def cN (ha:PE X e te) (hr:PA X es t) (hs:starEach (e::es) X.env=(false,eval e X.env)::starEach es X.env:=by rfl):PA X (e::es) (pX te t):=by intro pos pins s σ H Q I h;rw[hs];show wpAny _ _ (spliced ((false,eval e X.env)::backTo pos (starEach es X.env))) _ _ s;refine Calls.spliced_cons (bw (ha pins s σ H _ I h) λu s1 ⟨x,H1,I1,r1,q1⟩=>?_);exact bw (hr pos pins s1 σ H1 _ I1 q1) λus s2 ⟨xs,H2,I2,r2,q2⟩=>⟨x::xs,H2,I2,.cons r1 r2,q2⟩
def Lg (t:TA):TE:=λσ H Q=>t σ H λxs H1=>xs.length<=sizeLine/\∀p,H1 p=none->Q (.ref p) (upd H1 p (.tup xs))
def KP (t:TA):TE:=λσ H Q=>t σ H λxs H1=>xs.length<=sizeLine/\∀p,H1 p=none->Q (.ref p) (upd H1 p (.lst xs))
def DU {x1} (h:PA X es t):PE X (.Tuple es x1 pos) (Lg t):=by intro pins s σ H Q I hq;refine wpAny_Tuple_spliced (bw (h pos pins s σ H _ I hq) λus s1 ⟨xs,H1,I1,r,z,q⟩=>⟨by rw[<-r.length];exact z,?_⟩);have hf:H1 s1.heap.objs.size=none:=I1.hok.fresh (Pt _);refine⟨.ref s1.heap.objs.size,upd H1 s1.heap.objs.size (.tup xs),I1.laid (t':=s1.toks) (λb u e=>Pk _ e) (Pt _) ?_,rfl,q _ hf⟩;exact⟨z,us,r,⟨_,Pv _ rfl,rfl,_,rfl⟩⟩
def Dh (h:PA X es t):PE X (.List es pos) (KP t):=by intro pins s σ H Q I hq;refine wpAny_List_spliced (bw (h pos pins s σ H _ I hq) λus s1 ⟨xs,H1,I1,r,z,q⟩=>⟨by rw[<-r.length];exact z,?_⟩);have hf:H1 s1.heap.objs.size=none:=I1.hok.fresh (Pt _);refine⟨.ref s1.heap.objs.size,upd H1 s1.heap.objs.size (.lst xs),I1.laid (t':=s1.toks) (λb u e=>Pk _ e) (Pt _) ?_,rfl,q _ hf⟩;exact⟨z,us,0,r,Pv _ rfl⟩
end
abbrev Sp:=List V->Hp->VK->XK->Prop
abbrev j9:=List Env->Hp->Shared->XK->Value->Shared->Prop
structure AV (P:Program) (w:World) (K:PySem.W.Frag) (mg:Str->Option Value) (base:Heap) (A:Around) (outer:List Env) (s:Shared) (H:Hp):Prop where
 frames:A.frames=some outer
 mod:Mod K mg base
 bs:∀b o,base.get? b=some o->s.heap.get? b=some o/\H b=none
 B8:base.objs.size<=s.heap.objs.size
 kb:s.heap.FunFrames base outer
 E0:∀b∈eW outer,H b=none
 hok:eh P w H s.heap
 bare:AllBare s.gens
def CE (outer:List Env) (P:Program) (w:World) (H:Hp) (s:Shared) (Q:VK) (u:Value) (s':Shared):Prop:=
 ∃v H',s'.os=s.os/\AllBare s'.gens/\Un (eW outer) [] H H' s.heap s'.heap/\eh P w H' s'.heap/\RelV v u/\Q v H'
def CR (CX:j9) (outer:List Env) (P:Program) (w:World) (H:Hp) (s:Shared) (Q:VK) (E:XK) (r:Result) (s':Shared):Prop:=
 match r with
 | .ok (.ret u)=>CE outer P w H s Q u s'
 | .ok _=>False
 | .error e=>CX outer H s E e s'
structure iO (P:Program) (w:World) (K:PySem.W.Frag) (mg:Str->Option Value) (base:Heap) (CX:j9) (k:Nat) (f:Addr) (fd:FuncData) (ps:List Str) (sp:Sp):Prop where
 len:∀vs H Q E,sp vs H Q E->vs.length=ps.length
 run:∀(A:Around) (outer:List Env) (s:Shared) (H:Hp) (args:Args) (us:List Value) (vs:List V) (Q:VK) (E:XK),iz k A->AV P w K mg base A outer s H->BindsTo s fd args (ps.zip us)->aw vs us->sp vs H Q E->
  codeAny (model P w) A (.call (.ref f) args) (CR CX outer P w H s Q E) s
def iO.imp {P:Program} {w:World} {K:PySem.W.Frag} {mg:Str->Option Value} {base:Heap} {CX:j9} {k:Nat} {f:Addr} {fd:FuncData} {ps:List Str} {sp Mz:Sp} (F:iO P w K mg base CX k f fd ps sp)
  (h:∀vs H Q E,Mz vs H Q E->sp vs H Q E):iO P w K mg base CX k f fd ps Mz:=
 ⟨λvs H Q E q=>F.len vs H Q E (h _ _ _ _ q),λA outer s H args us vs Q E hr he hb hv hs=>F.run A outer s H args us vs Q E hr he hb hv (h _ _ _ _ hs)⟩
section
variable {X:Cx} {pins:List (Addr×Obj)} {σ:St} {H:Hp} {s s':Shared}
def Inv.fV (I:Inv X pins σ H s):AV X.prog X.w X.K X.mg X.base X.A X.stack s H:=
 ⟨I.ok.frames,I.ok.mod,I.bs,Pz I.ok.B8 I.sz,I.stack,I.nO,I.hok,I.bare⟩
def Inv.after {Q:VK} {u:Value} (I:Inv X pins σ H s) (h:CE X.stack X.prog X.w H s Q u s'):EP X pins σ Q u s':=by obtain⟨v,H',os,bare,un,hok,r,q⟩:=h;obtain⟨hh,g,d,t,Fq⟩:=s';obtain rfl:Fq=s.os:=os;exact⟨v,H',I.call (h':=hh) (g':=g) (d':=d) (t':=t) (ch:=[]) un hok bare (λb z=>absurd z (by simp)),r,q⟩
end
def GE (sp:Sp) (vn:List V) (E:XK) (t:TA):TE:=λσ H Q=>t σ H λvs H1=>sp (vs++vn) H1 Q E
def Binds (K:PySem.W.Frag) (fd:FuncData) (ps:List Str) (ds:List Value):Prop:=
 ∀(s:Shared) (us:List Value),K.In s.heap->(us++ds).length=ps.length->BindsTo s fd ⟨us,[]⟩ (ps.zip (us++ds))
def Binds.all {K:PySem.W.Frag} {fd:FuncData} {ps:List Str} (h:∀us:List Value,us.length=ps.length->bindArgs fd ⟨us,[]⟩=pure (ps.zip us)):Binds K fd ps []:=λs us _ hl=>by rw[Qd] at hl ⊢;exact .of_eq (h us hl)
def rD (CX:j9) (X:Cx) (E:XK):Prop:=∀(pins:List (Addr×Obj)) (σ:St) (H:Hp) (s:Shared) (e:Value) (s':Shared),Inv X pins σ H s->CX X.stack H s E e s'->X.xe e s'
section
variable {X:Cx} {CX:j9} {k:Nat} {f C:Addr} {fd:FuncData} {ps:List Str} {sp:Sp} {vn:List V} {ds:List Value} {E:XK} {x m:Str} {p pos apos:Pos} {e o:Expr} {es:List Expr} {ta:TE} {t:TA}
def Dl {pins:List (Addr×Obj)} {σ:St} {H:Hp} {s:Shared} {Q:VK} {us:List Value} {vs:List V} (F:iO X.prog X.w X.K X.mg X.base CX k f fd ps sp) (hr:iz k X.A) (hb:Binds X.K fd ps ds) (hd:aw vn ds) (hx:rD CX X E)
  (I:Inv X pins σ H s) (r:aw vs us) (h:sp (vs++vn) H Q E):wpAny (model X.prog X.w) X.A (call (.ref f) us) (EP X pins σ Q) X.xe s:=by
 have r2:aw (vs++vn) (us++ds):=r.append hd;have hl:(us++ds).length=ps.length:=by rw[<-r2.length];exact F.len _ _ _ _ h
 refine wpAny_call (codeAny_mono (F.run X.A X.stack s H ⟨us,[]⟩ (us++ds) (vs++vn) Q E hr I.fV (hb s us I.pH hl) r2 h) λr s' hq=>?_);cases r with
 | error e=>exact hx pins σ H s e s' I hq
 | ok fl=>
  cases fl with
  | ret u=>exact I.after hq
  | next=>exact False.elim hq
  | brk=>exact False.elim hq
  | cont=>exact False.elim hq
def zC (F:iO X.prog X.w X.K X.mg X.base CX k f fd ps sp) (hr:iz k X.A) (hg:Gl X x) (hm:X.mg x=some (.ref f)) (hk:PySem.W.keepIn X.K (.ref f)=true) (hb:Binds X.K fd ps ds) (hd:aw vn ds) (hx:rD CX X E)
  (ha:PA X (e::es) t) (Bd:(x==("__debug__":Str))=false:=by decide) (he:starEach (e::es) X.env=(false,eval e X.env)::starEach es X.env:=by rfl) (gG:(backTo pos (starEach es X.env)).any (·.1)=false:=by rfl):
  PE X (.Call (.Name x p) (e::es) [] pos) (GE sp vn E t):=by
 intro pins s σ H Q I h;refine wpAny_Call_Name_kw (tU I hg hm ?_ Bd);refine PySem.W.callWith_K (h₀:=X.base) I.ok.mod.J7 hk (bw (ha pos pins s σ H _ I h) λus s1 ⟨vs,H1,I1,r,q⟩=>⟨I1.pH,?_⟩) he gG;exact Dl F hr hb hd hx I1 r q
end
def PK (X:Cx) (FP:List Keyword) (t:TA):Prop:=
 ∀(pos:Pos) (pins:List (Addr×Obj)) (s:Shared) (σ:St) (H:Hp) (Q:List V->Hp->Prop),Inv X pins σ H s->t σ H Q->wpAny (model X.prog X.w) X.A (evalAll ((backToKw pos (keywordEach FP X.env)).map (·.2))) (AP X pins σ Q) X.xe s
section
variable {X:Cx} {CX:j9} {k:Nat} {f C:Addr} {fd:FuncData} {ps ks:List Str} {sp:Sp} {E:XK} {x m:Str} {p pos apos Kh:Pos} {e o:Expr} {es:List Expr} {FP:List Keyword} {te ta:TE} {t tk:TA} {nm:Option Str}
def DB:PK X [] wx:=λ_ _ _ _ H Q I h=>wpAny_evalAll_nil ⟨[],H,I,.nil,h⟩
def Av (ha:PE X e te) (hr:PK X FP t):PK X (⟨nm,e,Kh⟩::FP) (pX te t):=by intro pos pins s σ H Q I h;show wpAny _ _ (evalAll ((do let v<-eval e X.env;standAt pos;pure v)::(backToKw pos (keywordEach FP X.env)).map (·.2))) _ _ s;refine wpAny_evalAll_cons (Pi (bw (ha pins s σ H _ I h) λu s1 ⟨x,H1,I1,r1,q1⟩=>Pi (wpAny_standAt (Pl ?_))));exact bw (hr pos pins s1 σ H1 _ I1 q1) λus s2 ⟨xs,H2,I2,r2,q2⟩=>⟨x::xs,H2,I2,.cons r1 r2,q2⟩
variable {g:List Value->List Value->List Value} {gV:List V->List V->List V}
end
structure ej (N P:List Str) (sc:Scope):Prop where
 kind:sc.kind= .function
 co:sc.isCoroutine=false
 gen:sc.isGenerator=false
 nd:N.Nodup
 pre:N.take P.length=P
 par:∀x∈P,sc.names.lookup x=some .local\/sc.names.lookup x=some .cell
 DC:∀y∈sc.names,y.2≠ .free
def lS {kindOf:Str->Option NameKind} {x:Str}:∀{binds:List (Str×Value)} {m:Str->Option Value},(∀v,(x,v)∉binds)->bindL kindOf binds m x=m x
 | [],_,_=>rfl
 | (n,v)::r,m,h=>by
  unfold bindL;rw[lS λw hw=>h w (Pq _ hw)];split
  ·have:x≠n:=by rintro rfl;exact h v Pu
   simp[this]
  ·rfl
def l8 {kindOf:Str->Option NameKind} {x:Str}:∀{binds:List (Str×Value)} {m:Str->Option Value},(∀v,(x,v)∉binds)->bindC kindOf binds m x=m x
 | [],_,_=>rfl
 | (n,v)::r,m,h=>by
  unfold bindC;rw[l8 λw hw=>h w (Pq _ hw)];split
  ·rfl
  ·have:x≠n:=by rintro rfl;exact h v Pu
   simp[this]
def md {kindOf:Str->Option NameKind} {x:Str} {v:Value}:∀{P:List Str} {vs:List Value} {i:Nat} {m:Str->Option Value},P.Nodup->P[i]?=some x->vs[i]?=some v->kindOf x=some .local->
  bindL kindOf (P.zip vs) m x=some v
 | [],_,_,_,_,h,_,_=>by simp at h
 | _::_,[],_,_,_,_,h,_=>by simp at h
 | p::P,w::vs,0,m,nd,h1,h2,hk=>by simp at h1 h2;subst h1;subst h2;show bindL kindOf ((p,w)::P.zip vs) m p=_;unfold bindL;rw[lS λv hv=>(List.nodup_cons.mp nd).1 (List.of_mem_zip hv).1,if_pos hk];simp
 | p::P,w::vs,i + 1,m,nd,h1,h2,hk=>by show bindL kindOf ((p,w)::P.zip vs) m x=_;unfold bindL;exact md (i:=i) (List.nodup_cons.mp nd).2 (by simpa using h1) (by simpa using h2) hk
def mn {kindOf:Str->Option NameKind} {x:Str} {v:Value}:∀{P:List Str} {vs:List Value} {i:Nat} {m:Str->Option Value},P.Nodup->P[i]?=some x->vs[i]?=some v->kindOf x≠some .local->
  bindC kindOf (P.zip vs) m x=some v
 | [],_,_,_,_,h,_,_=>by simp at h
 | _::_,[],_,_,_,_,h,_=>by simp at h
 | p::P,w::vs,0,m,nd,h1,h2,hk=>by simp at h1 h2;subst h1;subst h2;show bindC kindOf ((p,w)::P.zip vs) m p=_;unfold bindC;rw[l8 λv hv=>(List.nodup_cons.mp nd).1 (List.of_mem_zip hv).1,if_neg hk];simp
 | p::P,w::vs,i + 1,m,nd,h1,h2,hk=>by show bindC kindOf ((p,w)::P.zip vs) m x=_;unfold bindC;exact mn (i:=i) (List.nodup_cons.mp nd).2 (by simpa using h1) (by simpa using h2) hk
def start (N:List Str) (vs:List V):St:=vs.map some++List.replicate (N.length - vs.length) none
def kf (CX:j9) (P:Program) (w:World) (K:PySem.W.Frag) (mg:Str->Option Value) (base:Heap) (N:List Str) (qual:Str) (scope:Scope) (f:Addr) (cd:Value) (A:Around) (outer:List Env) (s:Shared) (H:Hp) (E:XK):Cx where
 prog:=P
 w:=w
 K:=K
 mg:=mg
 base:=base
 A:=A.deeper (envOfC qual scope s.heap.objs.size f cd)
 N:=N
 s₀:=s
 H₀:=H
 env:=envOfC qual scope s.heap.objs.size f cd
 outer:=outer
 stack:=envOfC qual scope s.heap.objs.size f cd::outer
 ex:=[]
 calm:=true
 fn:=λ_=>true
 pn:=[]
 xe:=λe s'=>wpAny (model P w) (A.deeper (envOfC qual scope s.heap.objs.size f cd)) (leaving (envOfC qual scope s.heap.objs.size f cd) e) (λ_ s''=>CX outer H s E e s'') (λe' s''=>CX outer H s E e' s'') s'
def pv {sc:Scope} {n:Nat} {x:Str} (h:sc.names.lookup x=some .cell):∃c,(cellsFrom n sc.names []).lookup x=some c:=by have q:=PySem.W.cellsFrom_some sc.names n [] (.inl h);exact Option.isSome_iff_exists.mp q
def vE {CX:j9} {P:Program} {w:World} {K:PySem.W.Frag} {mg:Str->Option Value} {base:Heap} {N ps:List Str} {qual:Str} {scope:Scope} {f:Addr} {cd:Value} {A:Around} {outer:List Env} {s s1:Shared} {H:Hp} {E:XK} {us:List Value} {vs:List V}
  (S:ej N ps scope) (hd:A.handled=none) (e0:AV P w K mg base A outer s H) (hl:vs.length=ps.length) (r:aw vs us)
  (x:InCallC s s.heap.objs.size (bindL (envOfC qual scope s.heap.objs.size f cd).kindOf (ps.zip us) λ_=>none) (cellsFrom (s.heap.objs.size + 1) scope.names []) (bindC (envOfC qual scope s.heap.objs.size f cd).kindOf (ps.zip us) λ_=>none) s1):
  Inv (kf CX P w K mg base N qual scope f cd A outer s H E) [] (start N vs) H s1:=by
 have gG:ps.length<=N.length:=by have:=congrArg List.length S.pre;rw[List.length_take] at this;omega
 obtain⟨h1,tk,rfl,hk⟩:=x.done;have G9:∀b:Addr,b∉(kf CX P w K mg base N qual scope f cd A outer s H E).ex:=λb z=>absurd (show b∈([]:List Addr) from z) (by simp)
 refine⟨⟨e0.mod,S.kind,rfl,rfl,Pt _,λy z c h1 h2=>?_,λy hy=>?_,λy c _ h=>?_,λ_=>hd,Around.frames_deeper e0.frames,.inr ⟨rfl,rfl⟩,λb z=>absurd z (G9 b),e0.bs,e0.B8,λb _ _=>G9 b,λb z=>absurd z (G9 b),e0.kb,e0.E0⟩,
  rfl,e0.bare,Un.kept hk,⟨_,x.toInCall.ns,λi y v h1 h2 h3=>?_⟩,λy c h=>⟨_,x.cell y c h⟩,e0.hok.fresh (Pt _),λy c h=>?_,λp hp=>absurd (show p∈([]:List (Addr×Obj)) from hp) (by simp),e0.hok.kept hk,?_⟩
 ·exact name_of_addr x.apart (PySem.mem_of_lookup h1) (PySem.mem_of_lookup h2)
 ·have hy:scope.names.lookup y=some .cell\/scope.names.lookup y=some .free:=hy;rcases hy with hy | hy
  ·exact pv hy
  ·exact absurd rfl (S.DC _ (PySem.mem_of_lookup hy))
 ·exact Nat.le_of_lt (x.above y c (PySem.mem_of_lookup h))
 ·have hi:i < vs.length:=by
   unfold start at h2;by_cases hi:i < vs.length
   ·exact hi
   ·rw[Qg (by simpa using hi)] at h2;rw[List.getElem?_replicate] at h2;split at h2 <;> cases h2
  have ha:vs[i]?=some v:=by
   unfold start at h2;rw[Qf (by simpa using hi),PN] at h2;cases e:vs[i]? with
   | none=>rw[e] at h2;cases h2
   | some a=>rw[e] at h2;cases h2;rfl
  obtain⟨u,hu,rv⟩:=r.get ha;have hp:ps[i]?=some y:=by rw[<-S.pre,List.getElem?_take_of_lt (by omega)];exact h1
  have Mu:ps.Nodup:=by rw[<-S.pre];exact S.nd.sublist (List.take_sublist _ _)
  refine⟨u,rv,?_⟩;rcases S.par y (List.mem_of_getElem? hp) with k | k
  ·exact .inl ⟨k,md Mu hp hu k⟩
  ·obtain⟨c,e⟩:=pv (n:=s.heap.objs.size + 1) k;refine .inr ⟨.inl k,c,e,?_⟩;have q:=x.cell y c e;rw[mn Mu hp hu (by show scope.names.lookup y≠_;rw[k];decide)] at q;exact q
 ·exact e0.hok.fresh (Nat.le_of_lt (x.above y c (PySem.mem_of_lookup h)))
 ·unfold start;show _=N.length;rw[PJ,Px,List.length_replicate];omega
def HL {CX:j9} {P:Program} {w:World} {K:PySem.W.Frag} {mg:Str->Option Value} {base:Heap} {k:Nat} {f:Addr} {name qual:Str} {params:Arguments} {body:List Stmt} {scope:Scope} {dV kV doc pm eU ct oc:Value} {an od:Option Addr}
  {tE:Array (Option Value)} {N ps:List Str} {sp:Sp} (lk:K.lookup f=some ⟨oc,od,.func (PySem.W.fnOf name qual params body scope dV kV doc pm an eU ct),tE⟩) (zm:PySem.W.codeIn K eU qual=true) (S:ej N ps scope)
  (len:∀vs H Q E,sp vs H Q E->vs.length=ps.length)
  (GT:∀(A:Around) (outer:List Env) (s:Shared) (H:Hp) (vs:List V) (Q:VK) (E:XK),iz k (A.deeper (envOfC qual scope s.heap.objs.size f eU))->sp vs H Q E->
   ∃t,qM (kf CX P w K mg base N qual scope f eU A outer s H E) body t/\t {nx:=λ_ H'=>Q .bo H',rt:=Q} (start N vs) H):
  iO P w K mg base CX (k + 1) f (PySem.W.fnOf name qual params body scope dV kV doc pm an eU ct) ps sp:=by
 refine⟨len,λA outer s H args us vs Q E hr e0 hb r oq=>?_⟩;have hl:=len _ _ _ _ oq;have KX:K.In s.heap:=e0.mod.J7.keeps λb o e=>(e0.bs b o e).1
 have lim:s.heap.NoLimit:=e0.mod.nolimit.keeps λb o e=>(e0.bs b o e).1
 have Hc:∀y∈ps.zip us,scope.names.lookup y.1=some .local\/(scope.names.lookup y.1=some .cell/\((cellsFrom (s.heap.objs.size + 1) scope.names []).lookup y.1).isSome=true):=λ⟨n,v⟩ hy=>by
  rcases S.par n (List.of_mem_zip hy).1 with q | q
  ·exact .inl q
  ·exact .inr ⟨q,PySem.W.cellsFrom_some _ _ _ (.inl q)⟩
 refine codeAny_call_function hr.depth (KX _ _ lk) rfl S.co S.gen rfl (PySem.W.codeRec_of KX zm) (hb _ _ _ _ ?_);refine wpAny_newFunctionEnv_cells S.kind Hc λenv he s1 x=>?_
 subst he;refine⟨lim.keeps x.toInCall.keep,codeAny_func ?_⟩;obtain⟨t,ht,hq⟩:=GT A outer s H vs Q E (hr.deeper _) oq;have I:Inv (kf CX P w K mg base N qual scope f eU A outer s H E) [] (start N vs) H s1:=vE S hr.hd e0 hl r x;refine wpAny_mono (ht [] s1 (start N vs) H _ I hq) (λfl s' hs=>?_) λe s' hs=>hs
 have fin:∀{σ':St} {H':Hp} {v:V} {u:Value},Inv (kf CX P w K mg base N qual scope f eU A outer s H E) [] σ' H' s'->RelV v u->Q v H'->CE outer P w H s Q u s':=
  λ {σ' H' v u} J rv q=>⟨v,H',J.os,J.bare,J.base,J.hok,rv,q⟩
 cases fl with
 | ret u=>obtain⟨v,σ',H',J,rv,q⟩:=hs;exact fin J rv q
 | next=>obtain⟨σ',H',J,q⟩:=hs;exact fin (v:=V.bo) (u:=Value.none) J rfl q
 | brk=>obtain⟨_,_,_,q⟩:=hs;exact False.elim q
 | cont=>obtain⟨_,_,_,q⟩:=hs;exact False.elim q
end L2
namespace L2
open PySem PySem.Spec PyProof.Rows
section
variable {X:Cx} {x:Str} {p pos:Pos} {e:Expr} {es:List Expr} {t:TA} {id T:String} {r:List V->Hp->VK->Prop}
def FV (r:List V->Hp->VK->Prop) (t:TA):TE:=λσ H Q=>t σ H λvs H1=>r vs H1 Q
def pB (hc:eG X (.builtin id) r) (hg:Gl X x) (hm:X.mg x=none) (hv:bootBuiltins x=some (.builtin id)) (ha:PA X (e::es) t) (hn:x≠"__name__":=by decide) (Bd:(x==("__debug__":Str))=false:=by decide)
  (he:starEach (e::es) X.env=(false,eval e X.env)::starEach es X.env:=by rfl) (gG:(backTo pos (starEach es X.env)).any (·.1)=false:=by rfl):PE X (.Call (.Name x p) (e::es) [] pos) (FV r t):=by
 intro pins s σ H Q I h;refine wpAny_Call_Name_kw (dz I hg hm hv ?_ hn Bd);exact PyProof.Rows.callWith_builtin1 (bw (ha pos pins s σ H _ I h) λus s1 ⟨vs,H1,I1,r1,q1⟩=>hc pins s1 σ H1 vs us Q I1 r1 q1) he gG
def vg (hc:eG X (.type T) r) (hg:Gl X x) (hm:X.mg x=none) (hv:bootBuiltins x=some (.type T)) (ha:PA X (e::es) t) (hn:x≠"__name__":=by decide) (Bd:(x==("__debug__":Str))=false:=by decide)
  (he:starEach (e::es) X.env=(false,eval e X.env)::starEach es X.env:=by rfl) (gG:(backTo pos (starEach es X.env)).any (·.1)=false:=by rfl):PE X (.Call (.Name x p) (e::es) [] pos) (FV r t):=by
 intro pins s σ H Q I h;refine wpAny_Call_Name_kw (dz I hg hm hv ?_ hn Bd);exact PyProof.Rows.callWith_type1 (bw (ha pos pins s σ H _ I h) λus s1 ⟨vs,H1,I1,r1,q1⟩=>hc pins s1 σ H1 vs us Q I1 r1 q1) he gG
end
end L2
namespace HT
open PySem PyProof.Rows
section
variable {prog:Program} {w:World} {A:Around} {E:Value->Shared->Prop} {s:Shared}
def AM {t b:Addr} {vs ws:List Value} {Q:Value->Shared->Prop} (ht:IsTup s.heap t vs.toArray) (hb:IsTup s.heap b ws.toArray) (hv:vs≠[])
  (h1:ws=[]->Q (.ref t) s) (h2:ws≠[]->Q (.ref s.heap.objs.size) {s with heap:=s.heap.push {cls:= .type "tuple",data:= .seq (vs++ws).toArray}})
  (ib:vs.length + ws.length<=sizeLine):wpAny (model prog w) A (binaryOp .Add (.ref t) (.ref b)) Q E s:=by
 obtain⟨⟨cls,dd,data,sl⟩,ho,hc,n,hd⟩:=id ht;obtain⟨⟨G6,zw,data2,vI⟩,ow,uX,n2,hd2⟩:=id hb;simp only at hc hd uX hd2;subst hc hd uX hd2;have e:vs.toArray++ws.toArray=(vs++ws).toArray:=by simp
 by_cases hw:ws=[]
 ·exact concat_meets ⟨_,ho,rfl⟩ ⟨_,ow,rfl⟩ noFill_tuple_add seq_tuple_add PySem.F.slot_tuple_add PySem.F.entry_tuple_add (PySem.F.args_tuple_add_2 _ _)
   (tuple_addW1 t b vs.toArray ws.toArray n n2 dd zw sl vI (by simpa using hv) (by simp[hw])) ⟨ho,ow,h1 hw⟩
 ·refine concat_meets ⟨_,ho,rfl⟩ ⟨_,ow,rfl⟩ noFill_tuple_add seq_tuple_add PySem.F.slot_tuple_add PySem.F.entry_tuple_add (PySem.F.args_tuple_add_2 _ _)
   (tuple_addW2 t b vs.toArray ws.toArray n n2 dd zw sl vI (by simpa using hv) (by simpa using hw) (by rw[Pn,Pn];exact ib)) ⟨ho,ow,?_⟩
  rw[e];exact h2 hw
def bE (n d:Nat):Option Int->Nat
 | none=>d
 | some v=>if v < 0 then(v + (n:Int)).toNat else min v.toNat n
def yE (n d:Nat):bE n d none=d:=rfl
def Bc (n d k:Nat):bE n d (some (k:Int))=min k n:=by show (if (k:Int) < 0 then((k:Int) + (n:Int)).toNat else min (k:Int).toNat n)=min k n;rw[if_neg (by omega),Int.toNat_natCast]
def Dg (n d:Nat) (hd:d<=n) (o:Option Int):bE n d o<=n:=by
 cases o with
 | none=>exact hd
 | some v=>
  show (if v < 0 then(v + (n:Int)).toNat else min v.toNat n)<=n;by_cases hv:v < 0
  ·rw[if_pos hv];omega
  ·rw[if_neg hv];exact Nat.min_le_right _ _
def ug (v:Int) (n d:Nat):(if v < 0 then max (v + (n:Int)) 0 else min v (n:Int))=((bE n d (some v):Nat):Int):=by grind [bE]
def rJ (lo hi:Option Int) (n:Nat):Builtin.Slice.sliceAdjust lo hi 1 (n:Int)=(((bE n 0 lo:Nat):Int),((bE n n hi:Nat):Int)):=by
 have h1:¬((1:Int) < 0):=by omega
 unfold Builtin.Slice.sliceAdjust;simp only[h1,if_false];refine Prod.ext ?_ ?_
 ·cases lo with
  | none=>rfl
  | some v=>exact ug v n 0
 ·cases hi with
  | none=>rfl
  | some v=>exact ug v n n
def sr (i j:Nat):Builtin.Slice.slicePlaces (i:Int) (j:Int) 1=j - i:=by
 unfold Builtin.Slice.slicePlaces;have h1:(1:Int) > 0:=by omega
 simp only[h1,if_true,Int.ediv_one];split <;> omega
def jQ {v:Value} {o:Option Int} {Q:Option Int->Shared->Prop} (p:IsPart v o) (h:Q o s):wpAny (model prog w) A (Builtin.Slice.slicePartIndex v) Q E s:=by
 cases p with
 | none=>exact slicePart_none h
 | int i t=>exact slicePart_int h
def dX {sl:Addr} {vl vu:Value} {lo hi:Option Int} {n:Nat} {Q:Int×Int×Nat->Shared->Prop} (hs:s.heap.IsSliceOf sl vl vu .none) (pl:IsPart vl lo) (pu:IsPart vu hi)
  (h:Q (((bE n 0 lo:Nat):Int),1,bE n n hi - bE n 0 lo) s):wpAny (model prog w) A (Builtin.Slice.sliceApplied (.ref sl) (pure (n:Int))) Q E s:=by
 obtain⟨os,D4,Bn,x8⟩:=id hs;unfold Builtin.Slice.sliceApplied Builtin.Slice.sliceFields;refine Pi (Pi (wpAny_field D4 x8 (x:=vl) rfl (Pi (wpAny_field D4 x8 (x:=vu) rfl (Pi (wpAny_field D4 x8 (x:= .none) rfl (Pl ?_)))))));refine Pi (slicePart_none ?_);show wpAny _ _ (if ((1:Int)==0)=true then _ else _) _ _ s;rw[if_neg (by decide)];refine Pi (jQ pl (Pi (jQ pu (Pi (Pl ?_)))));show wpAny _ _ (match Builtin.Slice.sliceAdjust lo hi 1 (n:Int) with | (lo,hi)=>pure (lo,(1:Int),Builtin.Slice.slicePlaces lo hi 1)) _ _ s;rw[rJ lo hi n];show wpAny _ _ (pure (((bE n 0 lo:Nat):Int),(1:Int),Builtin.Slice.slicePlaces ((bE n 0 lo:Nat):Int) ((bE n n hi:Nat):Int) 1)) _ _ s;rw[sr];exact Pl h
def wu (xs:Array Value) (i k:Nat):((List.range k).filterMap λ(m:Nat)=>xs[((i:Int) + (m:Int) * 1).toNat]?).toArray=((xs.toList.drop i).take k).toArray:=by
 have e:(λ(m:Nat)=>xs[((i:Int) + (m:Int) * 1).toNat]?)=λm=>xs[i + m]?:=by
  funext m;have:((i:Int) + (m:Int) * 1).toNat=i + m:=by omega
  rw[this]
 rw[e];have:=pick_run xs i k;rw[List.filterMap_map] at this;have e2:((λx=>xs[x]?) ∘ λx=>i + x)=λm=>xs[i + m]?:=rfl
 rw[e2] at this;rw[this]
def iH {t sl:Addr} {items:Array Value} {vl vu:Value} {lo hi:Option Int} {Q:Value->Shared->Prop} (ht:IsTup s.heap t items) (hs:s.heap.IsSliceOf sl vl vu .none) (pl:IsPart vl lo) (pu:IsPart vu hi)
  (hw:¬(bE items.size 0 lo=0/\bE items.size items.size hi=items.size))
  (h:Q (.ref s.heap.objs.size) {s with heap:=s.heap.push {cls:= .type "tuple",data:= .seq ((items.toList.drop (bE items.size 0 lo)).take (bE items.size items.size hi - bE items.size 0 lo)).toArray}})
  (ib:items.size<=sizeLine):wpAny (model prog w) A (getItem (.ref t) (.ref sl)) Q E s:=by
 have tT:sizeOk (.seq ((items.toList.drop (bE items.size 0 lo)).take (bE items.size items.size hi - bE items.size 0 lo)).toArray):=by show ((items.toList.drop (bE items.size 0 lo)).take (bE items.size items.size hi - bE items.size 0 lo)).toArray.size<=sizeLine;rw[Pn,List.length_take,List.length_drop,PP];omega
 have hj:bE items.size items.size hi<=items.size:=Dg _ _ (Pt _) hi;obtain⟨os,D4,Bn,x8⟩:=id hs;have Lh:s.TypeIs (.ref sl) "slice":=⟨os,D4,Bn⟩;unfold getItem
 try with_reducible refine wpAny_holding ?_
 first | refine Pi (Pl ?_) | skip
 refine Pi (wpAny_sequenceKey ht.typeIs (by decide) ?_);refine Pi (wpAny_callSpecial?_slot (name:=Str.ofString "__getitem__") ht.typeIs PyProof.Rows.slot_tuple_getitem
  (wpAny_call_entry PyProof.Rows.slot_tuple_getitem ht.typeIs entry_tuple_getitem ?_ (args_tuple_getitem _ _)))
 show wpAny _ _ (Builtin.Tuple.tupleItemsOf (.ref t) >>=_) _ _ s;refine Pi (tupleItemsOf_ ht ?_);refine Pi (wpAny_typeOf Lh ?_);rw[if_pos (by decide)];refine Pi (dX hs pl pu ?_);have Ny:¬((((bE items.size 0 lo:Nat):Int)==0&&(1:Int)==1&&(bE items.size items.size hi - bE items.size 0 lo)==items.size)=true):=by intro q;rw[Pm,Pm] at q;have q1:((bE items.size 0 lo:Nat):Int)=0:=PV q.1.1;have q2:bE items.size items.size hi - bE items.size 0 lo=items.size:=PV q.2;exact hw ⟨by omega,by omega⟩
 show wpAny _ _ (if (((bE items.size 0 lo:Nat):Int)==0&&(1:Int)==1&&(bE items.size items.size hi - bE items.size 0 lo)==items.size)=true then _ else _) _ _ s;rw[if_neg Ny,wu]
 first
  | exact Pi (m:=Builtin.Tuple.tupleExact _) (wpAny_newObj_type (Pl ⟨_,rfl,Pl h⟩) tT)
  | exact Pi (m:=Builtin.Tuple.tupleExact _) (wpAny_newObj_type (Pi (Pl (Pl ⟨_,rfl,Pl h⟩))) tT)
  | exact Pi (Pi (m:=Builtin.Tuple.tupleExact _) (wpAny_newObj_type (Pl (Pl ⟨_,rfl,Pl h⟩)) tT))
  | exact Pi (Pi (m:=Builtin.Tuple.tupleExact _) (wpAny_newObj_type (Pl ⟨_,rfl,Pl h⟩) tT))
end
end HT
namespace L2
open PySem PySem.Spec PyProof.Rows
abbrev TO:=St->Hp->(Option Int->Hp->Prop)->Prop
def PO (X:Cx) (e:Option Expr) (t:TO):Prop:=
 ∀(pins:List (Addr×Obj)) (s:Shared) (σ:St) (H:Hp) (Q:Option Int->Hp->Prop),Inv X pins σ H s->t σ H Q->
  wpAny (model X.prog X.w) X.A (evalPart e X.env) (λu s'=>∃o H',Inv X pins σ H' s'/\IsPart u o/\Q o H') X.xe s
def zJ:TO:=λ_ H Q=>Q none H
def Fv (t:TE):TO:=λσ H Q=>t σ H λx H1=>∃i,x= .int i/\Q (some i) H1
def intsAre_of {ns:List Int}:∀{us:List Value},aw (ns.map V.int) us->IntsAre us ns:=by
 induction ns with
 | nil=>intro us r;rw[List.map_nil] at r;cases r;exact .nil
 | cons n ns ih=>
  intro us r;rw[Qh] at r;cases r with
  | cons r1 r2=>obtain⟨t,e⟩:=r1;subst e;exact .cons n t (ih r2)
section
variable {X:Cx} {e:Expr} {te:TE} {lo hi:Option Expr} {tl th:TO} {pos p2:Pos}
def uu:PO X none zJ:=by intro pins s σ H Q I h;rw[evalPart_none];exact Pl ⟨none,H,I,.none,h⟩
def tM (h:PE X e te):PO X (some e) (Fv te):=by
 intro pins s σ H Q I hw;rw[evalPart_some];refine bw (h pins s σ H _ I hw) λu s1 ⟨x,H1,I1,r1,q1⟩=>?_
 obtain⟨i,rfl,q⟩:=q1;obtain⟨t,rfl⟩:=r1;exact⟨some i,H1,I1,.int i t,q⟩
def E4 (X:Cx) (r:V->Option Int->Option Int->Hp->VK->Prop):Prop:=
 ∀(pins:List (Addr×Obj)) (s:Shared) (σ:St) (H:Hp) (x:V) (v vl vu:Value) (lo hi:Option Int) (sl:Addr) (Q:VK),Inv X pins σ H s->RelV x v->s.heap.IsSliceOf sl vl vu .none->IsPart vl lo->IsPart vu hi->r x lo hi H Q->
  ∃T id,typeLookup (.type T) "__getitem__"=pure (some (.builtin id))/\s.TypeIs v T/\wpAny (model X.prog X.w) X.A (getItem v (.ref sl)) (EP X pins σ Q) X.xe s
def OQ (r:V->Option Int->Option Int->Hp->VK->Prop) (te:TE) (tl th:TO):TE:=λσ H Q=>te σ H λx H1=>tl σ H1 λl H2=>th σ H2 λu H3=>r x l u H3 Q
def p0 {r:V->Option Int->Option Int->Hp->VK->Prop} (hr:E4 X r) (he:PE X e te) (hl:PO X lo tl) (hu:PO X hi th):PE X (.Subscript e (.Slice lo hi none p2) pos) (OQ r te tl th):=by
 intro pins s σ H Q I h;refine Subscript_ (bw (he pins s σ H _ I h) λv s1 ⟨x,H1,I1,r1,q1⟩=>?_);refine wpAny_Slice (bw (hl pins s1 σ H1 _ I1 q1) λvl s2 ⟨l,H2,I2,pl,q2⟩=>bw (hu pins s2 σ H2 _ I2 q2) λvu s3 ⟨u,H3,I3,pu,q3⟩=>?_);rw[evalPart_none];refine Pl ?_;have I4:Inv X pins σ H3 {s3 with heap:=s3.heap.push {cls:= .type "slice",data:= .fields #[vl,vu,.none]}}:=I3.kept (t':=s3.toks) λb ob q=>Pk _ q
 obtain⟨T,id,hT,ht,hg⟩:=hr pins {s3 with heap:=s3.heap.push {cls:= .type "slice",data:= .fields #[vl,vu,.none]}} σ H3 x v vl vu l u s3.heap.objs.size Q I4 r1 (Heap.IsSliceOf.new ..) pl pu q3;show wpAny (model X.prog X.w) X.A (subscriptTail e (.Slice lo hi none p2) v (.ref s3.heap.objs.size)) (EP X pins σ Q) X.xe {s3 with heap:=s3.heap.push {cls:= .type "slice",data:= .fields #[vl,vu,.none]}};exact tail_any (ops:=[.ref s3.heap.objs.size,v]) ht hT hg (by with_unfolding_all rfl)
def lp (xs:List V) (lo hi:Option Int):List V:=(xs.drop (HT.bE xs.length 0 lo)).take (HT.bE xs.length xs.length hi - HT.bE xs.length 0 lo)
def i7 (xs:List V) (lo hi:Option Int):(lp xs lo hi).length<=xs.length:=by unfold lp;rw[List.length_take,List.length_drop];omega
def Ke (K:PySem.W.Frag):V->Option Int->Option Int->Hp->VK->Prop:=λx lo hi H Q=>∃a xs,x= .ref a/\ek K H a xs/\
 ¬(HT.bE xs.length 0 lo=0/\HT.bE xs.length xs.length hi=xs.length)/\∀p,H p=none->Q (.ref p) (upd H p (.tup (lp xs lo hi)))
def Cf:E4 X (Ke X.K):=by
 intro pins s σ H x v vl vu lo hi sl Q I rx hs pl pu h;obtain⟨a,xs,rfl,hx,hw,q⟩:=h;cases rx;obtain⟨its,r,ht,hz⟩:=I.tuple hx;have hlen:its.toArray.size=xs.length:=by rw[Pn];exact r.length.symm
 refine⟨"tuple",_,PyProof.Rows.slot_tuple_getitem.lookup,ht.typeIs,?_⟩;refine HT.iH ht hs pl pu (by rw[hlen];exact hw) ?_ (by rw[hlen];exact hz);rw[hlen];refine⟨.ref s.heap.objs.size,_,I.laid (t':=s.toks) (o:= .tup (lp xs lo hi)) (λb ob q=>Pk _ q) (Pt _) ?_,rfl,q _ (I.hok.fresh (Pt _))⟩;exact⟨Pz (i7 xs lo hi) hz,_,(r.drop (HT.bE xs.length 0 lo)).take (HT.bE xs.length xs.length hi - HT.bE xs.length 0 lo),IsTup.new _ _⟩
def Fj (K:PySem.W.Frag):R2:=λx y H Q=>∃a b xs ys,x= .ref a/\y= .ref b/\ek K H a xs/\ek K H b ys/\xs≠[]/\xs.length + ys.length<=sizeLine/\
 (ys=[]->Q (.ref a) H)/\(ys≠[]->∀p,H p=none->Q (.ref p) (upd H p (.tup (xs++ys))))
def aw.nr {xs:List V} {us:List Value} (r:aw xs us):us=[]↔xs=[]:=by
 cases r with
 | nil=>simp
 | cons _ _=>simp
def zG:kZ X (binaryOp .Add) (Fj X.K):=by intro pins s σ H x y v u Q I rx ry h;obtain⟨a,b,xs,ys,rfl,rfl,ha,hb,hx,hz,q1,q2⟩:=h;cases rx;cases ry;obtain⟨its,r1,p1,_⟩:=I.tuple ha;obtain⟨aJ,r2,p2,_⟩:=I.tuple hb;refine HT.AM p1 p2 (λz=>hx (r1.nr.mp z)) (λz=>⟨.ref a,H,I,rfl,q1 (r2.nr.mp z)⟩) (λz=>?_) (by rw[<-r1.length,<-r2.length];exact hz);refine⟨.ref s.heap.objs.size,_,I.laid (t':=s.toks) (o:= .tup (xs++ys)) (λb ob q=>Pk _ q) (Pt _) ?_,rfl,q2 (λw=>z (r2.nr.mpr w)) _ (I.hok.fresh (Pt _))⟩;exact⟨by rw[PJ];exact hz,_,r1.append r2,IsTup.new _ _⟩
end
end L2
namespace L2
open PySem PySem.Spec PyProof.Rows
def ox (n:Nat) (i:Int):Option Nat:=if 0<=i then(if i < n then some i.toNat else none) else if -(n:Int)<=i then some (i + n).toNat else none
def kX {α:Type} (xs:List α) (i:Int):Option α:=(ox xs.length i).bind λj=>xs[j]?
theorem sQ {n:Nat} {i:Int} {j:Nat} (h:ox n i=some j):seqIndex? i n=some j/\j < n/\ -(n:Int)<=i/\i < n:=by
 unfold ox at h;by_cases h0:0<=i
 ·rw[if_pos h0] at h;by_cases h1:i < n
  ·rw[if_pos h1] at h;have e:i.toNat=j:=Option.some.inj h;exact⟨by rw[seqIndex_of h0 h1,e],by omega,by omega,h1⟩
  ·rw[if_neg h1] at h;cases h
 ·rw[if_neg h0] at h;by_cases h1: -(n:Int)<=i
  ·rw[if_pos h1] at h;have e:(i + n).toNat=j:=Option.some.inj h;exact⟨by rw[seqIndex_neg (by omega) h1,e],by omega,h1,by omega⟩
  ·rw[if_neg h1] at h;cases h
def nI {α:Type} {xs:List α} {i:Int} {v:α} (h:kX xs i=some v):∃j,seqIndex? i xs.length=some j/\xs[j]?=some v/\j < xs.length/\ -(xs.length:Int)<=i/\i < xs.length:=by grind [kX,ox,sQ]
def iG {α:Type} {xs:List α} {j:Nat} {v:α} (h:xs[j]?=some v):kX xs (j:Int)=some v:=by grind [ox,kX]
def oW {α:Type} (xs:List α) (v:α):kX (xs++[v]) (-1)=some v:=by
 have hl:(xs++[v]).length=xs.length + 1:=by simp
 have e:ox (xs++[v]).length (-1)=some xs.length:=by unfold ox;rw[hl,if_neg (by decide),if_pos (by omega)];congr 1;omega
 unfold kX;rw[e];show (xs++[v])[xs.length]?=some v;simp
def nU (b:Expr):Prop:=∀o i,subscripted b false o i=operate [o,i] (getItem o i)
def Hr (X:Cx) (r:R2):Prop:=
 ∀(value slice:Expr) (pins:List (Addr×Obj)) (s:Shared) (σ:St) (H:Hp) (x y:V) (v u:Value) (Q:VK),Inv X pins σ H s->RelV x v->RelV y u->r x y H Q->
  subscripted slice false v u=operate [v,u] (getItem v u)->wpAny (model X.prog X.w) X.A (subscriptTail value slice v u) (EP X pins σ Q) X.xe s
def M0 (X:Cx) (id:String) (r:V->List V->Hp->VK->Prop):Prop:=
 ∀(pins:List (Addr×Obj)) (s:Shared) (σ:St) (H:Hp) (x:V) (xs:List V) (v:Value) (us:List Value) (Q:VK),Inv X pins σ H s->RelV x v->aw xs us->r x xs H Q->
  wpAny (model X.prog X.w) X.A (call (.builtin id) (v::us)) (EP X pins σ Q) X.xe s
section
variable {X:Cx} {a b:Expr} {ta tb:TE} {pos:Pos}
def Fu {r:R2} (hr:Hr X r) (ha:PE X a ta) (hb:PE X b tb) (hs:nU b):PE X (.Subscript a b pos) (Io r ta tb):=by intro pins s σ H Q I h;exact Subscript_ (EG ha hb I h λv u s2 x y H2 I2 rx ry q=>hr a b pins s2 σ H2 x y v u Q I2 rx ry q (hs _ _))
def K4 (K:PySem.W.Frag):R2:=λx y H Q=>∃p xs i v,x= .ref p/\y= .int i/\c6 K H p xs/\kX xs i=some v/\Q v H
def JA (K:PySem.W.Frag):R2:=λx y H Q=>∃p xs i v,x= .ref p/\y= .int i/\ek K H p xs/\kX xs i=some v/\Q v H
def LZ:R2:=λx y H Q=>∃z i c,x= .str z/\y= .int i/\z.length<=sizeLine/\kX z.cps.toList i=some c/\Q (.str ⟨#[c]⟩) H
def sF:Hr X (K4 X.K):=by
 intro value slice pins s σ H x y v u Q I rx ry h hs;obtain⟨p,xs,i,z,rfl,rfl,hq,he,q⟩:=h;cases rx;obtain⟨t,rfl⟩:=ry;obtain⟨its,r,pl,hz⟩:=I.list hq;obtain⟨j,h1,h2,h3,h4,h5⟩:=nI he;obtain⟨w,ew,KF⟩:=r.get h2;have hl:=r.length;have hn:=iX;have fin:EP X pins σ Q w s:=⟨z,H,I,KF,q⟩;by_cases h0:0<=i
 ·have hj:i.toNat=j:=by rw[seqIndex_of h0 h5] at h1;exact Option.some.inj h1
  exact item_listR pl.isList h0 (by omega) (by rw[hj];simpa using ew) fin hs
 ·have hj:(i + (its.toArray.size:Int)).toNat=j:=by rw[seqIndex_neg (by omega) h4] at h1;rw[Pn,<-hl];exact Option.some.inj h1
  exact subscriptTail_builtinR (x:=w) pl.isList.typeIs slot_list_getitem.lookup
   (wpAny_getItem_list_neg (Q:=λr s'=>r=w/\EP X pins σ Q r s') pl.isList (by omega) (by rw[Pn] <;> omega) (by omega) (by rw[hj];simpa using ew) ⟨rfl,fin⟩) hs
def Cz:Hr X (JA X.K):=by
 intro value slice pins s σ H x y v u Q I rx ry h hs;obtain⟨p,xs,i,z,rfl,rfl,hq,he,q⟩:=h;cases rx;obtain⟨t,rfl⟩:=ry;obtain⟨its,r,pl,hz⟩:=I.tuple hq;obtain⟨j,h1,h2,h3,h4,h5⟩:=nI he;obtain⟨w,ew,KF⟩:=r.get h2;have hl:=r.length;have hn:=iX;have fin:EP X pins σ Q w s:=⟨z,H,I,KF,q⟩;exact subscriptTail_builtinR (x:=w) pl.typeIs slot_tuple_getitem.lookup
  (getItem_tuple (j:=j) (Q:=λr s'=>r=w/\EP X pins σ Q r s') pl (by omega) (by omega) (by rw[Pn,<-hl];exact h1) (by simpa using ew) ⟨rfl,fin⟩) hs
def CM:Hr X LZ:=by
 intro value slice pins s σ H x y v u Q I rx ry h hs;obtain⟨z,i,c,rfl,rfl,hz,he,q⟩:=h;obtain⟨t,rfl⟩:=rx;obtain⟨t',rfl⟩:=ry;obtain⟨j,h1,h2,h3,h4,h5⟩:=nI he;have hl:z.cps.toList.length=z.length:=by simp[Str.length]
 rw[hl] at h1 h4 h5;have hn:=iX;exact tail_any (typeIs_str s z t) slot_str_getitem.lookup (getItem_str (c:=c) (by
  have e1:decide (i < -(2 ^ 63:Int))=false:=PY (by omega);have e2:decide (i>=2 ^ 63)=false:=PY (by omega);rw[e1,e2,Bool.or_false]) (by rw[h1];simpa using h2) ⟨.str ⟨#[c]⟩,H,I.tok _,⟨_,rfl⟩,q⟩) hs
def rN (its:List Value) (n j:Nat) (u:Value):Obj.mapSeq (·.setIfInBounds j u) {cls:= .type "list",data:= .seq its.toArray n}={cls:= .type "list",data:= .seq (its.set j u).toArray n}:=by simp[Obj.mapSeq]
def Inv.lst {pins:List (Addr×Obj)} {σ:St} {H:Hp} {s:Shared} {p:Addr} {xs:List V} (I:Inv X pins σ H s) (h:H p=some (.lst xs)):
  ∃(its:List Value) (n:Nat),aw xs its/\s.heap.get? p=some {cls:= .type "list",data:= .seq its.toArray n}/\xs.length<=sizeLine:=by
 obtain⟨z,its,n,r,e⟩:=I.hok p _ h;exact⟨its,n,r,e,z⟩
def Inv.C8 {pins:List (Addr×Obj)} {σ:St} {H:Hp} {s:Shared} {p:Addr} {xs ys:List V} {its its':List Value} {n n':Nat} {f:Obj->Obj} (I:Inv X pins σ H s) (h:H p=some (.lst xs))
  (ho:s.heap.get? p=some {cls:= .type "list",data:= .seq its.toArray n}) (hf:f {cls:= .type "list",data:= .seq its.toArray n}={cls:= .type "list",data:= .seq its'.toArray n'}) (r:aw ys its') (hz:ys.length<=sizeLine) (t:Nat):
  Inv X pins σ (upd H p (.lst ys)) {s with heap:=s.heap.update p f,toks:=t}:=by
 have e:(s.heap.update p f).get? p=some {cls:= .type "list",data:= .seq its'.toArray n'}:=by rw[Heap.get?_update_self f ho (by rw[hf] <;> rfl),hf]
 refine I.write (x:=p) (e:=p) (by rw[h];trivial) (.inl rfl) (λb u hb q=>(P1 _ _ (Ne.symm hb)).trans q) ⟨_,e⟩ ?_;exact⟨hz,its',n',r,e⟩
def B5:V->V->V->Hp->(Hp->Prop)->Prop:=λo i v H Q=>∃p xs k j,o= .ref p/\i= .int k/\H p=some (.lst xs)/\ox xs.length k=some j/\Q (upd H p (.lst (xs.set j v)))
def set_list:Hg X B5:=by
 intro pins s σ H o i v ov iv u Q I ro ri rv h;obtain⟨p,xs,k,j,rfl,rfl,hp,hj,q⟩:=h;cases ro;obtain⟨t,rfl⟩:=ri;obtain⟨its,n,r,ho,hz⟩:=I.lst hp;obtain⟨h1,h2,h3,h4⟩:=sQ hj;have hl:=r.length;have hn:=iX;have I':Inv X pins σ (upd H p (.lst (xs.set j v))) {s with heap:=s.heap.update p (Obj.mapSeq (·.setIfInBounds j u))}:=
  I.C8 hp ho (rN its n j u) (r.set rv j) (by rw[List.length_set];exact hz) s.toks
 by_cases h0:0<=k
 ·have hk:k.toNat=j:=by rw[seqIndex_of h0 h4] at h1;exact Option.some.inj h1
  exact PySem.W.ki_setAt ho h0 (by omega) (by rw[Pn,<-hl];exact h4) (by rw[hk];exact⟨_,I',q⟩)
 ·have hk:(k + (its.toArray.size:Int)).toNat=j:=by rw[seqIndex_neg (by omega) h3] at h1;rw[Pn,<-hl];exact Option.some.inj h1
  exact PySem.W.ki_setBack ho (by omega) (by rw[Pn,<-hl];exact h3) (by omega) (by rw[hk];exact⟨_,I',q⟩)
def nT (lo hi:Option Int) (n:Nat):(sliceBounds lo hi none n).1=((HT.bE n 0 lo:Nat):Int)/\(sliceBounds lo hi none n).2.1=((HT.bE n n hi:Nat):Int)/\(sliceBounds lo hi none n).2.2=1:=by
 refine⟨?_,?_,rfl⟩
 ·cases lo with
  | none=>simp[sliceBounds,HT.bE]
  | some i=>
   simp only[sliceBounds,HT.bE,Option.getD_none,show (1:Int) > 0 by decide,if_true];by_cases h:i < 0
   ·simp only[h,if_true] <;> omega
   ·simp only[h,if_false] <;> omega
 ·cases hi with
  | none=>simp[sliceBounds,HT.bE]
  | some i=>
   simp only[sliceBounds,HT.bE,Option.getD_none,show (1:Int) > 0 by decide,if_true];by_cases h:i < 0
   ·simp only[h,if_true] <;> omega
   ·simp only[h,if_false] <;> omega
def k9 (its:List Value) (lo hi:Option Int):slicePick its.toArray lo hi none=((its.drop (HT.bE its.length 0 lo)).take (HT.bE its.length its.length hi - HT.bE its.length 0 lo)).toArray:=by obtain⟨h1,h2,h3⟩:=nT lo hi its.toArray.size;unfold slicePick;rw[h1,h2,h3];simp only[sliceRange_one,pick_run,Pn] <;> rfl
def J6 (K:PySem.W.Frag):V->Option Int->Option Int->Hp->VK->Prop:=λx lo hi H Q=>∃a xs,x= .ref a/\c6 K H a xs/\∀p,H p=none->Q (.ref p) (upd H p (.lst (lp xs lo hi)))
def sG:E4 X (J6 X.K):=by intro pins s σ H x v vl vu lo hi sl Q I rx hs pl pu h;obtain⟨a,xs,rfl,hx,q⟩:=h;cases rx;obtain⟨its,r,ht,hz⟩:=I.list hx;have hlen:=r.length;refine⟨"list",_,slot_list_getitem.lookup,ht.isList.typeIs,?_⟩;refine wpAny_getItem_list_slice ht.isList hs pl pu .none (by simp) ?_ (by rw[Pn] <;> omega);rw[k9,<-hlen];refine⟨.ref s.heap.objs.size,_,I.laid (t':=s.toks) (o:= .lst (lp xs lo hi)) (λb ob q=>Pk _ q) (Pt _) ?_,rfl,q _ (I.hok.fresh (Pt _))⟩;exact⟨Pz (i7 xs lo hi) hz,_,0,(r.drop (HT.bE xs.length 0 lo)).take (HT.bE xs.length xs.length hi - HT.bE xs.length 0 lo),Pv _ rfl⟩
def ec:eG X (.type "list") (λxs H Q=>∃p ys,xs=[.ref p]/\(c6 X.K H p ys\/ek X.K H p ys)/\∀l,H l=none->Q (.ref l) (upd H l (.lst ys))):=by
 intro pins s σ H xs us Q I r h;obtain⟨p,ys,rfl,hq,q⟩:=h;obtain⟨u,rfl,rx⟩:=vals1 r;cases rx;have fin:∀(its:List Value),aw ys its->ys.length<=sizeLine->∀(h':Heap) (c':Nat),(∀b o',s.heap.get? b=some o'->h'.get? b=some o')->
   h'.get? s.heap.objs.size=some {cls:= .type "list",dict:=none,data:= .seq its.toArray c',slots:=#[]}->EP X pins σ Q (.ref s.heap.objs.size) {s with heap:=h'}:=λits r' hz h' c' kp e=>
  ⟨.ref s.heap.objs.size,_,I.laid (t':=s.toks) kp (Pt _) (show bO X.prog X.w _ h' _ (.lst ys) from⟨hz,its,c',r',e⟩),rfl,q _ (I.hok.fresh (Pt _))⟩
 rcases hq with hq | hq
 ·obtain⟨its,r',pl,hz⟩:=I.list hq;have hlen:=r'.length;obtain⟨o,ho,hc,n,hd⟩:=pl.isList;exact call_list_seq p (.inl rfl) ho hc hd (λh' c' kp e=>fin its r' hz h' c' kp e) (by simp only[Pn] <;> omega)
 ·obtain⟨its,r',pl,hz⟩:=I.tuple hq;have hlen:=r'.length;obtain⟨o,ho,hc,n,hd⟩:=pl;exact call_list_seq p (.inr rfl) ho hc hd (λh' c' kp e=>fin its r' hz h' c' kp e) (by simp only[Pn] <;> omega)
def gj:eG X (.type "tuple") (λxs H Q=>∃p ys,xs=[.ref p]/\((c6 X.K H p ys/\∀l,H l=none->Q (.ref l) (upd H l (.tup ys)))\/(ek X.K H p ys/\Q (.ref p) H))):=by
 intro pins s σ H xs us Q I r h;obtain⟨p,ys,rfl,h⟩:=h;obtain⟨u,rfl,rx⟩:=vals1 r;cases rx;rcases h with ⟨hq,q⟩ | ⟨hq,q⟩
 ·obtain⟨its,r',pl,hz⟩:=I.list hq;have hlen:=r'.length;refine call_tuple_list pl.isList (λh' kp=>?_) (by simp only[Pn] <;> omega);have I1:Inv X pins σ H {s with heap:=h'}:=I.kept (t':=s.toks) kp;have I2:Inv X pins σ (upd H h'.objs.size (.tup ys)) {s with heap:=h'.push {cls:= .type "tuple",data:= .seq its.toArray}}:=
   I1.laid (t':=s.toks) (λb o e=>Pk _ e) (Pt _) (show bO X.prog X.w _ _ _ (.tup ys) from⟨hz,its,r',IsTup.new _ _⟩)
  exact⟨.ref h'.objs.size,_,I2,rfl,q _ (I1.hok.fresh (Pt _))⟩
 ·obtain⟨its,r',pl,hz⟩:=I.tuple hq;exact call_tuple_same pl ⟨.ref p,H,I,rfl,q⟩
def La (K:PySem.W.Frag) (T:String) (x:V) (H:Hp):Prop:=match x with
 | .str _=>T="str"
 | .int _=>T="int"
 | .ref p=>(T="list"/\∃xs,c6 K H p xs)\/(T="tuple"/\∃o,K.lookup p=some o/\o.cls= .type "tuple"/\o.dict=none)\/
   (T="dict"/\((∃eL,H p=some (.dK eL))\/∃eL,H p=some (.dT eL)))\/(T="set"/\∃S n,H p=some (.set S n))
 | _=>False
def xt {pins:List (Addr×Obj)} {σ:St} {H:Hp} {s:Shared} {T:String} {x:V} {v:Value} (I:Inv X pins σ H s) (r:RelV x v) (ty:La X.K T x H):
  s.TypeIs v T/\∀a,v= .ref a->∃ob,s.heap.get? a=some ob/\ob.dict=none:=by
 cases x with
 | str z=>obtain⟨t,rfl⟩:=r;cases (show T="str" from ty);exact⟨typeIs_str s z t,λ_ e=>nomatch e⟩
 | int i=>obtain⟨t,rfl⟩:=r;cases (show T="int" from ty);exact⟨typeIs_int s i t,λ_ e=>nomatch e⟩
 | ref p=>
  cases r;rcases ty with ⟨rfl,xs,hq⟩ | ⟨rfl,o,hk,hc,hd⟩ | ⟨rfl,hk⟩ | ⟨rfl,S,n,hk⟩
  ·obtain⟨its,_,pl,_⟩:=I.list hq;refine⟨pl.isList.typeIs,λa e=>?_⟩;cases e;obtain⟨o,n,e,c,hd,_⟩:=pl;exact⟨o,e,hd⟩
  ·refine⟨⟨o,I.pH p o hk,hc⟩,λa e=>?_⟩;cases e;exact⟨o,I.pH _ o hk,hd⟩
  ·have z:∃o,s.heap.get? p=some o/\o.ExactDict:=by
    rcases hk with ⟨eL,hk⟩ | ⟨eL,hk⟩
    ·obtain⟨_,_,_,_,o,_,_,e,ex,_⟩:=I.hok p _ hk;exact⟨o,e,ex⟩
    ·obtain⟨_,_,_,_,o,_,_,e,ex,_⟩:=I.hok p _ hk;exact⟨o,e,ex⟩
   obtain⟨o,e,ex⟩:=z;refine⟨⟨o,e,ex.1⟩,λa e2=>?_⟩;cases e2;exact⟨o,e,ex.2.1⟩
  ·obtain⟨o,_,_,_,e,ex,_⟩:=I.hok p _ hk;refine⟨⟨o,e,ex.1⟩,λa e2=>?_⟩;cases e2;exact⟨o,e,ex.2.1⟩
 | _=>exact False.elim ty
def Ge (K:PySem.W.Frag) (T:String) (r:V->List V->Hp->VK->Prop) (to:TE):TE:=λσ H Q=>to σ H λx H1=>La K T x H1/\r x [] H1 Q
def Ki (K:PySem.W.Frag) (T:String) (r:V->List V->Hp->VK->Prop) (to:TE) (t:TA):TE:=λσ H Q=>to σ H λx H1=>La K T x H1/\t σ H1 λxs H2=>r x xs H2 Q
variable {o e:Expr} {es:List Expr} {to:TE} {t:TA} {name:Str} {apos eX:Pos} {T id:String} {r:V->List V->Hp->VK->Prop}
def DS (pa:PlainAttrs T) (slot:Slot T name id) (Ld:typeOf (.builtin id)=pure (.type "method_descriptor")) (hm:M0 X id r) (ho:PE X o to)
  (yc:attributeBase o name X.env (eval o X.env)=eval o X.env:=by rfl) (zc:(apos.endLine==eX.line)=true:=by rfl):PE X (.Call (.Attribute o name apos) [] [] eX) (Ge X.K T r to):=by
 intro pins s σ H Q I h;refine wpAny_Call_method0_late yc zc (bw (ho pins s σ H _ I h) λv s1 ⟨x,H1,I1,r1,ty,q1⟩=>?_);obtain⟨h1,h2⟩:=xt I1 r1 ty;exact⟨T,id,pa,slot,Ld,h1,h2,Calls.callWith_builtin rfl (PySem.evalArgs_none (hm pins s1 σ H1 x [] v [] Q I1 r1 .nil q1))⟩
def Cc (pa:PlainAttrs T) (slot:Slot T name id) (Ld:typeOf (.builtin id)=pure (.type "method_descriptor")) (hm:M0 X id r) (ho:PE X o to) (ha:PA X (e::es) t)
  (yc:attributeBase o name X.env (eval o X.env)=eval o X.env:=by rfl)
  (LY:((backTo eX (starEach (e::es) X.env)).all (λx=> !x.1)&&(backToKw eX (keywordEach [] X.env)).all (λx=>x.1.isSome)
   &&decide ((e::es).length + ([]:List Keyword).length + (if ([]:List Keyword).isEmpty then 0 else 1) < 30))=true:=by rfl)
  (zc:(apos.endLine==eX.line)=true:=by rfl) (hs:starEach (e::es) X.env=(false,eval e X.env)::starEach es X.env:=by rfl) (Di:(backTo eX (starEach es X.env)).any (·.1)=false:=by rfl):
  PE X (.Call (.Attribute o name apos) (e::es) [] eX) (Ki X.K T r to t):=by
 intro pins s σ H Q I h;refine wpAny_Call_method_late yc LY zc rfl (bw (ho pins s σ H _ I h) λv s1 ⟨x,H1,I1,r1,ty,q1⟩=>?_);obtain⟨h1,h2⟩:=xt I1 r1 ty;refine⟨T,id,pa,slot,Ld,h1,h2,?_⟩;have hA:=ha eX pins s1 σ H1 _ I1 q1;rw[hs] at hA ⊢;refine Calls.callWith_builtin (by show (false||(backTo eX (starEach es X.env)).any (·.1))=false;rw[Di] <;> rfl) (Calls.evalArgs_plain ?_);exact bw hA λus s2 ⟨vs,H2,I2,r2,q2⟩=>hm pins s2 σ H2 x vs v us Q I2 r1 r2 q2
end
end L2
namespace L2
open PySem PySem.Spec PyProof.Rows
def IK (X:Cx) (id:String) (r:V->List V->Hp->VK->Prop):Prop:=
 ∀(pins:List (Addr×Obj)) (s:Shared) (σ:St) (H:Hp) (x:V) (xs:List V) (v:Value) (us:List Value) (Q:VK),Inv X pins σ H s->RelV x v->aw xs us->r x xs H Q->
  wpAny (model X.prog X.w) X.A (call (.builtin id) (v::us)) (EP X pins σ Q) X.xe s
def aw.one:∀{x:V} {us:List Value},aw [x] us->∃u,us=[u]/\RelV x u
 | _,_,.cons r .nil=>⟨_,rfl,r⟩
def aw.two:∀{x y:V} {us:List Value},aw [x,y] us->∃u v,us=[u,v]/\RelV x u/\RelV y v
 | _,_,_,.cons r (.cons q .nil)=>⟨_,_,rfl,r,q⟩
def aw.zero:∀{us:List Value},aw [] us->us=[]
 | _,.nil=>rfl
def aw.dropLast {xs:List V} {us:List Value} (h:aw xs us):aw xs.dropLast us.dropLast:=by
 induction h with
 | nil=>exact .nil
 | cons r t ih=>
  cases t with
  | nil=>exact .nil
  | cons q t'=>exact .cons r ih
def aw.rep {xs:List V} {us:List Value} (h:aw xs us):∀k:Nat,aw (List.replicate k xs).flatten (List.replicate k us).flatten
 | 0=> .nil
 | k + 1=>by rw[List.replicate_succ,List.replicate_succ,List.flatten_cons,List.flatten_cons];exact aw.append h (aw.rep h k)
def qE {α:Type} (l:List α):l.eraseIdx (l.length - 1)=l.dropLast:=by grind
def foldl_rep (its:List Value):∀(k:Nat) (acc:List Value),
  List.foldl (λx1 x2=>x1++x2) acc.toArray (List.replicate k its.toArray)=(acc++(List.replicate k its).flatten).toArray
 | 0,acc=>by simp
 | k + 1,acc=>by
  have e:acc.toArray++its.toArray=(acc++its).toArray:=by simp
  have e2:(acc++its)++(List.replicate k its).flatten=acc++(List.replicate (k + 1) its).flatten:=by rw[List.replicate_succ,List.flatten_cons,PF]
  rw[<-e2,<-foldl_rep its k (acc++its),<-e,List.replicate_succ,List.foldl_cons]
section
variable {X:Cx} {pins:List (Addr×Obj)} {σ:St} {H:Hp} {s:Shared} {l b:Addr} {xs ys zs:List V}
def Inv.AC {its its':List Value} {n:Nat} {f:Array Value->Array Value} {t':Nat} (I:Inv X pins σ H s) (hH:H l=some (.lst xs))
  (e:s.heap.get? l=some {cls:= .type "list",data:= .seq its.toArray n}) (hf:f its.toArray=its'.toArray) (hv:aw ys its') (hz:ys.length<=sizeLine):
  Inv X pins σ (upd H l (.lst ys)) {s with heap:=s.heap.update l (Obj.mapSeq f),toks:=t'}:=by
 have q:=PySem.IsL.update e f;rw[hf] at q;refine I.write (x:=l) (e:=l) (by rw[hH];exact trivial) (.inl rfl) (λb' u hb hu=>(P1 s.heap (Obj.mapSeq f) (Ne.symm hb)).trans hu) ⟨_,q⟩ ?_;exact⟨hz,its',_,hv,q⟩
def Inv.DE {its:List Value} {t':Nat} (I:Inv X pins σ H s) (hv:aw ys its) (hz:ys.length<=sizeLine):
  Inv X pins σ (upd H s.heap.objs.size (.lst ys)) {s with heap:=s.heap.push {cls:= .type "list",data:= .seq its.toArray},toks:=t'}:=
 I.laid (λ_ _ q=>Pk _ q) (Pt _) ⟨hz,its,0,hv,Pv _ rfl⟩
def Inv.fresh (I:Inv X pins σ H s):H s.heap.objs.size=none:=I.hok.fresh (Pt _)
def Inv.pF (I:Inv X pins σ H s) (hH:H l=some (.lst xs)):xs.length<=sizeLine/\∃(its:List Value) (n:Nat),aw xs its/\xs.length=its.length/\s.heap.get? l=some {cls:= .type "list",data:= .seq its.toArray n}:=by obtain⟨z,its,n,r,e⟩:=I.hok l _ hH;exact⟨z,its,n,r,r.length,e⟩
def pR {n:Nat} (h:n<=sizeLine):Builtin.List.listTooLong n=false:=by unfold Builtin.List.listTooLong;exact PY (by omega)
end
section
variable {X:Cx}
def ua:V->List V->Hp->VK->Prop:=λx vs H Q=>∃l xs y,x= .ref l/\vs=[y]/\H l=some (.lst xs)/\xs.length < sizeLine/\Q .bo (upd H l (.lst (xs++[y])))
def mz:IK X "list.append" ua:=by intro pins s σ H x vs v us Q I rx rv h;obtain⟨l,xs,y,rfl,rfl,hH,hz,q⟩:=h;cases rx;obtain⟨u,rfl,ru⟩:=rv.one;obtain⟨z,its,n,r,hl,e⟩:=I.pF hH;refine call_meets F.slot_list_append ⟨_,e,rfl⟩ F.entry_list_append (F.args_list_append_2 _ _) (PySem.list_append l its.toArray n u (by rw[Pn];omega)) ⟨e,?_⟩;refine⟨.bo,_,I.AC (its':=its++[u]) hH e (by simp) (r.append (.cons ru .nil)) ?_,rfl,q⟩;rw[PJ,List.length_singleton];omega
def uk:V->List V->Hp->VK->Prop:=λx vs H Q=>∃l b xs zs,x= .ref l/\vs=[.ref b]/\H l=some (.lst xs)/\H b=some (.lst zs)/\xs.length + zs.length<=sizeLine/\Q .bo (upd H l (.lst (xs++zs)))
def uU:IK X "list.extend" uk:=by
 intro pins s σ H x vs v us Q I rx rv h;obtain⟨l,b,xs,zs,rfl,rfl,hH,hB,hz,q⟩:=h;cases rx;obtain⟨u,rfl,ru⟩:=rv.one;cases ru;obtain⟨z,its,n,r,hl,e⟩:=I.pF hH;obtain⟨z2,aJ,n2,r2,cX,e2⟩:=I.pF hB;have ib:its.toArray.size + aJ.toArray.size<=sizeLine:=by rw[Pn,Pn];omega
 have vW:¬(!its.toArray.isEmpty&&Builtin.List.listTooLong (its.toArray.size + aJ.toArray.size))=true:=by rw[pR ib,Bool.and_false];exact Bool.false_ne_true
 refine call_meets F.slot_list_extend ⟨_,e,rfl⟩ F.entry_list_extend (F.args_list_extend_2 _ _)
  (AutoSeq1.list_extend_list_list_0 l its.toArray n b aJ.toArray n2 vW (by rw[Pn];omega) (by omega)) ⟨e,e2,?_⟩
 refine⟨.bo,_,I.AC (its':=its++aJ) hH e (by simp) (r.append r2) ?_,rfl,q⟩;rw[PJ];omega
def K3:V->List V->Hp->VK->Prop:=λx vs H Q=>∃l xs y,x= .ref l/\vs=[]/\H l=some (.lst xs)/\xs[xs.length - 1]?=some y/\Q y (upd H l (.lst xs.dropLast))
def Kk:IK X "list.pop" K3:=by
 intro pins s σ H x vs v us Q I rx rv h;obtain⟨l,xs,y,rfl,rfl,hH,hy,q⟩:=h;cases rx;have wC:=rv.zero;subst wC;obtain⟨z,its,n,r,hl,e⟩:=I.pF hH;obtain⟨u,hu,ru⟩:=r.get hy;have MD:its.toArray[its.toArray.size - 1]?=some u:=by show its.toArray[its.length - 1]?=some u;rw[<-Array.getElem?_toList,<-hl];exact hu
 refine call_meets F.slot_list_pop ⟨_,e,rfl⟩ F.entry_list_pop (F.args_list_pop_1 _) (MeetsSeq.list_pop_last l its.toArray n u MD (by rw[Pn];omega)) ⟨e,?_⟩;refine⟨y,_,I.AC (its':=its.dropLast) hH e ?_ r.dropLast ?_,ru,q⟩
 ·show its.toArray.eraseIdxIfInBounds (its.toArray.size - 1)=its.dropLast.toArray;rw[Pn,List.eraseIdxIfInBounds_toArray,qE]
 ·rw[List.length_dropLast];omega
def xN:V->List V->Hp->VK->Prop:=λx vs H Q=>∃l xs,x= .ref l/\vs=[]/\H l=some (.lst xs)/\Q .bo (upd H l (.lst []))
def yD:IK X "list.clear" xN:=by intro pins s σ H x vs v us Q I rx rv h;obtain⟨l,xs,rfl,rfl,hH,q⟩:=h;cases rx;have wC:=rv.zero;subst wC;obtain⟨z,its,n,r,hl,e⟩:=I.pF hH;refine call_meets F.slot_list_clear ⟨_,e,rfl⟩ F.entry_list_clear (F.args_list_clear_1 _) (AutoSeq1.list_clear_list_0 l its.toArray n (by rw[Pn];omega)) ⟨e,?_⟩;exact⟨.bo,_,I.AC (its':=[]) (ys:=[]) hH e rfl .nil (Nat.zero_le _),rfl,q⟩
def LJ:R2:=λx y H Q=>∃l b xs zs,x= .ref l/\y= .ref b/\H l=some (.lst xs)/\H b=some (.lst zs)/\xs.length + zs.length<=sizeLine/\∀p,H p=none->Q (.ref p) (upd H p (.lst (xs++zs)))
def fJ:kZ X (binaryOp .Add) LJ:=by
 intro pins s σ H x y v u Q I rx ry h;obtain⟨l,b,xs,zs,rfl,rfl,hH,hB,hz,q⟩:=h;cases rx;cases ry;obtain⟨z,its,n,r,hl,e⟩:=I.pF hH;obtain⟨z2,aJ,n2,r2,cX,e2⟩:=I.pF hB;refine PySem.P.add_list e e2 ?_ (by rw[Pn,Pn];omega);have ea:its.toArray++aJ.toArray=(its++aJ).toArray:=by simp
 rw[ea];exact⟨.ref _,_,I.DE (t':=s.toks) (r.append r2) (by rw[PJ];omega),rfl,q _ I.fresh⟩
def LD:R2:=λx y H Q=>∃l k xs,x= .ref l/\y= .int k/\H l=some (.lst xs)/\ -(2 ^ 63)<=k/\k < 2 ^ 63/\xs.length * k.toNat<=sizeLine/\
 ∀p,H p=none->Q (.ref p) (upd H p (.lst (List.replicate k.toNat xs).flatten))
def len_rep {α:Type} (xs:List α) (k:Nat):(List.replicate k xs).flatten.length=k * xs.length:=by simp_all
def CC:kZ X (binaryOp .Mult) LD:=by
 intro pins s σ H x y v u Q I rx ry h;obtain⟨l,k,xs,rfl,rfl,hH,h1,h2,hz,q⟩:=h;cases rx;obtain⟨t,rfl⟩:=ry;obtain⟨z,its,n,r,hl,e⟩:=I.pF hH;have hlen:its.toArray.size * k.toNat<=sizeLine:=by rw[Pn,<-hl];exact hz
 have KB:¬its.toArray.size * k.toNat > (2 ^ 63 - 1) / 8:=by
  have:(sizeLine:Nat)<=(2 ^ 63 - 1) / 8:=by decide
  omega
 have Lv:¬(!Builtin.List.listFitsIndex k)=true:=by rw[fitsIndex_both h1 h2];exact Bool.false_ne_true
 have vW:¬Builtin.List.listTooLong (its.toArray.size * k.toNat)=true:=by rw[pR hlen];exact Bool.false_ne_true
 have zB:List.foldl (λx1 x2=>x1++x2) #[] (List.replicate (if its.toArray.isEmpty=true then 0 else k.toNat) its.toArray)=(List.replicate k.toNat its).flatten.toArray:=by
  have f0:∀m:Nat,List.foldl (λx1 x2=>x1++x2) #[] (List.replicate m its.toArray)=(List.replicate m its).flatten.toArray:=λm=>by have:=foldl_rep its m [];rw[List.nil_append] at this;exact this
  rw[f0];cases its with
  | nil=>simp
  | cons a r'=>rw[if_neg (by simp)]
 refine wpAny_binaryOp_repeat_ref (T:="list") (U:="int") (by decide) ⟨_,e,rfl⟩ (λs'=>typeIs_int s' k t) noFill_list_mul F.fills_int_mul F.slot_int_rmul repeat_list F.slot_int_index.lookup
  (call_meets F.slot_int_rmul (typeIs_int s k t) F.entry_int_rmul (F.args_int_rmul_2 _ _) (int___rmul___int_list k t l its.toArray n)
   ⟨e,rfl,⟨_,e,rfl⟩,call_meets F.slot_list_mul ⟨_,e,rfl⟩ F.entry_list_mul (F.args_list_mul_2 _ _) (AutoListH.list___mul___list_int_3 l its.toArray n k t Lv KB vW) ⟨e,?_⟩⟩)
 rw[zB];exact⟨.ref _,_,I.DE (t':=s.toks) (r.rep k.toNat) (by rw[len_rep,Nat.mul_comm];exact hz),rfl,q _ I.fresh⟩
end
end L2
namespace Att
open PySem PySem.W PySem.Calls PyProof.Rows
def jf {P:Params} {h:Heap}:∀(ns:List Int) (vs:List Value),WellAll P h vs (ns.map WData.int)->IntsAre vs ns:=by
 intro ns
 induction ns with
 | nil=>intro vs w;rw[List.map_nil] at w;cases w;exact .nil
 | cons n ns ih=>
  intro vs w;rw[Qh] at w;cases w with
  | cons a b=>cases a;exact .cons _ _ (ih _ b)
def vo {l:OpenLaw} {n:Nat} (hn:l.most=some n) {P:Params} {h:Heap} {args:List WData} {vals:List Value}
  (zR:l.row.toRowW.claim.pre args=true) (E5:WellAll P h vals args):
  ∃a vs ns,vals=[Value.ref a]/\args=[WData.list (ns.map WData.int)]/\h.get? a=some {cls:= .type "list",data:= .seq vs.toArray}/\IntsAre vs ns/\ns.length<=n:=by
 have Om:WShape.hasAll [] args [.list .int]=true:=(pre_splitW zR).1;have hc:l.pre.holds [] {args:=args}=true:=(pre_splitW zR).2;obtain⟨d,r,rfl,h1,h2⟩:=hasAllW_cons Om;obtain rfl:=hasAllW_nil h2;obtain⟨xs,rfl,h3⟩:=hasW_list h1;obtain⟨ns,rfl⟩:=items_int h3;have hlen:ns.length<=n:=by
  unfold OpenLaw.pre at hc;have h4:(WTm.not (.lt (.lit (.int (n:Int))) (.len (.arg 0)))).holds [] {args:=[.list (ns.map .int)]}=true:=by have h4:=(holds_andW hc).1;rw[hn] at h4;exact h4
  have h5:=condW_of h4 (w_not (w_lt w_lit (w_len_list (w_arg rfl))));rw[Px] at h5;refine Nat.le_of_not_lt λq=>?_
  have q':(n:Int) < ((ns.length:Nat):Int):=by omega
  first
   | (rw[P3 q'] at h5;exact absurd h5 (by decide))
   | (simp at h5;omega)
 cases E5 with
 | cons w1 w2=>
  cases w2;cases w1 with
  | list ho hall=>exact⟨_,_,ns,rfl,rfl,ho,jf ns _ hall,hlen⟩
def vi (l:OpenLaw) (args:List WData):l.row.toRowW.claim.post args (.bool true) args=true:=
 postW_of (r:=l.row.toRowW) (X:=(true==true))
  (show WShape.has [] (.bool true) .bool=true by first | rfl | decide | simp[WShape.has,WShape.arms,WShape.armsAll])
  (show (WTm.eq .res (.lit (.bool true))).value [] {args:=args,res:=some (.bool true),after:=args}=some (.bool (true==true)) from w_eq_bool (w_res rfl) w_lit) rfl
def p6 {l:OpenLaw} {n:Nat} {q:Program} {loose:List Str} {XP:(Str->Option Value)->Heap->Prop} {YP:World->Heap->Prop} {d:DefRec}
  (hn:l.most=some n) (FW:d.params.defaults=[])
  (call:∀(w:World) (s₀ s₁:Shared) (mg mb:Str->Option Value) (fa:Addr) (o:Obj) (pm cd doc:Value) (a:Addr) (vs:List Value) (ns:List Int),
   Ground q loose [] XP w s₀ mg mb s₁.heap->YP w s₁.heap->
   s₁.heap.get? fa=some o->o.data= .func (docDef d.name d.params d.body d.scope pm cd doc)->s₁.heap.CodeRec cd d.name->mg d.name=some (.ref fa)->
   s₁.heap.get? a=some {cls:= .type "list",data:= .seq vs.toArray}->IntsAre vs ns->ns.length<=n->s₁.gens=#[]->
   codeAny (model l.prog w) callerA (.call (.ref fa) ⟨[.ref a],[]⟩) (λr s'=>r= .ok (.ret (.bool true))/\OldK s₁.heap s'.heap/\s'.os=s₁.os/\AllBare s'.gens) s₁):
  WalkO q loose XP YP l.row.toRowW d [] (λf vs=>PySem.call f vs):=by
 intro w s₀ s₁ mg mb G Y fa o pm cd doc dV kV ho hd zm hD hmg hg args vals as zR hlay hrd E5 n0;obtain rfl:dV= .none:=Dflts.none hD FW;obtain rfl:kV= .none:=Dflts.noKw hD;obtain⟨a,vs,ns,rfl,rfl,CU,hints,hlen⟩:=vo hn zR E5;refine enter_call (codeAny_mono (call w s₀ s₁ mg mb fa o pm cd doc a vs ns G Y ho (fd_plain hd) zm hmg CU hints hlen hg) λr s' hq=>?_);obtain⟨rfl,h2,h3,h4⟩:=hq;exact⟨.inl ⟨.bool true,.bool true,[],rfl,λ_=>rfl,.bool true,vi l _,λ_=>⟨List.Pairwise.nil,λ_ hm=>(nomatch hm)⟩⟩,h2,h3,h4⟩
end Att
namespace L2
open PySem PySem.Spec PyProof.Rows
def lO:∀{vs:List Value} {ns:List Int},IntsAre vs ns->aw (ns.map V.int) vs
 | _,_,.nil=> .nil
 | _,_,.cons n t h=> .cons ⟨t,rfl⟩ (lO h)
def EI (H:Hp):Prop:=∀b,H b=none\/∃o xs,H b=some (.sP o (.lst xs))
def xE {P:Program} {w:World} {K:PySem.W.Frag} {mg mb:Str->Option Value} {CX:j9} {k:Nat} {fa a:Addr} {fd:FuncData} {x:Str} {sp:Sp} {s₁:Shared} {vs:List Value} {ns:List Int}
  (KX:K.In s₁.heap) (B3:s₁.heap.Ns mainGlobals mg) (hb:s₁.heap.Ns builtinsNs mb) (oE:∀x:Str,x≠"__name__"->mb x=bootBuiltins x) (dN:s₁.heap.NoLimit) (hg:s₁.gens=#[])
  (ha:s₁.heap.get? a=some {cls:= .type "list",data:= .seq vs.toArray}) (hi:IntsAre vs ns) (hl:ns.length<=sizeLine) (hr:iz k callerA)
  (F:∀base:Heap,K.In base->base.Ns mainGlobals mg->iO P w K mg base CX k fa fd [x] sp) (Hq:∀(s:Shared) (u:Value),BindsTo s fd ⟨[u],[]⟩ [(x,u)])
  (oq:∀H:Hp,EI H->c6 K H a (ns.map V.int)->sp [.ref a] H (λv _=>v= .bl true) λ_ _ _=>False)
  (JY:∀H e s',CX [] H s₁ (λ_ _ _=>False) e s'->False):
  codeAny (model P w) callerA (.call (.ref fa) ⟨[.ref a],[]⟩) (λr s'=>r= .ok (.ret (.bool true))/\OldK s₁.heap s'.heap/\s'.os=s₁.os/\AllBare s'.gens) s₁:=by
 have rv:=lO hi;have K9:=hi.length;have core:∀H:Hp,EI H->c6 K H a (ns.map V.int)->eh P w H s₁.heap->(∀b,H b≠none->b=a)->(H a≠none->K.lookup a=none)->
   codeAny (model P w) callerA (.call (.ref fa) ⟨[.ref a],[]⟩) (λr s'=>r= .ok (.ret (.bool true))/\OldK s₁.heap s'.heap/\s'.os=s₁.os/\AllBare s'.gens) s₁:=by
  intro H hO hS hok hA hK;have uy:∀{b:Addr} {o:Obj},s₁.heap.get? b=some o->H b=none->(nq s₁.heap H).get? b=some o:=λe n=>xJ e n
  have G9:∀{b:Addr} {o:Obj} {es:Array DictEntry} {ep:Nat},s₁.heap.get? b=some o->o.data= .dict es ep->H b=none:=λ {b o es ep} e d=>by
   cases q:H b with
   | none=>rfl
   | some u=>have e':b=a:=hA b (by rw[q];simp);subst e';rw[ha] at e;cases e;have d':Data.seq vs.toArray _=Data.dict es ep:=d;cases d'
  have Ip:∀{b:Addr} {m:Str->Option Value},s₁.heap.Ns b m->(nq s₁.heap H).Ns b m:=λ {b m} ⟨o,es,ep,e,d,r⟩=>⟨o,es,ep,uy e (G9 e d),d,r⟩
  have Mh:K.In (nq s₁.heap H):=λb o e=>uy (KX b o e) (by
   cases q:H b with
   | none=>rfl
   | some u=>
    have e':b=a:=hA b (by rw[q];simp);subst e';rw[hK (by rw[q];simp)] at e;cases e)
  have hM:Mod K mg (nq s₁.heap H):=⟨Mh,Ip B3,⟨mb,Ip hb,oE⟩,let ⟨mc,h1,h2⟩:=dN;⟨mc,Ip h1,h2⟩⟩;have e0:AV P w K mg (nq s₁.heap H) callerA [] s₁ H:=⟨rfl,hM,λb o e=>Bh e,Nat.le_of_eq (uV _ _),trivial,λb hb=>absurd (show b∈([]:List Addr) from hb) (by simp),hok,.of_eq hg⟩;refine codeAny_mono ((F _ Mh (Ip B3)).run callerA [] s₁ H ⟨[.ref a],[]⟩ [.ref a] [.ref a] _ _ hr e0 (Hq s₁ (.ref a)) (.cons rfl .nil) (oq H hO hS)) λr s' h=>?_
  cases r with
  | error e=>exact(JY H e s' h).elim
  | ok fl=>
   cases fl with
   | next=>exact False.elim h
   | brk=>exact False.elim h
   | cont=>exact False.elim h
   | ret u=>
    obtain⟨v,H',os,bare,un,Bf,r',q⟩:=h;have q':v= .bl true:=q;subst q';obtain rfl:u=Value.bool true:=r';refine⟨rfl,OldK.of_keep λb o e=>?_,os,bare⟩;cases q:H b with
    | none=>exact un.keep b o e q (by intro z;exact absurd (show b∈([]:List Addr) from z) (by simp)) (by simp)
    | some u=>
     rcases hO b with z | ⟨ob,xs,z⟩
     ·rw[q] at z;cases z
     ·have z2:=un.frzs b ob _ z;obtain⟨e1,_⟩:=hok b _ z;obtain⟨e2,_⟩:=Bf b _ z2;rw[e] at e1;cases e1;exact e2
 cases hk:K.lookup a with
 | some o=>have e:=KX a o hk;rw[ha] at e;cases e;refine core (λ_=>none) (λ_=> .inl rfl) (.inr ⟨_,vs.toArray,_,hk,rfl,rfl,rfl,by rw[Pn,K9];exact hl,by simpa using rv⟩) (λb u z=>by have z':(none:Option HO)=some u:=z;cases z') (λb z=>absurd rfl z) λz=>absurd rfl z
 | none=>
  refine core (λb=>if b=a then some (.sP {cls:= .type "list",data:= .seq vs.toArray} (.lst (ns.map V.int))) else none) (λb=>?_) (.inl (.inr ⟨{cls:= .type "list",data:= .seq vs.toArray},if_pos rfl⟩)) (λb u z=>?_) (λb z=>?_) λ_=>hk
  ·by_cases hb:b=a
   ·exact .inr ⟨_,_,if_pos hb⟩
   ·exact .inl (if_neg hb)
  ·by_cases hb:b=a
   ·have z':=(if_pos hb).symm.trans z;cases z';subst hb;exact⟨ha,by rw[Px];exact hl,vs,_,rv,ha⟩
   ·have z':=(if_neg hb).symm.trans z;cases z'
  ·by_cases hb:b=a
   ·exact hb
   ·exact absurd (if_neg hb) z
end L2
namespace L2
open PySem PySem.Spec PyProof.Rows
def AU {l:PySem.W.OpenLaw} {n k:Nat} {q:Program} {loose:List Str} {XP:(Str->Option Value)->Heap->Prop} {YP:World->Heap->Prop} {d:DefRec} {K:Params->PySem.W.Frag} {CX:World->j9} {sp:World->Sp} {x:Str}
  (hn:l.most=some n) (kW:n<=sizeLine) (FW:d.params.defaults=[]) (hr:iz k callerA)
  (hY:∀(w:World) (h:Heap),YP w h->(K w.params).In h)
  (F:∀(w:World) (mg:Str->Option Value) (fa:Addr) (h:Heap),(K w.params).In h->h.Ns mainGlobals mg->mg d.name=some (.ref fa)->
   ∃fd:FuncData,(∀(s:Shared) (u:Value),BindsTo s fd ⟨[u],[]⟩ [(x,u)])/\
    ∀base:Heap,(K w.params).In base->base.Ns mainGlobals mg->iO l.prog w (K w.params) mg base (CX w) k fa fd [x] (sp w))
  (oq:∀(w:World) (H:Hp) (a:Addr) (ns:List Int),ns.length<=n->EI H->c6 (K w.params) H a (ns.map V.int)->sp w [.ref a] H (λv _=>v= .bl true) λ_ _ _=>False)
  (JY:∀(w:World) (H:Hp) (s:Shared) (e:Value) (s':Shared),CX w [] H s (λ_ _ _=>False) e s'->False):
  PySem.W.WalkO q loose XP YP l.row.toRowW d [] (λf vs=>PySem.call f vs):=by
 refine Att.p6 hn FW λw s₀ s₁ mg mb fa o pm cd doc a vs ns G Y ho hd zm hmg CU hints hlen hg=>?_
 have KX:=hY w _ Y;obtain⟨fd,hb,hF⟩:=F w mg fa _ KX G.T.g hmg;exact xE KX G.T.g G.T.b G.T.builtins G.T.nolimit hg CU hints (Pz hlen kW) hr hF hb (λH hO hS=>oq w H a ns hlen hO hS) λH e s'=>JY w H s₁ e s'
end L2
namespace L2
open PySem PySem.Spec PyProof.Rows
def mH (s:Stmt):Arguments:=match s with
 | .FunctionDef _ a _ _ _ _ _ _ _ _=>a
 | _=>{posonlyargs:=[],args:=[],vararg:=none,kwonlyargs:=[],kw_defaults:=[],kwarg:=none,defaults:=[]}
def g0 (s:Stmt):List Stmt:=match s with
 | .FunctionDef _ _ b _ _ _ _ _ _ _=>b
 | _=>[]
def bp (s:Stmt):Scope:=match s with
 | .FunctionDef _ _ _ _ _ _ sc _ _ _=>sc
 | _=>{kind:= .function,names:=[],isGenerator:=false,isCoroutine:=false}
def G2 {A B:Prop} (h:B):if false=true then A else B:=by rw[if_neg Bool.false_ne_true];exact h
def FY {A B:Prop} (h:A):if true=true then A else B:=by rw[if_pos rfl];exact h
def bu (H H':Hp):Prop:=∀b o,H b=some o->H' b=some o
def bu.refl (H:Hp):bu H H:=λ_ _ h=>h
def bu.trans {H H1 H2:Hp} (a:bu H H1) (b:bu H1 H2):bu H H2:=λc o h=>b c o (a c o h)
end L2
end
section
namespace Mx
open PySem PyProof.Rows
inductive D where
 | int (i:Int)
 | str (x:Str)
 | tup (ds:List D)
mutual
def D.gh:D->D->Bool
 | .int i,.int j=>i==j
 | .str x,.str y=>x==y
 | .tup a,.tup b=>D.eqs a b
 | _,_=>false
def D.eqs:List D->List D->Bool
 | [],[]=>true
 | x::xs,y::ys=>D.gh x y&&D.eqs xs ys
 | _,_=>false
end
mutual
def D.lt:D->D->Bool
 | .int i,.int j=>decide (i < j)
 | .int _,_=>true
 | .str _,.int _=>false
 | .str x,.str y=>decide (x.cps.toList < y.cps.toList)
 | .str _,.tup _=>true
 | .tup a,.tup b=>D.eO a b
 | .tup _,_=>false
def D.eO:List D->List D->Bool
 | [],[]=>false
 | [],_::_=>true
 | _::_,[]=>false
 | x::xs,y::ys=>if D.gh x y=true then D.eO xs ys else D.lt x y
end
mutual
theorem D.cZ:∀a b:D,D.gh a b=true↔a=b
 | .int i,.int j=>by simp[D.gh]
 | .str x,.str y=>by simp[D.gh]
 | .tup a,.tup b=>by simp only[D.gh,D.tup.injEq];exact D.tw a b
 | .int _,.str _=>by simp[D.gh]
 | .int _,.tup _=>by simp[D.gh]
 | .str _,.int _=>by simp[D.gh]
 | .str _,.tup _=>by simp[D.gh]
 | .tup _,.int _=>by simp[D.gh]
 | .tup _,.str _=>by simp[D.gh]
theorem D.tw:∀a b:List D,D.eqs a b=true↔a=b
 | [],[]=>by simp[D.eqs]
 | [],_::_=>by simp[D.eqs]
 | _::_,[]=>by simp[D.eqs]
 | x::xs,y::ys=>by simp only[D.eqs,Pm,List.cons.injEq];rw[D.cZ x y,D.tw xs ys]
end
instance:DecidableEq D:=λa b=>if h:D.gh a b=true then isTrue ((D.cZ a b).mp h) else isFalse λe=>h ((D.cZ a b).mpr e)
def D.hJ (a b:D):D.gh a b=decide (a=b):=by rw[Bool.eq_iff_iff,D.cZ];simp
def D.dc (x y:D) (xs ys:List D):D.eO (x::xs) (y::ys)=if x=y then D.eO xs ys else D.lt x y:=by grind [D.eO,D.cZ,D]
mutual
def D.lt_irrefl:∀a:D,D.lt a a=false
 | .int i=>by simp[D.lt]
 | .str x=>by simp only[D.lt];exact strKind.irrefl _
 | .tup a=>by simp only[D.lt];exact D.jZ a
def D.jZ:∀a:List D,D.eO a a=false
 | []=>by simp[D.eO]
 | x::xs=>by rw[D.dc,if_pos rfl];exact D.jZ xs
end
mutual
def D.dQ:∀a b:D,D.lt a b=false->D.lt b a=false->a=b
 | .int i,.int j,h1,h2=>by simp only[D.lt,decide_eq_false_iff_not] at h1 h2;congr 1;omega
 | .str x,.str y,h1,h2=>by simp only[D.lt] at h1 h2;have:=strKind.total _ _ h1 h2;congr 1;cases x;cases y;simp only at this;congr 1;exact Array.toList_inj.mp this
 | .tup a,.tup b,h1,h2=>by simp only[D.lt] at h1 h2;rw[D.me a b h1 h2]
 | .int _,.str _,h1,_=>by simp[D.lt] at h1
 | .int _,.tup _,h1,_=>by simp[D.lt] at h1
 | .str _,.int _,_,h2=>by simp[D.lt] at h2
 | .str _,.tup _,h1,_=>by simp[D.lt] at h1
 | .tup _,.int _,_,h2=>by simp[D.lt] at h2
 | .tup _,.str _,_,h2=>by simp[D.lt] at h2
def D.me:∀a b:List D,D.eO a b=false->D.eO b a=false->a=b
 | [],[],_,_=>rfl
 | [],_::_,h1,_=>by simp[D.eO] at h1
 | _::_,[],_,h2=>by simp[D.eO] at h2
 | x::xs,y::ys,h1,h2=>by
  rw[D.dc] at h1 h2;by_cases h:x=y
  ·subst h;rw[if_pos rfl] at h1 h2;rw[D.me xs ys h1 h2]
  ·rw[if_neg h] at h1;rw[if_neg (Ne.symm h)] at h2;exact absurd (D.dQ x y h1 h2) h
end
mutual
def D.lt_trans:∀a b c:D,D.lt a b=true->D.lt b c=true->D.lt a c=true
 | .int i,.int j,.int k,h1,h2=>by simp only[D.lt,decide_eq_true_eq] at *;omega
 | .int _,_,.str _,_,_=>by simp[D.lt]
 | .int _,_,.tup _,_,_=>by simp[D.lt]
 | .int _,.str _,.int _,_,h2=>by simp[D.lt] at h2
 | .int _,.tup _,.int _,_,h2=>by simp[D.lt] at h2
 | .str _,.int _,_,h1,_=>by simp[D.lt] at h1
 | .str x,.str y,.str z,h1,h2=>by simp only[D.lt] at *;exact strKind.trans _ _ _ h1 h2
 | .str _,.str _,.int _,_,h2=>by simp[D.lt] at h2
 | .str _,_,.tup _,_,_=>by simp[D.lt]
 | .str _,.tup _,.int _,_,h2=>by simp[D.lt] at h2
 | .str _,.tup _,.str _,_,h2=>by simp[D.lt] at h2
 | .tup _,.int _,_,h1,_=>by simp[D.lt] at h1
 | .tup _,.str _,_,h1,_=>by simp[D.lt] at h1
 | .tup _,.tup _,.int _,_,h2=>by simp[D.lt] at h2
 | .tup _,.tup _,.str _,_,h2=>by simp[D.lt] at h2
 | .tup a,.tup b,.tup c,h1,h2=>by simp only[D.lt] at *;exact D.lG a b c h1 h2
def D.lG:∀a b c:List D,D.eO a b=true->D.eO b c=true->D.eO a c=true
 | [],[],_,h1,_=>by simp[D.eO] at h1
 | [],_::_,[],_,h2=>by simp[D.eO] at h2
 | [],_::_,_::_,_,_=>by simp[D.eO]
 | _::_,[],_,h1,_=>by simp[D.eO] at h1
 | _::_,_::_,[],_,h2=>by simp[D.eO] at h2
 | x::xs,y::ys,z::zs,h1,h2=>by
  rw[D.dc] at h1 h2 ⊢;by_cases h:x=y
  ·subst h;rw[if_pos rfl] at h1;by_cases h':x=z
   ·rw[if_pos h'] at h2 ⊢;exact D.lG xs ys zs h1 h2
   ·rw[if_neg h'] at h2 ⊢;exact h2
  ·rw[if_neg h] at h1;by_cases h':y=z
   ·subst h';rw[if_neg h];exact h1
   ·rw[if_neg h'] at h2;have h3:=D.lt_trans x y z h1 h2;by_cases h'':x=z
    ·subst h'';rw[D.lt_irrefl] at h3;cases h3
    ·rw[if_neg h''];exact h3
end
@[reducible] def FK:KeyOrd where
 α:=D
 blt:=D.lt
 irrefl:=D.lt_irrefl
 trans:=D.lt_trans
 negTrans:=λa b c h=>by
  cases h1:D.lt a b with
  | true=>exact .inl rfl
  | false=>
   right;cases h2:D.lt b a with
   | true=>exact D.lt_trans b a c h2 h
   | false=>rw[D.dQ a b h1 h2] at h;exact h
 total:=D.dQ
end Mx
end
section
namespace MxSort
open PySem PySem.W PyProof.Rows
section
variable {O:KeyOrd} {key:Nat->O.α}
def qZ (key:Nat->O.α) (p:Array Nat) (i:Nat):O.α:=key (p.getD i 0)
def Up (key:Nat->O.α) (p:Array Nat) (n:Nat):Prop:=∀i j,i<=j->j < n->O.kle (qZ key p i) (qZ key p j)
def Dn (key:Nat->O.α) (p:Array Nat) (n:Nat):Prop:=∀i j,i<=j->j < n->O.kle (qZ key p j) (qZ key p i)
def tB {p q:Array Nat} {i j:Nat} (h:p[i]?=q[j]?):p.getD i 0=q.getD j 0:=by simp_all
theorem AN {p:Array Nat} {i j:Nat} (hj:j<=p.size) (k:Nat):qZ key (kas_rev p i j) k=if i<=k/\k < j then qZ key p (i + j - 1 - k) else qZ key p k:=by
 have e:=getElem?_mirror_all (i:=i) hj k;unfold kas_rev qZ;by_cases h1:i<=k/\k < j
 ·rw[if_pos h1] at e ⊢;exact congrArg key (tB e)
 ·rw[if_neg h1] at e ⊢;exact congrArg key (tB e)
def Ord (N:Nat) (p:Array Nat):Prop:=p.toList.Perm (List.range N)
def Ord.size {N:Nat} {p:Array Nat} (h:Ord N p):p.size=N:=by have:=h.length_eq;rw[List.length_range] at this;rw[<-this];simp
variable {cmp:Nat->Nat->(Bool->Shared->Prop)->Shared->Prop} {s:Shared} {N:Nat}
def Tells (O:KeyOrd) (key:Nat->O.α) (cmp:Nat->Nat->(Bool->Shared->Prop)->Shared->Prop) (N:Nat) (s:Shared):Prop:=
 ∀i j,i < N->j < N->∀C:Bool->Shared->Prop,C (O.blt (key i) (key j)) s->cmp i j C s
def Up.succ {p:Array Nat} {n:Nat} (h:Up key p n) (h1:1<=n) (h2:O.kle (qZ key p (n - 1)) (qZ key p n)):Up key p (n + 1):=λi j gg hj=>by
 by_cases e:j=n
 ·subst e;by_cases e2:i=j
  ·subst e2;exact KeyOrd.kle_refl _
  ·exact P0 (h i (j - 1) (by omega) (by omega)) h2
 ·exact h i j gg (by omega)
def Dn.succ {p:Array Nat} {n:Nat} (h:Dn key p n) (h1:1<=n) (h2:O.kle (qZ key p n) (qZ key p (n - 1))):Dn key p (n + 1):=λi j gg hj=>by
 by_cases e:j=n
 ·subst e;by_cases e2:i=j
  ·subst e2;exact KeyOrd.kle_refl _
  ·exact P0 h2 (h i (j - 1) (by omega) (by omega))
 ·exact h i j gg (by omega)
def Dn.of {p q:Array Nat} {n:Nat} (e:∀k,qZ key q k=qZ key p k) (h:Dn key p n):Dn key q n:=λi j a b=>by rw[e,e];exact h i j a b
def yi {p:Array Nat} {n:Nat} (hn:n<=p.size) (h:Dn key p n):Up key (kas_rev p 0 n) n:=by grind [AN,Dn,Up]
end
end MxSort
end
section
namespace Mx
open PySem PySem.Spec PyProof.Rows L2 PySem.SeqAt
mutual
def D.dep:D->Nat
 | .int _=>0
 | .str _=>0
 | .tup ds=>D.cC ds + 1
def D.cC:List D->Nat
 | []=>0
 | d::ds=>max (D.dep d) (D.cC ds)
end
mutual
def DV (H:Hp):V->D->Prop
 | x,.int i=>x= .int i
 | x,.str z=>x= .str z
 | x,.tup ds=>∃a xs,x= .ref a/\H a=some (.tup xs)/\aX H xs ds
def aX (H:Hp):List V->List D->Prop
 | [],[]=>True
 | x::xs,d::ds=>DV H x d/\aX H xs ds
 | [],_::_=>False
 | _::_,[]=>False
end
def aX.nil {H:Hp}:aX H [] []:=by unfold aX;trivial
def aX.cons {H:Hp} {x:V} {xs:List V} {d:D} {ds:List D} (h:DV H x d) (t:aX H xs ds):aX H (x::xs) (d::ds):=by unfold aX;exact⟨h,t⟩
def DV.int {H:Hp} {i:Int}:DV H (.int i) (.int i):=by unfold DV;rfl
def DV.str {H:Hp} {x:Str}:DV H (.str x) (.str x):=by unfold DV;rfl
def DV.tup {H:Hp} {a:Addr} {xs:List V} {ds:List D} (h:H a=some (.tup xs)) (t:aX H xs ds):DV H (.ref a) (.tup ds):=by unfold DV;exact⟨a,xs,rfl,h,t⟩
theorem DV.ag {H:Hp} {x:V} {ds:List D} (h:DV H x (.tup ds)):∃a xs,x= .ref a/\H a=some (.tup xs)/\aX H xs ds:=by unfold DV at h;exact h
def DV.int_inv {H:Hp} {x:V} {i:Int} (h:DV H x (.int i)):x= .int i:=by unfold DV at h;exact h
def DV.str_inv {H:Hp} {x:V} {i:Str} (h:DV H x (.str i)):x= .str i:=by unfold DV at h;exact h
def aX.cons_inv {H:Hp} {xs:List V} {d:D} {ds:List D} (h:aX H xs (d::ds)):∃x r,xs=x::r/\DV H x d/\aX H r ds:=by
 cases xs with
 | nil=>unfold aX at h;exact h.elim
 | cons x r=>unfold aX at h;exact⟨x,r,rfl,h⟩
def aX.length {H:Hp}:∀{xs:List V} {ds:List D},aX H xs ds->xs.length=ds.length
 | [],[],_=>rfl
 | [],_::_,h=>by unfold aX at h;exact h.elim
 | _::_,[],h=>by unfold aX at h;exact h.elim
 | _::xs,_::ds,h=>by unfold aX at h;simp[aX.length h.2]
def aX.get {H:Hp}:∀{xs:List V} {ds:List D} {i:Nat} {x:V},aX H xs ds->xs[i]?=some x->∃d,ds[i]?=some d/\DV H x d
 | [],_,_,_,_,e=>by simp at e
 | _::_,[],_,_,h,_=>by unfold aX at h;exact h.elim
 | _::_,_::_,0,_,h,e=>by unfold aX at h;simp at e;subst e;exact⟨_,rfl,h.1⟩
 | _::xs,_::ds,i + 1,x,h,e=>by unfold aX at h;obtain⟨d,e1,e2⟩:=aX.get (i:=i) h.2 (by simpa using e);exact⟨d,by simpa using e1,e2⟩
def aX.append {H:Hp}:∀{xs ys:List V} {ds es:List D},aX H xs ds->aX H ys es->aX H (xs++ys) (ds++es)
 | [],_,[],_,_,h=>h
 | [],_,_::_,_,h,_=>by unfold aX at h;exact h.elim
 | _::_,_,[],_,h,_=>by unfold aX at h;exact h.elim
 | _::xs,ys,_::ds,es,h,h'=>by unfold aX at h;exact aX.cons h.1 (aX.append h.2 h')
def AZ (H H':Hp):Prop:=∀a xs,H a=some (.tup xs)->H' a=some (.tup xs)
mutual
def DV.mono {H H':Hp} (t:AZ H H'):∀{x:V} {d:D},DV H x d->DV H' x d
 | x,.int i,h=>by unfold DV at h ⊢;exact h
 | x,.str z,h=>by unfold DV at h ⊢;exact h
 | x,.tup ds,h=>by obtain⟨a,xs,e,e1,e2⟩:=h.ag;subst e;exact DV.tup (t a xs e1) (aX.mono t e2)
def aX.mono {H H':Hp} (t:AZ H H'):∀{xs:List V} {ds:List D},aX H xs ds->aX H' xs ds
 | [],[],_=>aX.nil
 | [],_::_,h=>by unfold aX at h;exact h.elim
 | _::_,[],h=>by unfold aX at h;exact h.elim
 | _::xs,_::ds,h=>by unfold aX at h;exact aX.cons (DV.mono t h.1) (aX.mono t h.2)
end
mutual
def DV.inj {H:Hp}:∀{x:V} {d e:D},DV H x d->DV H x e->d=e
 | x,.int i,e,h1,h2=>by
  have:=h1.int_inv;subst this;cases e with
  | int j=>have:=h2.int_inv;injection this with q;rw[q]
  | str j=>have:=h2.str_inv;cases this
  | tup j=>obtain⟨_,_,q,_⟩:=h2.ag;cases q
 | x,.str i,e,h1,h2=>by
  have:=h1.str_inv;subst this;cases e with
  | int j=>have:=h2.int_inv;cases this
  | str j=>have:=h2.str_inv;injection this with q;rw[q]
  | tup j=>obtain⟨_,_,q,_⟩:=h2.ag;cases q
 | x,.tup ds,e,h1,h2=>by
  obtain⟨a,xs,q,e1,e2⟩:=h1.ag;subst q;cases e with
  | int j=>have:=h2.int_inv;cases this
  | str j=>have:=h2.str_inv;cases this
  | tup j=>obtain⟨b,ys,q,f1,f2⟩:=h2.ag;cases q;rw[e1] at f1;cases f1;rw[aX.inj e2 f2]
def aX.inj {H:Hp}:∀{xs:List V} {ds es:List D},aX H xs ds->aX H xs es->ds=es
 | [],[],[],_,_=>rfl
 | [],[],_::_,_,h=>by unfold aX at h;exact h.elim
 | [],_::_,_,h,_=>by unfold aX at h;exact h.elim
 | _::_,[],_,h,_=>by unfold aX at h;exact h.elim
 | _::_,_::_,[],_,h=>by unfold aX at h;exact h.elim
 | _::xs,_::ds,_::es,h1,h2=>by unfold aX at h1 h2;rw[DV.inj h1.1 h2.1,aX.inj h1.2 h2.2]
end
def IG (ds es:List D) (j:Nat):Bool:=match ds[j]?,es[j]? with
 | some d,some e=>D.gh d e
 | _,_=>true
def ux:∀ds es:List D,((List.range (min ds.length es.length)).all (IG ds es)&&ds.length==es.length)=D.eqs ds es
 | [],[]=>by simp[D.eqs]
 | [],_::_=>by simp[D.eqs]
 | _::_,[]=>by simp[D.eqs]
 | d::ds,e::es=>by
  have ih:=ux ds es;have hm:min (d::ds).length (e::es).length=min ds.length es.length + 1:=by simp only[PM];omega
  have e1:((d::ds).length==(e::es).length)=(ds.length==es.length):=by rw[Bool.eq_iff_iff];simp
  rw[hm,List.range_succ_eq_map,List.all_cons,List.all_map,e1,D.eqs,<-ih,Bool.and_assoc];rfl
def nc {d:D}:∀{ds:List D} {j:Nat},ds[j]?=some d->D.dep d<=D.cC ds
 | [],_,h=>by simp at h
 | d'::ds,0,h=>by simp at h;subst h;unfold D.cC;omega
 | d'::ds,j + 1,h=>by have:=nc (ds:=ds) (j:=j) (by simpa using h);unfold D.cC;omega
section
variable {P:Program} {w:World} {H:Hp} {s:Shared}
def ax (hok:eh P w H s.heap) {a:Addr} {xs:List V} (h:H a=some (.tup xs)):∃its:List Value,aw xs its/\s.heap.IsTuple a its.toArray:=by obtain⟨_,its,r,t⟩:=hok a _ h;exact⟨its,r,t⟩
def eq_data (hok:eh P w H s.heap):∀(n:Nat) (d e:D) (x y:V) (u v:Value) (A:Around),D.dep d<=n->A.units + n < cLine->DV H x d->DV H y e->RelV x u->RelV y v->EqAt A s u v (D.gh d e):=by
 intro n
 induction n with
 | zero=>
  intro d e x y u v A hd hu hx hy rx ry;cases d with
  | int i=>
   have:=hx.int_inv;subst this;obtain⟨t,rfl⟩:=rx;cases e with
   | int j=>have:=hy.int_inv;subst this;obtain⟨t',rfl⟩:=ry;exact EqAt.int_int i t j t'
   | str j=>have:=hy.str_inv;subst this;obtain⟨t',rfl⟩:=ry;exact EqAt.int_str i t j t'
   | tup j=>obtain⟨b,ys,q,f1,f2⟩:=hy.ag;subst q;cases ry;obtain⟨its,_,ht⟩:=ax hok f1;exact EqAt.int_tuple i t ht (by omega)
  | str i=>
   have:=hx.str_inv;subst this;obtain⟨t,rfl⟩:=rx;cases e with
   | int j=>have:=hy.int_inv;subst this;obtain⟨t',rfl⟩:=ry;exact EqAt.str_int i t j t'
   | str j=>have:=hy.str_inv;subst this;obtain⟨t',rfl⟩:=ry;exact EqAt.str_str i t j t'
   | tup j=>obtain⟨b,ys,q,f1,f2⟩:=hy.ag;subst q;cases ry;obtain⟨its,_,ht⟩:=ax hok f1;exact EqAt.str_tuple i t ht (by omega)
  | tup ds=>unfold D.dep at hd;omega
 | succ n ih=>
  intro d e x y u v A hd hu hx hy rx ry;cases d with
  | int i=>exact ih (.int i) e x y u v A (by unfold D.dep;omega) (by omega) hx hy rx ry
  | str i=>exact ih (.str i) e x y u v A (by unfold D.dep;omega) (by omega) hx hy rx ry
  | tup ds=>
   obtain⟨a,xs,q,e1,e2⟩:=hx.ag;subst q;cases rx;obtain⟨its,r1,ht⟩:=ax hok e1;cases e with
   | int j=>have:=hy.int_inv;subst this;obtain⟨t',rfl⟩:=ry;exact EqAt.tuple_int j t' ht (by omega)
   | str j=>have:=hy.str_inv;subst this;obtain⟨t',rfl⟩:=ry;exact EqAt.tuple_str j t' ht (by omega)
   | tup es=>
    obtain⟨b,ys,q,f1,f2⟩:=hy.ag;subst q;cases ry;obtain⟨aJ,r2,bW⟩:=ax hok f1;by_cases gu:a=b
    ·subst gu;rw[e1] at f1;cases f1;have:=aX.inj e2 f2;subst this;have q:D.gh (.tup ds) (.tup ds)=true:=(D.cZ _ _).mpr rfl;rw[q];exact EqAt.same _
    ·have l1:its.toArray.size=ds.length:=by rw[Pn,<-r1.length,e2.length]
     have l2:aJ.toArray.size=es.length:=by rw[Pn,<-r2.length,f2.length]
     have key:=RcAt.tuples (A:=A) (e:=IG ds es) ht bW (by omega) (λj h1 h2=>?_)
     ·have q:=ux ds es;rw[<-l1,<-l2] at q;rw[q] at key;exact EqAt.of_refs gu key
     ·have iJ:j < xs.length:=by rw[e2.length,<-l1];exact h1
      have l6:j < ys.length:=by rw[f2.length,<-l2];exact h2
      obtain⟨d,g1,g2⟩:=e2.get (i:=j) (x:=xs[j]) (by simp[iJ]);obtain⟨e,k1,k2⟩:=f2.get (i:=j) (x:=ys[j]) (by simp[l6]);obtain⟨u,sV,ru⟩:=r1.get (i:=j) (x:=xs[j]) (by simp[iJ]);obtain⟨v,Ak,rv⟩:=r2.get (i:=j) (x:=ys[j]) (by simp[l6]);have eu:its.toArray[j]=u:=by have:its[j]?=some u:=sV;simp only[List.getElem_toArray];have q:=Pp.mp this;exact q.2
      have ev:aJ.toArray[j]=v:=by have:aJ[j]?=some v:=Ak;simp only[List.getElem_toArray];have q:=Pp.mp this;exact q.2
      rw[eu,ev];have ee:IG ds es j=D.gh d e:=by unfold IG;rw[g1,k1]
      rw[ee];refine ih d e xs[j] ys[j] u v A.in1 ?_ (by show A.units + 1 + n < cLine;omega) g2 k2 ru rv;have:=nc g1;unfold D.dep at hd;omega
end
mutual
def D.et:D->D->Prop
 | .int _,.int _=>True
 | .str _,.str _=>True
 | .tup a,.tup b=>D.gq a b
 | _,_=>False
def D.gq:List D->List D->Prop
 | x::xs,y::ys=>D.et x y/\D.gq xs ys
 | _,_=>True
end
def D3 (A:Around) (s:Shared) (u v:Value) (b:Bool):Prop:=
 ∀(prog:Program) (w:World) (E:Value->Shared->Prop) (Q:Value->Shared->Prop),Q (.bool b) s->wpAny (model prog w) A (richCompare .Lt u v) Q E s
inductive Zp (A:Around) (s:Shared):List Value->List Value->List D->List D->Prop
 | nil {ws:List Value} {es:List D}:ws.length=es.length->Zp A s [] ws [] es
 | AF {vs:List Value} {ds:List D}:vs.length=ds.length->Zp A s vs [] ds []
 | cons {v w:Value} {d e:D} {vs ws:List Value} {ds es:List D}:EqAt A s v w (D.gh d e)->(d≠e->D3 A s v w (D.lt d e))->Zp A s vs ws ds es->Zp A s (v::vs) (w::ws) (d::ds) (e::es)
section
open PySem.AutoSeq1 (wpAny_loadPart')
open PySem.MeetsSeq PySem.MeetsSeq2 PySem.MeetsSeq3
def lg (l b:Addr) (items fD:Array Value) (n n2:Nat) (dd zw:Option Addr) (sl vI:Array (Option Value)) (ds es:List D) (z1:items.size=ds.length) (z2:fD.size=es.length):
  Meets (Builtin.«tuple.__lt__» ⟨[.ref l,.ref b],[]⟩)
   (λA R s=>s.heap.get? l=some {cls:= .type "tuple",dict:=dd,data:= .seq items n,slots:=sl}/\s.heap.get? b=some {cls:= .type "tuple",dict:=zw,data:= .seq fD n2,slots:=vI}/\
    Zp A.in1 s items.toList fD.toList ds es/\R (.ok (.ret (.bool (D.eO ds es)))) s):=
 .of_wp λprog w A R s h=>by
  obtain⟨hp,g,d,tk,os⟩:=s;obtain⟨hl,hb,NW,h⟩:=h;have f2:=AutoSeq1.sub_tuple_tuple
  wp_walk using wpAny_loadPart' hl,wpAny_loadPart' hb,wpAny_forIn_list _ (λrest b s'=>b.1=none/\s'=⟨hp,g,d,tk,os⟩/\∃(vs ws:List Value) (vM cQ:List D),rest=vs.zip ws/\
   Zp A.in1 ⟨hp,g,d,tk,os⟩ vs ws vM cQ/\vM.length + fD.size=cQ.length + items.size/\R (.ok (.ret (.bool (D.eO vM cQ)))) ⟨hp,g,d,tk,os⟩) _
  case turn=>
   rintro⟨y,x⟩ rest b s' ⟨lX,rfl,vs,ws,vM,cQ,hz,JS,hlen,hR⟩;cases JS with
   | nil _=>rw[List.zip_nil_left] at hz;cases hz
   | AF _=>rw[List.zip_nil_right] at hz;cases hz
   | cons he hl GK=>
    rename_i v wv d0 e0 vJ ws' ds'' es'';rw[List.zip_cons_cons] at hz;injection hz with hyx FF;injection hyx with hy hx;subst hy hx;rw[D.dc] at hR;simp only[PM] at hlen;refine Pi (he prog w _ _ ?_);by_cases hde:d0=e0
    ·rw[if_pos hde] at hR;rw[(D.cZ d0 e0).mpr hde]
     wp_walk
     exact⟨rfl,rfl,_,_,_,_,FF,GK,by omega,hR⟩
    ·rw[if_neg hde] at hR;have NT:D.gh d0 e0=false:=by rw[D.hJ];exact PY hde
     rw[NT];have NN:=hl hde prog w
     wp_walk using NN
     exact⟨_,rfl,by simpa using hR⟩
  case fin=>
   rintro⟨b1,b2⟩ s' ⟨lX,rfl,vs,ws,vM,cQ,hz,JS,hlen,hR⟩;simp only at lX;subst lX;have hv:D.eO vM cQ=decide (items.size < fD.size):=by
    cases JS with
    | nil _=>
     cases cQ with
     | nil=>simp only[List.length_nil] at hlen;rw[D.eO];exact(PY (by omega)).symm
     | cons c u=>simp only[List.length_nil,PM] at hlen;rw[D.eO];exact(P3 (by omega)).symm
    | AF _=>
     cases vM with
     | nil=>simp only[List.length_nil] at hlen;rw[D.eO];exact(PY (by omega)).symm
     | cons c u=>simp only[List.length_nil,PM] at hlen;rw[D.eO];exact(PY (by omega)).symm
    | cons he hl GK=>rw[List.zip_cons_cons] at hz;cases hz
   rw[hv] at hR
   wp_walk
   exact⟨_,rfl,by simpa [Builtin.Tuple.tupleCompareSizes] using hR⟩
  case h=>exact⟨rfl,rfl,items.toList,fD.toList,ds,es,rfl,NW,by omega,h⟩
end
section
variable {P:Program} {w:World} {H:Hp} {s:Shared}
def vT (hok:eh P w H s.heap) {A:Around} {n:Nat} (hu:A.units + n < cLine) (ih:∀(d e:D) (x y:V) (u v:Value),D.dep d<=n->D.et d e->DV H x d->DV H y e->RelV x u->RelV y v->D3 A s u v (D.lt d e)):
  ∀{xs ys:List V} {us vs:List Value} {ds es:List D},D.cC ds<=n->D.gq ds es->aX H xs ds->aX H ys es->aw xs us->aw ys vs->Zp A s us vs ds es
 | [],ys,us,vs,[],es,_,_,_,h2,r1,r2=>by cases r1;exact .nil (by rw[<-r2.length,h2.length])
 | x::xs,[],us,vs,ds,[],_,_,h1,_,r1,r2=>by cases r2;exact .AF (by rw[<-r1.length,h1.length])
 | [],_,_,_,_::_,_,_,_,h,_,_,_=>by unfold aX at h;exact h.elim
 | _::_,_,_,_,[],_,_,_,h,_,_,_=>by unfold aX at h;exact h.elim
 | _::_,[],_,_,_::_,_::_,_,_,_,h,_,_=>by unfold aX at h;exact h.elim
 | _::_,_::_,_,_,_::_,[],_,_,_,h,_,_=>by unfold aX at h;exact h.elim
 | x::xs,y::ys,us,vs,d::ds,e::es,hd,hl,h1,h2,r1,r2=>by
  unfold aX at h1 h2;unfold D.gq at hl;unfold D.cC at hd;cases r1 with
  | cons r1 t1=>
   cases r2 with
   | cons r2 t2=>exact .cons (eq_data hok n d e x y _ _ A (by omega) hu h1.1 h2.1 r1 r2) (λ_=>ih d e x y _ _ (by omega) hl.1 h1.1 h2.1 r1 r2) (vT hok hu ih (by omega) hl.2 h1.2 h2.2 t1 t2)
def AY (hok:eh P w H s.heap):∀(n:Nat) (d e:D) (x y:V) (u v:Value) (A:Around),D.dep d<=n->A.units + n < cLine->D.et d e->DV H x d->DV H y e->RelV x u->RelV y v->D3 A s u v (D.lt d e):=by
 intro n
 induction n with
 | zero=>
  intro d e x y u v A hd hu hl hx hy rx ry;cases d with
  | int i=>
   have:=hx.int_inv;subst this;obtain⟨t,rfl⟩:=rx;cases e with
   | int j=>have:=hy.int_inv;subst this;obtain⟨t',rfl⟩:=ry;intro prog wd E Q q;exact(PyProof.Rows.lt_int q:wpAny (model prog wd) A (compareOp .Lt (.int i t) (.int j t')) Q E s)
   | str j=>unfold D.et at hl;exact hl.elim
   | tup j=>unfold D.et at hl;exact hl.elim
  | str i=>
   have:=hx.str_inv;subst this;obtain⟨t,rfl⟩:=rx;cases e with
   | int j=>unfold D.et at hl;exact hl.elim
   | str j=>have:=hy.str_inv;subst this;obtain⟨t',rfl⟩:=ry;intro prog wd E Q q;exact(PySem.P.lt_str q:wpAny (model prog wd) A (compareOp .Lt (.str i t) (.str j t')) Q E s)
   | tup j=>unfold D.et at hl;exact hl.elim
  | tup ds=>unfold D.dep at hd;omega
 | succ n ih=>
  intro d e x y u v A hd hu hl hx hy rx ry;cases d with
  | int i=>exact ih (.int i) e x y u v A (by unfold D.dep;omega) (by omega) hl hx hy rx ry
  | str i=>exact ih (.str i) e x y u v A (by unfold D.dep;omega) (by omega) hl hx hy rx ry
  | tup ds=>
   obtain⟨a,xs,q,e1,e2⟩:=hx.ag;subst q;cases rx;cases e with
   | int j=>unfold D.et at hl;exact hl.elim
   | str j=>unfold D.et at hl;exact hl.elim
   | tup es=>
    obtain⟨b,ys,q,f1,f2⟩:=hy.ag;subst q;cases ry;obtain⟨its,r1,ht⟩:=ax hok e1;obtain⟨aJ,r2,bW⟩:=ax hok f1;have l1:its.toArray.size=ds.length:=by rw[Pn,<-r1.length,e2.length]
    have l2:aJ.toArray.size=es.length:=by rw[Pn,<-r2.length,f2.length]
    have rO:D.cC ds<=n:=by unfold D.dep at hd;omega
    have Aq:D.gq ds es:=by unfold D.et at hl;exact hl
    have zz:Zp A.in1 s its aJ ds es:=vT hok (n:=n) (by show A.units + 1 + n < cLine;omega) (λd e x y u v hd2 cX Aa hy2 rx2 ry2=>ih d e x y u v A.in1 hd2 (by show A.units + 1 + n < cLine;omega) cX Aa hy2 rx2 ry2) rO Aq e2 f2 r1 r2;intro prog wd E Q q;obtain⟨⟨cls,dd,data,sl⟩,ho,hc,k,An⟩:=id ht;obtain⟨⟨G6,zw,data2,vI⟩,ow,uX,k2,rF⟩:=id bW;simp only at hc An uX rF;subst hc An uX rF;have q':Q (.bool (D.eO ds es)) s:=by have z:=q;unfold D.lt at z;exact z
    exact richCompare_meets_room (op:= .Lt) ⟨_,ho,rfl⟩ ⟨_,ow,rfl⟩ PySem.F.slot_tuple_lt PySem.F.entry_tuple_lt (PySem.F.args_tuple_lt_2 _ _) (lg a b its.toArray aJ.toArray k k2 dd zw sl vI ds es l1 l2)
     ⟨ho,ow,zz,show Value.bool (D.eO ds es)≠Value.notImplemented/\Q (.bool (D.eO ds es)) s from⟨(λx=>nomatch x),q'⟩⟩ (by omega)
end
end Mx
end
section
namespace Mx
open PySem PySem.W PySem.Spec PyProof.Rows L2 PySem.SeqAt MxSort
section
variable {P:Program} {w:World} {H:Hp} {prog:Program} {s:Shared} {A:Around}
def Ar {b:Bool} {n m:Nat} {Q:Bool->Shared->Prop} {us vs:List Value} {ds es:List D} (z:Zp A s us vs ds es):∀(i:Nat),1<=i->ds.length + m=es.length + n->Q (D.eO ds es) s->KatLex prog w A b (decide (n < m)) Q (us.zip vs) i s:=by
 induction z with
 | nil hl=>
  intro i hi hlen q;rw[List.zip_nil_left];refine kat_nil ?_;rename_i ws es;cases es with
  | nil=>simp only[List.length_nil] at hlen;rw[D.eO] at q;rw[PY (by omega)];exact q
  | cons c u=>simp only[List.length_nil,PM] at hlen;rw[D.eO] at q;rw[P3 (by omega)];exact q
 | AF hl=>
  intro i hi hlen q;rw[List.zip_nil_right];refine kat_nil ?_;rename_i vs ds;cases ds with
  | nil=>simp only[List.length_nil] at hlen;rw[D.eO] at q;rw[PY (by omega)];exact q
  | cons c u=>simp only[List.length_nil,PM] at hlen;rw[D.eO] at q;rw[PY (by omega)];exact q
 | cons he hl z' ih=>
  intro i hi hlen q;rename_i v wv d e vJ ws' vM cQ;rw[List.zip_cons_cons];simp only[PM] at hlen;rw[D.dc] at q;refine kat_cons (he prog w _ _ ?_);by_cases hde:d=e
  ·rw[(D.cZ d e).mpr hde];rw[if_pos hde] at q;exact kat_yes (ih (i + 1) (by omega) (by omega) q)
  ·rw[show D.gh d e=false by rw[D.hJ];exact PY hde];rw[if_neg hde] at q;refine kat_no ?_;rw[show (b&&i==0)=false by rw[show (i==0)=false by simp;omega];simp];exact kat_one v wv (hl hde prog w _ _ q)
end
def ia (ds es:List D):Prop:=es.Perm ds/\es.Pairwise λa b=>D.lt b a=false
def aX.map {H:Hp} {xs:List V} {ds:List D} (h:aX H xs ds):∀{p:List Nat},(∀i∈p,i < xs.length)->aX H (p.map λi=>xs.getD i .bo) (p.map λi=>ds.getD i (.int 0))
 | [],_=>aX.nil
 | i::p,hp=>by have hi:=hp i Pu;obtain⟨d,e1,e2⟩:=h.get (i:=i) (x:=xs[i]) (by simp[hi]);refine aX.cons ?_ (aX.map h λj hj=>hp j (Pq _ hj));dsimp only;rw[show xs.getD i .bo=xs[i] by simp[hi],show ds.getD i (.int 0)=d by simp[e1]];exact e2
def pQ {xs:List V} {us:List Value} (h:aw xs us):∀{p:List Nat},(∀i∈p,i < xs.length)->aw (p.map λi=>xs.getD i .bo) (p.map λi=>us.getD i .none)
 | [],_=> .nil
 | i::p,hp=>by have hi:=hp i Pu;obtain⟨u,e1,e2⟩:=h.get (i:=i) (x:=xs[i]) (by simp[hi]);refine .cons ?_ (pQ h λj hj=>hp j (Pq _ hj));dsimp only;rw[show xs.getD i .bo=xs[i] by simp[hi],show us.getD i .none=u by simp[e1]];exact e2
def kQ {α:Type} (l:List α) (d:α):(List.range l.length).map (λi=>l.getD i d)=l:=by
 refine List.ext_getElem (by simp) λi h1 h2=>?_
 simp at h1;simp[h1]
end Mx
end
section
namespace L2
open PySem PySem.Spec PyProof.Rows
def mY (env:Env):List (Str×NameKind)->List (Str×Addr)->List (Str×Addr)
 | [],cs=>cs
 | (n,k)::r,cs=>mY env r (if k== .free then(n,(env.cells.lookup n).getD 0)::cs else cs)
def eN (scope:Scope) (env:Env):List (Str×Addr):=mY env scope.names []
def kE {env:Env}:∀(l:List (Str×NameKind)) (cs:List (Str×Addr)),(∀y∈l,y.2= .free->∃c,env.cells.lookup y.1=some c)->
  (forIn l cs (λx r=>do
   if x.2==NameKind.free then do let a<-cellOf env x.1;pure (ForInStep.yield ((x.1,a)::r)) else pure (ForInStep.yield r)):Sem (List (Str×Addr)))=pure (mY env l cs)
 | [],cs,_=>rfl
 | (n,k)::r,cs,h=>by
  rw[List.forIn_cons];have ih:=λcs=>kE r cs λy hy=>h y (Pq _ hy)
  cases hk:(k==NameKind.free) with
  | false=>simp only[hk,Bool.false_eq_true,if_false,mY,pure_bind];exact ih cs
  | true=>
   obtain⟨c,hc⟩:=h (n,k) Pu (by simpa using hk);have ng:env.cells.lookup n=some c:=hc;have e:cellOf env n=pure c:=by unfold cellOf;rw[ng]
   simp only[hk,if_true,mY,e,pure_bind,ng,Option.getD_some];exact ih _
def gr {scope:Scope} {env:Env} (h:∀y∈scope.names,y.2= .free->∃c,env.cells.lookup y.1=some c):closureFor scope env=pure (eN scope env):=by have q:=kE (env:=env) scope.names [] h;unfold closureFor eN;rw[<-q];simp only[bind_pure]
def jb {env:Env} {x:Str} {c:Addr}:∀(l:List (Str×NameKind)) (cs:List (Str×Addr)),(∀y∈l,y.2= .free->∃c,env.cells.lookup y.1=some c)->
  (∀c,cs.lookup x=some c->env.cells.lookup x=some c)->(mY env l cs).lookup x=some c->env.cells.lookup x=some c
 | [],cs,_,h2,h=>h2 c h
 | (n,k)::r,cs,h1,h2,h=>by
  refine jb r _ (λy hy=>h1 y (Pq _ hy)) (λc' ng=>?_) h;by_cases hk:(k==NameKind.free)=true
  ·rw[if_pos hk] at ng;rw[PZ] at ng;by_cases hx:(x==n)=true
   ·rw[hx] at ng;have rd:x=n:=by simpa using hx
    subst rd;obtain⟨c₁,e⟩:=h1 (x,k) Pu (by simpa using hk);have e':env.cells.lookup x=some c₁:=e;rw[e'] at ng ⊢;simpa using ng
   ·rw[Bool.not_eq_true] at hx;rw[hx] at ng;exact h2 c' ng
  ·rw[if_neg hk] at ng;exact h2 c' ng
def kD {env:Env} {x:Str}:∀(l:List (Str×NameKind)) (cs:List (Str×Addr)),(((x,NameKind.free)∈l)\/∃c,cs.lookup x=some c)->∃c,(mY env l cs).lookup x=some c
 | [],cs,h=>by
  rcases h with h | h
  ·cases h
  ·exact h
 | (n,k)::r,cs,h=>by
  refine kD r _ ?_;by_cases hk:(k==NameKind.free)=true
  ·rw[if_pos hk];by_cases hx:(x==n)=true
   ·exact .inr ⟨_,by rw[PZ,hx]⟩
   ·rw[Bool.not_eq_true] at hx;rcases h with h | h
    ·rcases PC.mp h with e | h
     ·injection e with e1 e2;subst e1;simp at hx
     ·exact .inl h
    ·exact .inr (by obtain⟨c,e⟩:=h;exact⟨c,by rw[PZ,hx];exact e⟩)
  ·rw[if_neg hk];rcases h with h | h
   ·rcases PC.mp h with e | h
    ·injection e with e1 e2;subst e2;exact absurd rfl hk
    ·exact .inl h
   ·exact .inr h
def aT {env:Env} {x:Str}:∀{names:List (Str×NameKind)} {k:NameKind},names.lookup x=some k->
  (names.map λ(n,k)=>if (k==NameKind.free&&env.scope.kind== .function&&env.kindOf n==some .cell) then(n,NameKind.cell) else(n,k)).lookup x=
   some (if (k==NameKind.free&&env.scope.kind== .function&&env.kindOf x==some .cell) then NameKind.cell else k)
 | [],_,h=>by simp at h
 | (n,k')::r,k,h=>by
  have ih:=@aT env x r k;show List.lookup x ((if (k'==NameKind.free&&env.scope.kind== .function&&env.kindOf n==some .cell)=true then(n,NameKind.cell) else(n,k'))::_)=_;cases hx:x==n with
  | true=>
   have rd:x=n:=by simpa using hx
   subst rd;simp only[PZ,hx] at h;cases h;by_cases hc:(k'==NameKind.free&&env.scope.kind== .function&&env.kindOf x==some .cell)=true
   ·simp only[hc,if_true,PZ,hx]
   ·rw[if_neg hc,if_neg hc];simp only[PZ,hx]
  | false=>
   simp only[PZ,hx] at h;by_cases hc:(k'==NameKind.free&&env.scope.kind== .function&&env.kindOf n==some .cell)=true
   ·rw[if_pos hc];simp only[PZ,hx];exact ih h
   ·rw[if_neg hc];simp only[PZ,hx];exact ih h
def bI {env:Env} {x:Str}:∀{names:List (Str×NameKind)},names.lookup x=none->
  (names.map λ(n,k)=>if (k==NameKind.free&&env.scope.kind== .function&&env.kindOf n==some .cell) then(n,NameKind.cell) else(n,k)).lookup x=none
 | [],h=>rfl
 | (n,k')::r,h=>by
  show List.lookup x ((if (k'==NameKind.free&&env.scope.kind== .function&&env.kindOf n==some .cell)=true then(n,NameKind.cell) else(n,k'))::_)=_;cases hx:x==n with
  | true=>simp only[PZ,hx] at h;cases h
  | false=>
   simp only[PZ,hx] at h;by_cases hc:(k'==NameKind.free&&env.scope.kind== .function&&env.kindOf n==some .cell)=true
   ·rw[if_pos hc];simp only[PZ,hx];exact bI h
   ·rw[if_neg hc];simp only[PZ,hx];exact bI h
def cO (cap:List (Option Nat)) (σ:St):St:=cap.map λo=>o.bind λi=>(σ[i]?).join
def BX (X:Cx) (ifs:List Expr) (t:TT):Prop:=
 ∀(pins:List (Addr×Obj)) (s:Shared) (σ:St) (H:Hp) (Q:Bool->Hp->Prop),Inv X pins σ H s->t σ H Q->
  wpAny (model X.prog X.w) X.A (forIn ifs true λc r=>if r=true then do let ok<-isTrue c X.env (eval c X.env);pure (ForInStep.yield ok) else pure (ForInStep.yield r)) (TP X pins σ Q) X.xe s
def LA:TT:=λ_ H Q=>Q true H
def Bt {X:Cx}:BX X [] LA:=λ_ _ _ H _ I h=>wpAny_tests_nil ⟨H,I,h⟩
def A2 {X:Cx} {c:Expr} {t:TT} (h:PT X c t):BX X [c] t:=λpins s σ H Q I hw=>wpAny_tests_one (h pins s σ H Q I hw)
def FN (J:It) (g:TG) (tt:TT) (te:TE) (σ0:St) (D:Addr) (F:Hp->Prop) (H1:Hp):Prop:=
 ∃W:Nat->Nat->List V->Hp->Prop,(∃m,W 0 m [] (upd H1 D (.lst [])))/\∀i m acc H,W i m acc H->
  (J.stop i H/\F H)\/(J.go i H/\∀x H',J.yld i H x H'->g x σ0 H' λσ2 H2=>tt σ2 H2 λb H3=>if b=true then te σ2 H3 λv H4=>∃dM,H4 D=some (.lst dM)/\dM.length < sizeLine/\
   ∃m',m' < m/\W (i + 1) m' (dM++[v]) (upd H4 D (.lst (dM++[v]))) else∃m',m' < m/\W (i + 1) m' acc H3)
end L2
end
section
namespace Mx
open PySem PySem.W PySem.Spec PyProof.Rows L2 PySem.SeqAt
section
variable {X:Cx}
def LW:V->Option Int->Option Int->Hp->VK->Prop:=λx lo hi H Q=>∃z,x= .str z/\z.length<=sizeLine/\Q (.str (PySem.Txt.slice z lo hi)) H
def Da:E4 X LW:=by
 intro pins s σ H x v vl vu lo hi sl Q I rx hs pl pu h;obtain⟨z,rfl,hz,q⟩:=h;obtain⟨t,rfl⟩:=rx;refine⟨"str",_,PySem.F.slot_str_getitem.lookup,typeIs_str _ _ _,?_⟩;have fin:∀(t':Tok) (k:Nat),EP X pins σ Q (.str (PySem.Txt.slice z lo hi) t') {s with toks:=k}:=λt' k=>⟨.str _,H,I.tok k,⟨t',rfl⟩,q⟩
 have hlen:=Pz (PySem.Txt.slice_le z lo hi) hz;obtain⟨o,ho,hc,hd⟩:=hs;cases pl with
 | none=>
  cases pu with
  | none=>exact wpAny_getItem_str_slice (l:=none) (u:=none) (st:=none) ⟨o,ho,hc,hd⟩ rfl (post_val_or_str ⟨hlen,fin⟩)
  | int j tj=>exact wpAny_getItem_str_slice (l:=none) (u:=some (j,tj)) (st:=none) ⟨o,ho,hc,hd⟩ rfl (post_val_or_str ⟨hlen,fin⟩)
 | int i ti=>
  cases pu with
  | none=>exact wpAny_getItem_str_slice (l:=some (i,ti)) (u:=none) (st:=none) ⟨o,ho,hc,hd⟩ rfl (post_val_or_str ⟨hlen,fin⟩)
  | int j tj=>exact wpAny_getItem_str_slice (l:=some (i,ti)) (u:=some (j,tj)) (st:=none) ⟨o,ho,hc,hd⟩ rfl (post_val_or_str ⟨hlen,fin⟩)
def Lw (K:PySem.W.Frag):List V->Hp->VK->Prop:=λxs H Q=>∃x T t b,xs=[x,.ty T]/\gS K H x t/\PySem.W.kitOne K t (.type T)=some b/\Q (.bl b) H
def yq:eG X (.builtin "isinstance") (Lw X.K):=by intro pins s σ H xs us Q I r h;obtain⟨x,T,t,b,rfl,ty,hk,q⟩:=h;obtain⟨u,v,rfl,r1,r2⟩:=r.two;cases r2;exact vF I r1 ty hk λtk=>⟨.bl b,H,I.tok tk,rfl,q⟩
end
end Mx
end
section
namespace Mx
open PySem PySem.W PySem.Spec PyProof.Rows L2
structure iI (z TI TO i1 i2:Addr):Prop where
 TIz:TI≠z
 TOz:TO≠z
 i1z:i1≠z
 i2z:i2≠z
 TITO:TI≠TO
 TIi1:TI≠i1
 TIi2:TI≠i2
 TOi1:TO≠i1
 TOi2:TO≠i2
 i12:i1≠i2
def cw {H:Hp} {p:Addr} (h:H p=none) (o:HO):bu H (upd H p o):=λb u q=>by rw[ao (au q h)];exact q
def lV {H H':Hp} (h:bu H H'):AZ H H':=λa xs q=>h a _ q
def y9 {H1 H:Hp} {D:Addr} {o:HO} (h:bu H1 H) (hD:H1 D=none):bu H1 (upd H D o):=λb u q=>by rw[ao (au q hD)];exact h b u q
def kz {H:Hp} {D:Addr} {xs ys:List V} (hD:H D=some (.lst xs)):AZ H (upd H D (.lst ys)):=λb zs q=>by
 by_cases e:b=D
 ·subst e;rw[hD] at q;cases q
 ·rw[ao e];exact q
def EU {α:Type} {x y:α} {r:List α}:kX (x::y::r) 1=some y:=iG (j:=1) rfl
def at2 {α:Type} {x y z:α} {r:List α}:kX (x::y::z::r) 2=some z:=iG (j:=2) rfl
section
variable {K:PySem.W.Frag} {g:TG} {tt:TT} {te:TE} {σ0:L2.St} {D:Addr} {F:Hp->Prop} {H1:Hp}
def pG {J:It} {n:Nat} (hD:H1 D=none) (E:Nat->List Mx.D) (hE:E 0=[]) (hn:n < sizeLine) (go:∀i H,i < n->bu H1 H->J.go i H) (stop:∀H,bu H1 H->J.stop n H)
  (hs:∀i x H H',i < n->bu H1 H->J.yld i H x H'->bu H H'/\∀(N:V->Hp->Prop) (M:Hp->Prop),(∀v H4 e,bu H' H4->DV H4 v e->E (i + 1)=E i++[e]->N v H4)->(∀H3,bu H' H3->E (i + 1)=E i->M H3)->
   g x σ0 H' λσ2 H2=>tt σ2 H2 λb H3=>if b=true then te σ2 H3 N else M H3)
  (hd:∀H acc,bu H1 H->H D=some (.lst acc)->aX H acc (E n)->F H):FN J g tt te σ0 D F H1:=by
 refine⟨λi m acc H=>m=n - i/\i<=n/\bu H1 H/\H D=some (.lst acc)/\aX H acc (E i)/\acc.length<=i,⟨n,by simp,Nat.zero_le _,cw hD _,az,by rw[hE];exact aX.nil,Pt _⟩,?_⟩;rintro i m acc H ⟨rfl,hi,hS,KM,oA,oP⟩;by_cases cz:i < n
 ·refine .inr ⟨go i H cz hS,λx H' y=>?_⟩;obtain⟨s1,st⟩:=hs i x H H' cz hS y;refine st _ _ (λv H4 e s4 he e4=>?_) (λH3 s3 e3=>?_)
  ·have LS:=s1.trans s4;have Hn:=LS _ _ KM;refine⟨acc,Hn,by omega,n - (i + 1),by omega,rfl,cz,y9 (hS.trans LS) hD,az,?_,by simp;omega⟩;rw[e4];exact(aX.append (oA.mono (lV LS)) (aX.cons he aX.nil)).mono (kz Hn)
  ·have LG:=s1.trans s3;exact⟨n - (i + 1),by omega,rfl,cz,hS.trans LG,LG _ _ KM,by rw[e3];exact oA.mono (lV LG),by omega⟩
 ·have e:i=n:=by omega
  subst e;exact .inl ⟨stop H hS,hd H acc hS KM oA⟩
end
def a8:Bool->Heap->Addr->Addr->Nat->Prop
 | false,h,i,l,k=>h.IsListIter i l k
 | true,h,i,l,k=>h.IsTupleIter i l k
def b9:Bool->Heap->Addr->Array Value->Prop
 | false,h,l,xs=>h.IsList l xs
 | true,h,l,xs=>h.IsTuple l xs
def a8.at:∀{b:Bool} {h h':Heap} {i l:Addr} {k:Nat},a8 b h i l k->(∀o,h.get? i=some o->h'.get? i=some o)->a8 b h' i l k
 | false,_,_,_,_,_,x,e=>Heap.IsListIter.at x e
 | true,_,_,_,_,_,x,e=>Heap.IsTupleIter.at x e
def b9.at:∀{b:Bool} {h h':Heap} {l:Addr} {xs:Array Value},b9 b h l xs->(∀o,h.get? l=some o->h'.get? l=some o)->b9 b h' l xs
 | false,_,_,_,_,x,e=>let ⟨o,ho,r⟩:=x;⟨o,e o ho,r⟩
 | true,_,_,_,_,x,e=>let ⟨o,ho,r⟩:=x;⟨o,e o ho,r⟩
def a8.obj:∀{b:Bool} {h:Heap} {i l:Addr} {k:Nat},a8 b h i l k->∃o,h.get? i=some o/\∀v,o.data≠ .cell v
 | false,_,_,_,_,x=>by obtain⟨o,e,c,d⟩:=x;exact⟨o,e,λv q=>by rw[d] at q;cases q⟩
 | true,_,_,_,_,x=>by obtain⟨o,e,c,d⟩:=x;exact⟨o,e,λv q=>by rw[d] at q;cases q⟩
section
variable {prog:Program} {w:World} {A:Around} {E:Value->Shared->Prop} {s:Shared}
def qP {it t:Addr} {i:Nat} {items:Array Value} {x:Value} {Q:Value->Shared->Prop} (hit:s.heap.IsTupleIter it t i) (ht:s.heap.IsTuple t items) (hx:items[i]?=some x)
  (hQ:∀h',h'.IsTupleIter it t (i + 1)->Heap.SameBut it s.heap h'->Q x {s with heap:=h'}):wpAny (model prog w) A (Builtin.SmallTypes.nextOf (.ref it)) Q E s:=by
 obtain⟨o,ho,hc,hd⟩:=id hit;obtain⟨ol,Et,_,nl,wL⟩:=ht;unfold Builtin.SmallTypes.nextOf;refine Pi (wpAny_callSpecial?_slot (name:=Str.ofString "__next__") hit.typeIs F.slot_tuple_iterator_next (wpAny_call_entry F.slot_tuple_iterator_next hit.typeIs F.entry_tuple_iterator_next (show wpAny _ _ (field (.ref it) 0 >>=_) _ _ s from Pi (wpAny_field ho hd (x:= .ref t) rfl ?_)) (F.args_tuple_iterator_next_1 _)));show wpAny _ _ (if (Value.ref t==Value.none)=true then _ else _) _ _ s;rw[if_neg (show¬((Value.ref t==Value.none)=true) from Bool.false_ne_true)];refine(show wpAny _ _ (field (.ref it) 1 >>=_) _ _ s from Pi (wpAny_field ho hd (x:= .int i 0) rfl (show wpAny _ _ (seqItems? (.ref t) >>=_) _ _ s from Pi (wpAny_seqItems Et wL ?_))));simp only[Int.toNat_natCast,hx];refine Pi (wpAny_setField ho hd (by simp) (Pl ⟨x,rfl,Pl (hQ _ ⟨_,Heap.get?_update_self _ ho (Obj.isFreed_of_fields (Obj.data_mapFields hd _)),(Obj.cls_mapFields ..).trans hc,?_⟩ (Heap.SameBut.update ..))⟩));rw[Obj.data_mapFields hd];simp[rawInt]
def u3 {it t:Addr} {i:Nat} {items:Array Value} {Q:Value->Shared->Prop} (hh:A.handled=none) (hit:s.heap.IsTupleIter it t i) (ht:s.heap.IsTuple t items) (hx:items[i]?=none)
  (hE:∀h' e,Heap.ExtBut it s.heap h'->(∃o,h'.get? e=some o/\o.cls= .type "StopIteration")->E (.ref e) {s with heap:=h'}):wpAny (model prog w) A (Builtin.SmallTypes.nextOf (.ref it)) Q E s:=by
 obtain⟨o,ho,hc,hd⟩:=id hit;obtain⟨ol,Et,_,nl,wL⟩:=ht;unfold Builtin.SmallTypes.nextOf;refine Pi (wpAny_callSpecial?_slot (name:=Str.ofString "__next__") hit.typeIs F.slot_tuple_iterator_next (wpAny_call_entry F.slot_tuple_iterator_next hit.typeIs F.entry_tuple_iterator_next (show wpAny _ _ (field (.ref it) 0 >>=_) _ _ s from Pi (wpAny_field ho hd (x:= .ref t) rfl ?_)) (F.args_tuple_iterator_next_1 _)));show wpAny _ _ (if (Value.ref t==Value.none)=true then _ else _) _ _ s;rw[if_neg (show¬((Value.ref t==Value.none)=true) from Bool.false_ne_true)];refine(show wpAny _ _ (field (.ref it) 1 >>=_) _ _ s from Pi (wpAny_field ho hd (x:= .int i 0) rfl (show wpAny _ _ (seqItems? (.ref t) >>=_) _ _ s from Pi (wpAny_seqItems Et wL ?_))));simp only[Int.toNat_natCast,hx];refine Pi (wpAny_rule (Pi (wpAny_setField ho hd (by simp) (show wpAny _ _ (newExc (.type "StopIteration") [] >>=_) _ _ _ from Pi ?_))));simp only[newExc,newTuple];refine Pi (wpAny_newObj_type (Pi (m:=firstArgMember _ _) (wpAny_of_eq (a:=Value.none) (by first | rfl | (simp only[firstArgMember];rfl)) (wpAny_newObj_type ?_ (by size_fits)))) (by size_fits));simp only[raiseNew];refine Pi (wpAny_handled ?_)
 first | rw[show A.in1.handled=none from hh] | rw[hh]
 exact Pi (Pl (wpAny_throw (hE _ _ (((Heap.SameBut.update ..).extBut.push _).push _) ⟨_,Pv _ rfl,rfl⟩)))
def bT {b:Bool} {it l:Addr} {i:Nat} {items:Array Value} {x:Value} {Q:Value->Shared->Prop} (hit:a8 b s.heap it l i) (hl:b9 b s.heap l items) (hx:items[i]?=some x)
  (hQ:∀h',a8 b h' it l (i + 1)->Heap.SameBut it s.heap h'->Q x {s with heap:=h'}):wpAny (model prog w) A (Builtin.SmallTypes.nextOf (.ref it)) Q E s:=by
 cases b with
 | false=>exact wpAny_nextOf_list_item hit hl hx hQ
 | true=>exact qP hit hl hx hQ
def d5 {b:Bool} {it l:Addr} {i:Nat} {items:Array Value} {Q:Value->Shared->Prop} (hh:A.handled=none) (hit:a8 b s.heap it l i) (hl:b9 b s.heap l items) (hx:items[i]?=none)
  (hE:∀h' e,Heap.ExtBut it s.heap h'->(∃o,h'.get? e=some o/\o.cls= .type "StopIteration")->E (.ref e) {s with heap:=h'}):wpAny (model prog w) A (Builtin.SmallTypes.nextOf (.ref it)) Q E s:=by
 cases b with
 | false=>exact wpAny_nextOf_list_end hh hit hl hx hE
 | true=>exact u3 hh hit hl hx hE
end
structure bG (z TO i1 i2 l:Addr):Prop where
 z:l≠z
 o:l≠TO
 a:l≠i1
 b:l≠i2
section
variable {prog:Program} {w:World} {A:Around} {E:Value->Shared->Prop} {s:Shared}
def lW {b1 b2:Bool} {z TI TO i1 i2 l1 l2:Addr} {k1 k2:Nat} {xs ys:Array Value} {x y a b:Value} {Q:Option Value->Shared->Prop} (D:iI z TI TO i1 i2) (O1:bG z TO i1 i2 l1) (O2:bG z TO i1 i2 l2)
  (hz:IsZip s.heap z TI TO .none) (Cv:IsPair s.heap TI (.ref i1) (.ref i2)) (KE:IsPair s.heap TO a b) (h1:a8 b1 s.heap i1 l1 k1) (h2:a8 b2 s.heap i2 l2 k2) (cy:b9 b1 s.heap l1 xs) (cX:b9 b2 s.heap l2 ys) (hx:xs[k1]?=some x) (hy:ys[k2]?=some y)
  (hQ:∀h',IsZip h' z TI TO (rawInt s.heap.objs.size)->IsPair h' TO x y->a8 b1 h' i1 l1 (k1 + 1)->a8 b2 h' i2 l2 (k2 + 1)->IsPair h' s.heap.objs.size x y->
   (∀c o,c≠z->c≠TO->c≠i1->c≠i2->s.heap.get? c=some o->h'.get? c=some o)->Q (some (.ref s.heap.objs.size)) {s with heap:=h'}):wpAny (model prog w) A (pyNext (.ref z)) Q E s:=by
 have hT:s.TypeIs (.ref z) "zip":=⟨_,hz,rfl⟩;unfold pyNext;refine Pi (wpAny_attempt (wpAny_callSpecial?_slot (name:=Str.ofString "__next__") hT F.slot_zip_next (wpAny_call_entry F.slot_zip_next hT F.entry_zip_next ?_ (F.args_zip_next_1 _))));refine(show wpAny _ _ (field (.ref z) 2 >>=_) _ _ _ from Pi (wpAny_field hz rfl (x:= .bool false) rfl (show wpAny _ _ (field (.ref z) 3 >>=_) _ _ _ from Pi (wpAny_field hz rfl (x:= .ref TI) rfl (Pi (wpAny_seqItems Cv rfl (show wpAny _ _ (Builtin.SmallTypes.ownedTupleIsFree (.ref z) >>=_) _ _ _ from Pi ?_)))))));unfold Builtin.SmallTypes.ownedTupleIsFree;refine Pi (wpAny_field hz rfl (x:= .none) rfl (Pl ?_));simp only[if_true];refine Pi (wpAny_rule (Pi (wpAny_field hz rfl (x:= .ref TO) rfl (Pi (P7 hz (by simp) λg1 z1 e1=>Pi ?_)))))
 replace z1:IsZip g1 z TI TO .ellipsis:=z1
 simp only[List.zipIdx_cons,List.zipIdx_nil,List.forIn_cons,List.forIn_nil];refine Pi (Pi (wpAny_onRaise (show wpAny _ _ (Builtin.SmallTypes.nextOf (.ref i1) >>=_) _ _ _ from Pi (bT (h1.at λo q=>e1.extBut _ o D.i1z q) (cy.at λo q=>e1.extBut _ o O1.z q) hx λg2 j1 e2=>Pl ?_))));have t2:IsPair g2 TO a b:=e2.extBut _ _ D.TOi1 (e1.extBut _ _ D.TOz KE);refine Pi (wpAny_seqItems t2 rfl (Pi (wpAny_updateSeq_pair t2 λg3 t3 e3=>Pi (wpAny_letGo (Pl ?_)))))
 replace t3:IsPair g3 TO x b:=t3
 refine Pi (Pi (wpAny_onRaise (show wpAny _ _ (Builtin.SmallTypes.nextOf (.ref i2) >>=_) _ _ _ from Pi (bT (h2.at λo q=>e3.extBut _ o D.TOi2.symm (e2.extBut _ o D.i12.symm (e1.extBut _ o D.i2z q))) (cX.at λo q=>e3.extBut _ o O2.o (e2.extBut _ o O2.a (e1.extBut _ o O2.z q))) hy λg4 j2 e4=>Pl ?_))));have t4:IsPair g4 TO x b:=e4.extBut _ _ D.TOi2 t3;refine Pi (wpAny_seqItems t4 rfl (Pi (wpAny_updateSeq_pair t4 λg5 t5 e5=>Pi (wpAny_letGo (Pl (Pl ?_))))))
 replace t5:IsPair g5 TO x y:=t5
 refine Pi (wpAny_seqItems t5 rfl (Pi (wpAny_newTuple ?_)));have sz:g5.objs.size=s.heap.objs.size:=by rw[e5.1,e4.1,e3.1,e2.1,e1.1]
 have z5:IsZip g5 z TI TO .ellipsis:=e5.extBut _ _ D.TOz.symm (e4.extBut _ _ D.i2z.symm (e3.extBut _ _ D.TOz.symm (e2.extBut _ _ D.i1z.symm z1)));have old:∀c o,c≠z->c≠TO->c≠i1->c≠i2->s.heap.get? c=some o->g5.get? c=some o:=λc o c1 c2 c3 c4 q=>e5.extBut _ _ c2 (e4.extBut _ _ c4 (e3.extBut _ _ c2 (e2.extBut _ _ c3 (e1.extBut _ _ c1 q))))
 have n1:a8 b1 g5 i1 l1 (k1 + 1):=j1.at λo q=>e5.extBut _ o D.TOi1.symm (e4.extBut _ o D.i12 (e3.extBut _ o D.TOi1.symm q))
 have n2:a8 b2 g5 i2 l2 (k2 + 1):=j2.at λo q=>e5.extBut _ o D.TOi2.symm q
 have Ms:z < g5.objs.size:=Py z5;refine(show wpAny _ _ (Builtin.SmallTypes.ownedTupleHandOut (.ref z) (.ref g5.objs.size) >>=_) _ _ _ from Pi ?_);unfold Builtin.SmallTypes.ownedTupleHandOut;have z6:IsZip (g5.push {cls:= .type "tuple",data:= .seq #[x,y]}) z TI TO .ellipsis:=Pk _ z5;refine Pi (P7 z6 (by simp) λg7 z7 e7=>?_)
 replace z7:IsZip g7 z TI TO (rawInt g5.objs.size):=z7
 refine P7 z7 (by simp) λg8 z8 e8=>?_
 replace z8:IsZip g8 z TI TO (rawInt g5.objs.size):=z8
 have up:∀c o,c≠z->g5.get? c=some o->g8.get? c=some o:=λc o c1 q=>e8.extBut _ _ c1 (e7.extBut _ _ c1 (Pk _ q))
 have t8:IsPair g8 g5.objs.size x y:=e8.extBut _ _ (Nat.ne_of_gt Ms) (e7.extBut _ _ (Nat.ne_of_gt Ms) (Pv _ rfl));rw[sz] at z8 t8;refine Pl ⟨_,rfl,Pl ?_⟩;show Q (some (.ref g5.objs.size)) _;rw[sz];exact hQ g8 z8 (up _ _ D.TOz t5) (n1.at λo q=>up _ o D.i1z q) (n2.at λo q=>up _ o D.i2z q) t8 λc o c1 c2 c3 c4 q=>up c o c1 (old c o c1 c2 c3 c4 q)
def oM {b1 b2:Bool} {z TI TO i1 i2 l1 l2:Addr} {k1 k2:Nat} {xs ys:Array Value} {a b:Value} {Q:Option Value->Shared->Prop} (hh:A.handled=none) (D:iI z TI TO i1 i2) (O1:bG z TO i1 i2 l1) (O2:bG z TO i1 i2 l2)
  (hz:IsZip s.heap z TI TO .none) (Cv:IsPair s.heap TI (.ref i1) (.ref i2)) (KE:IsPair s.heap TO a b) (h1:a8 b1 s.heap i1 l1 k1) (h2:a8 b2 s.heap i2 l2 k2) (cy:b9 b1 s.heap l1 xs) (cX:b9 b2 s.heap l2 ys) (oH:xs[k1]?=none\/ys[k2]?=none)
  (hQ:∀h',(∀c o,c≠z->c≠TO->c≠i1->c≠i2->s.heap.get? c=some o->h'.get? c=some o)->Q none {s with heap:=h'}):wpAny (model prog w) A (pyNext (.ref z)) Q E s:=by
 have hT:s.TypeIs (.ref z) "zip":=⟨_,hz,rfl⟩;unfold pyNext;refine Pi (wpAny_attempt (wpAny_callSpecial?_slot (name:=Str.ofString "__next__") hT F.slot_zip_next (wpAny_call_entry F.slot_zip_next hT F.entry_zip_next ?_ (F.args_zip_next_1 _))));have stop:∀(h':Heap) (e:Addr),(∀c o,c≠z->c≠TO->c≠i1->c≠i2->s.heap.get? c=some o->h'.get? c=some o)->(∃o,h'.get? e=some o/\o.cls= .type "StopIteration")->wpAny (model prog w) A (isInstance (.ref e) (.type "StopIteration")) (λr s'=>r=true/\Q none s') E {s with heap:=h'}:=λh' e kk he=>by obtain⟨o,ho,hc⟩:=he;exact wpAny_isInstance (T:="StopIteration") (b:=true) ⟨o,ho,hc⟩ isSubtype_stop ⟨rfl,hQ _ kk⟩
 refine(show wpAny _ _ (field (.ref z) 2 >>=_) _ _ _ from Pi (wpAny_field hz rfl (x:= .bool false) rfl (show wpAny _ _ (field (.ref z) 3 >>=_) _ _ _ from Pi (wpAny_field hz rfl (x:= .ref TI) rfl (Pi (wpAny_seqItems Cv rfl (show wpAny _ _ (Builtin.SmallTypes.ownedTupleIsFree (.ref z) >>=_) _ _ _ from Pi ?_)))))));unfold Builtin.SmallTypes.ownedTupleIsFree;refine Pi (wpAny_field hz rfl (x:= .none) rfl (Pl ?_));simp only[if_true];refine Pi (wpAny_rule (Pi (wpAny_field hz rfl (x:= .ref TO) rfl (Pi (P7 hz (by simp) λg1 z1 e1=>Pi ?_)))))
 replace z1:IsZip g1 z TI TO .ellipsis:=z1
 simp only[List.zipIdx_cons,List.zipIdx_nil,List.forIn_cons,List.forIn_nil];refine Pi (Pi (wpAny_onRaise ?_));show wpAny _ _ (Builtin.SmallTypes.nextOf (.ref i1) >>=_) _ _ _;cases hx:xs[k1]? with
 | none=>
  refine Pi (d5 hh (h1.at λo q=>e1.extBut _ o D.i1z q) (cy.at λo q=>e1.extBut _ o O1.z q) hx λg2 e e2 he=>?_);obtain⟨oe,Ef,BJ⟩:=he;have z2:IsZip g2 z TI TO .ellipsis:=e2 _ _ D.i1z.symm z1;have Lx:e≠z:=λx=>by subst x;rw[z2] at Ef;cases Ef;simp at BJ
  refine P7 z2 (by simp) λg3 _ e3=>?_
  refine Pi (wpAny_mono (stop g3 e (λc o c1 _ c3 _ x=>e3.extBut _ _ c1 (e2 _ _ c3 (e1.extBut _ _ c1 x))) ⟨oe,e3.extBut _ _ Lx Ef,BJ⟩) (λr s' q=>?_) λ_ _ q=>q);obtain⟨rfl,q⟩:=q;exact Pl q
 | some x=>
  have hy:ys[k2]?=none:=by rcases oH with h | h;rw[hx] at h;cases h;exact h
  refine Pi (bT (h1.at λo q=>e1.extBut _ o D.i1z q) (cy.at λo q=>e1.extBut _ o O1.z q) hx λg2 j1 e2=>Pl ?_);have t2:IsPair g2 TO a b:=e2.extBut _ _ D.TOi1 (e1.extBut _ _ D.TOz KE);refine Pi (wpAny_seqItems t2 rfl (Pi (wpAny_updateSeq_pair t2 λg3 t3 e3=>Pi (wpAny_letGo (Pl ?_)))));refine Pi (Pi (wpAny_onRaise (show wpAny _ _ (Builtin.SmallTypes.nextOf (.ref i2) >>=_) _ _ _ from Pi (d5 hh (h2.at λo q=>e3.extBut _ o D.TOi2.symm (e2.extBut _ o D.i12.symm (e1.extBut _ o D.i2z q))) (cX.at λo q=>e3.extBut _ o O2.o (e2.extBut _ o O2.a (e1.extBut _ o O2.z q))) hy λg4 e e4 he=>?_))));obtain⟨oe,Ef,BJ⟩:=he;have z4:IsZip g4 z TI TO .ellipsis:=e4 _ _ D.i2z.symm (e3.extBut _ _ D.TOz.symm (e2.extBut _ _ D.i1z.symm z1));have Lx:e≠z:=λx=>by subst x;rw[z4] at Ef;cases Ef;simp at BJ
  refine P7 z4 (by simp) λg5 _ e5=>?_
  refine Pi (wpAny_mono (stop g5 e (λc o c1 c2 c3 c4 x=>e5.extBut _ _ c1 (e4 _ _ c4 (e3.extBut _ _ c2 (e2.extBut _ _ c3 (e1.extBut _ _ c1 x))))) ⟨oe,e5.extBut _ _ Lx Ef,BJ⟩) (λr s' q=>?_) λ_ _ q=>q);obtain⟨rfl,q⟩:=q;exact Pl q
end
def gi:Bool->Addr->Obj
 | false,l=>{cls:= .type "list_iterator",data:= .fields #[.ref l,.int 0 0]}
 | true,l=>{cls:= .type "tuple_iterator",data:= .fields #[.ref l,.int 0 0]}
def jX:∀{b:Bool} {h:Heap} {i l:Addr},h.get? i=some (gi b l)->a8 b h i l 0
 | false,_,_,_,e=>⟨_,e,rfl,rfl⟩
 | true,_,_,_,e=>⟨_,e,rfl,rfl⟩
def iQ (b:Bool) (l:Addr):(gi b l).isFreed=false:=by cases b <;> rfl
abbrev IT (h:Heap) (b1:Bool) (l1:Addr):Heap:=h.push (gi b1 l1)
abbrev IA (h:Heap) (b1 b2:Bool) (l1 l2:Addr):Heap:=(IT h b1 l1).push (gi b2 l2)
abbrev IQ (h:Heap) (b1 b2:Bool) (l1 l2:Addr):Heap:=(IA h b1 b2 l1 l2).push {cls:= .type "tuple",data:= .seq #[.ref h.objs.size,.ref (IT h b1 l1).objs.size]}
abbrev Iw (h:Heap) (b1 b2:Bool) (l1 l2:Addr):Heap:=(IQ h b1 b2 l1 l2).push {cls:= .type "tuple",data:= .seq #[.none,.none]}
abbrev ES (h:Heap) (b1 b2:Bool) (l1 l2:Addr):Heap:=(Iw h b1 b2 l1 l2).push {cls:= .type "zip",data:= .fields #[.none,.bool false,.bool false,.ref (IA h b1 b2 l1 l2).objs.size,.ref (IQ h b1 b2 l1 l2).objs.size]}
def b9.push {b:Bool} {h:Heap} {l:Addr} {xs:Array Value} (x:b9 b h l xs) (o:Obj):b9 b (h.push o) l xs:=x.at λ_ e=>Pk _ e
def yK (b1 b2:Bool) (l1 l2:Addr) (xs ys:Array Value):
  Meets (Builtin.«zip.__new__» ⟨[.type "zip",.ref l1,.ref l2],[]⟩) (λ_ R s=>b9 b1 s.heap l1 xs/\b9 b2 s.heap l2 ys/\R (.ok (.ret (.ref (Iw s.heap b1 b2 l1 l2).objs.size))) {s with heap:=ES s.heap b1 b2 l1 l2}):=
 .of_wp λprog w A R s h=>by
  obtain⟨hp,g,d,tk,os⟩:=s;obtain⟨cy,cX,h⟩:=h;have ve:=sub_zip;have Jj:=cX.push (gi b1 l1);cases b1 <;> cases b2
  ·have k1:Heap.IsList (Shared.heap ⟨hp,g,d,tk,os⟩) l1 xs:=cy;have k2:Heap.IsList (Shared.heap ⟨hp.push {cls:= .type "list_iterator",data:= .fields #[.ref l1,.int 0 0]},g,d,tk,os⟩) l2 ys:=Jj
   wp_walk using wpAny_pyIter_list k1,wpAny_pyIter_list k2
   exact⟨_,rfl,h⟩
  ·have k1:Heap.IsList (Shared.heap ⟨hp,g,d,tk,os⟩) l1 xs:=cy;have k2:Heap.IsTuple (Shared.heap ⟨hp.push {cls:= .type "list_iterator",data:= .fields #[.ref l1,.int 0 0]},g,d,tk,os⟩) l2 ys:=Jj
   wp_walk using wpAny_pyIter_list k1,wpAny_pyIter_tuple k2
   exact⟨_,rfl,h⟩
  ·have k1:Heap.IsTuple (Shared.heap ⟨hp,g,d,tk,os⟩) l1 xs:=cy;have k2:Heap.IsList (Shared.heap ⟨hp.push {cls:= .type "tuple_iterator",data:= .fields #[.ref l1,.int 0 0]},g,d,tk,os⟩) l2 ys:=Jj
   wp_walk using wpAny_pyIter_tuple k1,wpAny_pyIter_list k2
   exact⟨_,rfl,h⟩
  ·have k1:Heap.IsTuple (Shared.heap ⟨hp,g,d,tk,os⟩) l1 xs:=cy;have k2:Heap.IsTuple (Shared.heap ⟨hp.push {cls:= .type "tuple_iterator",data:= .fields #[.ref l1,.int 0 0]},g,d,tk,os⟩) l2 ys:=Jj
   wp_walk using wpAny_pyIter_tuple k1,wpAny_pyIter_tuple k2
   exact⟨_,rfl,h⟩
section
variable {prog:Program} {w:World} {A:Around} {E:Value->Shared->Prop} {s:Shared}
def lT {b1 b2:Bool} {l1 l2:Addr} {xs ys:Array Value} {Q:Value->Shared->Prop} (cy:b9 b1 s.heap l1 xs) (cX:b9 b2 s.heap l2 ys)
  (h:∀h',IsZip h' (s.heap.objs.size + 4) (s.heap.objs.size + 2) (s.heap.objs.size + 3) .none->IsPair h' (s.heap.objs.size + 2) (.ref s.heap.objs.size) (.ref (s.heap.objs.size + 1))->IsPair h' (s.heap.objs.size + 3) .none .none->
   a8 b1 h' s.heap.objs.size l1 0->a8 b2 h' (s.heap.objs.size + 1) l2 0->(∀c o,s.heap.get? c=some o->h'.get? c=some o)->Q (.ref (s.heap.objs.size + 4)) {s with heap:=h'}):wpAny (model prog w) A (call (.type "zip") [.ref l1,.ref l2]) Q E s:=by
 refine callType_new F.called_zip (by decide) (F.typeCall_zip_2 _ _) (F.newCall_zip_2 _ _) (λobj=>F.args_object_init_3 obj _ _) F.entry_zip_new (yK b1 b2 l1 l2 xs ys) ⟨cy,cX,?_⟩;have y1:(IT s.heap b1 l1).objs.size=s.heap.objs.size + 1:=P4 ..;have y2:(IA s.heap b1 b2 l1 l2).objs.size=s.heap.objs.size + 2:=by rw[P4,y1]
 have y3:(IQ s.heap b1 b2 l1 l2).objs.size=s.heap.objs.size + 3:=by rw[P4,y2]
 have y4:(Iw s.heap b1 b2 l1 l2).objs.size=s.heap.objs.size + 4:=by rw[P4,y3]
 have g5:(ES s.heap b1 b2 l1 l2).get? (Iw s.heap b1 b2 l1 l2).objs.size=some _:=Pv _ rfl;have g4:(ES s.heap b1 b2 l1 l2).get? (IQ s.heap b1 b2 l1 l2).objs.size=some _:=Pk _ (Pv _ rfl);have g3:(ES s.heap b1 b2 l1 l2).get? (IA s.heap b1 b2 l1 l2).objs.size=some _:=Pk _ (Pk _ (Pv _ rfl));have g2:(ES s.heap b1 b2 l1 l2).get? (IT s.heap b1 l1).objs.size=some _:=Pk _ (Pk _ (Pk _ (Pv _ (iQ b2 l2))));have g1:(ES s.heap b1 b2 l1 l2).get? s.heap.objs.size=some _:=Pk _ (Pk _ (Pk _ (Pk _ (Pv _ (iQ b1 l1)))));show _/\_;rw[y2,y3,y4] at g5;rw[y1,y2] at g3;rw[y3] at g4;rw[y1] at g2;rw[y4];exact⟨⟨_,g5,rfl⟩,h _ g5 g3 g4 (jX g1) (jX g2) λc o x=>Pk _ (Pk _ (Pk _ (Pk _ (Pk _ x))))⟩
end
def ij:Bool->List V->HO
 | false,xs=> .lst xs
 | true,xs=> .tup xs
def mO {b:Bool} {xs ys:List V} (h:ij b xs=ij b ys):xs=ys:=by
 cases b with
 | false=>injection h
 | true=>injection h
def JP (b1 b2:Bool) (l1 l2:Addr):It where
 go:=λi H=>∃xs ys x y,H l1=some (ij b1 xs)/\H l2=some (ij b2 ys)/\xs[i]?=some x/\ys[i]?=some y
 yld:=λi H v H'=>∃p x y,v= .ref p/\H p=none/\H'=upd H p (.tup [x,y])/\∀xs ys,H l1=some (ij b1 xs)->H l2=some (ij b2 ys)->xs[i]?=some x/\ys[i]?=some y
 stop:=λi H=>∃xs ys,H l1=some (ij b1 xs)/\H l2=some (ij b2 ys)/\(xs.length<=i\/ys.length<=i)
def bj {X:Cx} {pins:List (Addr×Obj)} {s:Shared} {σ:L2.St} {H:Hp} (I:Inv X pins σ H s) {b:Bool} {l:Addr} {xs:List V} (h:H l=some (ij b xs)):∃its:List Value,aw xs its/\b9 b s.heap l its.toArray:=by
 cases b with
 | false=>obtain⟨its,r,p,_⟩:=I.list (.inl (.inl h));exact⟨its,r,p.isList⟩
 | true=>obtain⟨its,r,p,_⟩:=I.tuple (.inl (.inl h));exact⟨its,r,p⟩
def N2 (b1 b2:Bool) (z TI TO i1 i2 l1 l2:Addr) (i:Nat) (h:Heap):Prop:=IsZip h z TI TO .none/\IsPair h TI (.ref i1) (.ref i2)/\(∃a b,IsPair h TO a b)/\a8 b1 h i1 l1 i/\a8 b2 h i2 l2 i
def vD {P:Program} {w:World} {K:PySem.W.Frag} {es:List Expr} {k:Nat} {tp:Pos} {b1 b2:Bool} {z TI TO i1 i2 l1 l2:Addr} (ap:iI z TI TO i1 i2):
  Turn P w K (.Tuple es k tp) (JP b1 b2 l1 l2) [z,TI,TO,i1,i2] z (N2 b1 b2 z TI TO i1 i2 l1 l2) where
 mem:=by simp
 obj:=λi h st b hb=>by
  obtain⟨s1,s2,⟨a,b',s3⟩,s4,s5⟩:=st;simp only[PC,PD,or_false] at hb;rcases hb with rfl | rfl | rfl | rfl | rfl
  ·exact⟨_,s1,λv q=>by cases q⟩
  ·exact⟨_,s2,λv q=>by cases q⟩
  ·exact⟨_,s3,λv q=>by cases q⟩
  ·exact s4.obj
  ·exact s5.obj
 keep:=λi h h' st kk=>by obtain⟨s1,s2,⟨a,b',s3⟩,s4,s5⟩:=st;exact⟨kk z (by simp) _ s1,kk TI (by simp) _ s2,⟨a,b',kk TO (by simp) _ s3⟩,s4.at λo e=>kk i1 (by simp) o e,s5.at λo e=>kk i2 (by simp) o e⟩
 item:=by
  intro X hP hw hK hc i pins s σ H E I hf st hg;subst hP hw hK;obtain⟨xs,ys,x,y,cy,cX,hx,hy⟩:=hg;obtain⟨s1,s2,⟨a,b',s3⟩,s4,s5⟩:=st;obtain⟨cG,r1,p1⟩:=bj I cy;obtain⟨aJ,r2,p2⟩:=bj I cX;obtain⟨u1,sV,Ia⟩:=r1.get hx;obtain⟨u2,K2,LB⟩:=r2.get hy;have ne:∀{l:Addr} {o:HO},H l=some o->∀b∈[z,TI,TO,i1,i2],l≠b:=λ {l o} hl b hb e=>by subst e;rw[(hf l hb).1] at hl;cases hl
  have off:∀{l:Addr} {o:HO},H l=some o->bG z TO i1 i2 l:=λ {l o} hl=>⟨ne hl z (by simp),ne hl TO (by simp),ne hl i1 (by simp),ne hl i2 (by simp)⟩
  refine lW ap (off cy) (off cX) s1 s2 s3 s4 s5 p1 p2 (by simpa using sV) (by simpa using K2) λh' a1 a2 a3 a4 a5 a7=>⟨_,rfl,?_⟩
  refine wpAny_letOwnedTupleGo_zip (s:={s with heap:=h'}) a1 λh2 c1 c2=>?_
  have JR:s.heap.objs.size≠z:=λe=>by have:=Py s1;rw[<-e] at this;exact Nat.lt_irrefl _ this
  have JQ:IsPair h2 TI (.ref i1) (.ref i2):=(c2.2 TI ap.TIz).trans (a7 TI _ ap.TIz ap.TITO ap.TIi1 ap.TIi2 s2);have Fk:h2.get? s.heap.objs.size=some {cls:= .type "tuple",data:= .seq #[u1,u2]}:=(c2.2 _ JR).trans a5;have kk:∀b o,b∉[z,TI,TO,i1,i2]->s.heap.get? b=some o->h2.get? b=some o:=λb o hb e=>by simp only[PC,PD,or_false,not_or] at hb;exact(c2.2 b hb.1).trans (a7 b o hb.1 hb.2.2.1 hb.2.2.2.1 hb.2.2.2.2 e)
  have lt:∀{b:Addr} {o:Obj},s.heap.get? b=some o->b≠s.heap.objs.size:=λe=>P5 (Py e)
  have oo:∀b u,H b=some u->b∉[z,TI,TO,i1,i2]:=λb u e hb=>by rw[(hf b hb).1] at e;cases e
  have j7:H s.heap.objs.size=none:=I.fresh;have I2:Inv X pins σ (upd H s.heap.objs.size (.tup [x,y])) {s with heap:=h2,toks:=s.toks}:=by
   refine I.step (g':=s.gens) (d':=s.drawn) (ch:=[z,TI,TO,i1,i2]) (λb hb=>⟨(hf b hb).2.2.2.1,(hf b hb).2.1,(hf b hb).2.2.2.2.1,(hf b hb).2.2.2.2.2⟩) (λb o _ _ hb e _=>kk b o hb e) (λb o _ _ hb e _=>⟨o.slots,kk b o hb e⟩)
    (λb o hb e n=>by rw[ao (lt e)];exact n) (λb o hb e=>⟨o,kk b o hb e⟩) (λb zs e=>by rw[ao (au e j7)];exact e) (λb o u e=>by rw[ao (au e j7)];exact e)
    (λb ps e=>⟨#[],by rw[ao (au e j7),e];simp⟩) (λm hm=>?_) (λb u e=>?_) I.bare
   ·obtain⟨o,cQ,ep,ho,rr⟩:=hm;exact⟨o,cQ,ep,kk _ o (λhb=>(hf _ hb).2.1 rfl) ho,rr⟩
   ·by_cases hb:b=s.heap.objs.size
    ·subst hb;rw[az] at e;cases e;exact⟨by show 2<=sizeLine;decide,[u1,u2],.cons Ia (.cons LB .nil),_,Fk,rfl,0,rfl⟩
    ·rw[ao hb] at e;refine(I.hok b u e).iR (λc v hc q=>kk c v ?_ q) (λc q=>by rw[ao (au q j7)];exact q) λc zs q=>by rw[ao (au q j7)];exact q
     rcases hc with rfl | hc
     ·exact oo c u e
     ·exact oo c _ hc
  refine⟨.ref s.heap.objs.size,_,I2,rfl,⟨s.heap.objs.size,x,y,rfl,j7,rfl,λnC Jc q1 q2=>?_⟩,⟨c1,JQ,⟨u1,u2,(c2.2 TO ap.TOz).trans a2⟩,a3.at λo e=>(c2.2 i1 ap.i1z).trans e,a4.at λo e=>(c2.2 i2 ap.i2z).trans e⟩,λb hb=>?_⟩
  ·rw[cy] at q1;rw[cX] at q2;rw[mO (Option.some.inj q1).symm,mO (Option.some.inj q2).symm];exact⟨hx,hy⟩
  ·rw[ao (λe=>?_)]
   ·exact(hf b hb).1
   ·have q:∃o,s.heap.get? b=some o:=by
     simp only[PC,PD,or_false] at hb;rcases hb with rfl | rfl | rfl | rfl | rfl
     ·exact⟨_,s1⟩
     ·exact⟨_,s2⟩
     ·exact⟨_,s3⟩
     ·obtain⟨o,e,_⟩:=s4.obj;exact⟨o,e⟩
     ·obtain⟨o,e,_⟩:=s5.obj;exact⟨o,e⟩
    obtain⟨o,q⟩:=q;exact lt q e
 done:=by
  intro X hP hw hK hc i pins s σ H E I hf st hg;subst hP hw hK;obtain⟨xs,ys,cy,cX,oH⟩:=hg;obtain⟨s1,s2,⟨a,b',s3⟩,s4,s5⟩:=st;obtain⟨cG,r1,p1⟩:=bj I cy;obtain⟨aJ,r2,p2⟩:=bj I cX;have ne:∀{l:Addr} {o:HO},H l=some o->∀b∈[z,TI,TO,i1,i2],l≠b:=λ {l o} hl b hb e=>by subst e;rw[(hf l hb).1] at hl;cases hl
  have off:∀{l:Addr} {o:HO},H l=some o->bG z TO i1 i2 l:=λ {l o} hl=>⟨ne hl z (by simp),ne hl TO (by simp),ne hl i1 (by simp),ne hl i2 (by simp)⟩
  have e1:=r1.length;have e2:=r2.length;refine oM (I.ok.hd hc) ap (off cy) (off cX) s1 s2 s3 s4 s5 p1 p2 (by simp;omega) λh' kk=>⟨rfl,?_⟩
  have oo:∀b u,H b=some u->b∉[z,TI,TO,i1,i2]:=λb u e hb=>by rw[(hf b hb).1] at e;cases e
  have jr:∀b o,b∉[z,TI,TO,i1,i2]->s.heap.get? b=some o->h'.get? b=some o:=λb o hb e=>by simp only[PC,PD,or_false,not_or] at hb;exact kk b o hb.1 hb.2.2.1 hb.2.2.2.1 hb.2.2.2.2 e
  refine I.step (g':=s.gens) (d':=s.drawn) (t':=s.toks) (h':=h') (ch:=[z,TI,TO,i1,i2]) (λb hb=>⟨(hf b hb).2.2.2.1,(hf b hb).2.1,(hf b hb).2.2.2.2.1,(hf b hb).2.2.2.2.2⟩) (λb o _ _ hb e _=>jr b o hb e) (λb o _ _ hb e _=>⟨o.slots,jr b o hb e⟩)
   (λb o hb e n=>n) (λb o hb e=>⟨o,jr b o hb e⟩) (λb zs e=>e) (λb o u e=>e) (λb ps e=>⟨#[],by rw[e];simp⟩) (λm hm=>?_) (λb u e=>?_) I.bare
  ·obtain⟨o,cQ,ep,ho,rr⟩:=hm;exact⟨o,cQ,ep,jr _ o (λhb=>(hf _ hb).2.1 rfl) ho,rr⟩
  ·refine(I.hok b u e).iR (λc v hc q=>jr c v ?_ q) (λc q=>q) λc zs q=>q
   rcases hc with rfl | hc
   ·exact oo c u e
   ·exact oo c _ hc
 self:=λ_ _ _ _ _ st h=>wpAny_pyIter_zip st.1 h
def HM (ta:TA):TI:=λσ H R=>ta σ H λvs H1=>∃b1 b2 l1 l2 xs ys,vs=[.ref l1,.ref l2]/\H1 l1=some (ij b1 xs)/\H1 l2=some (ij b2 ys)/\R (JP b1 b2 l1 l2) H1
def zQ {X:Cx} {es:List Expr} {k:Nat} {tp:Pos} {a b:Expr} {ta:TA} {p pos:Pos} (hg:Gl X "zip") (hm:X.mg "zip"=none) (ha:PA X [a,b] ta) (hs:starEach [a,b] X.env=[(false,eval a X.env),(false,eval b X.env)]:=by rfl) (qD:starEach [b] X.env=[(false,eval b X.env)]:=by rfl):
  PI X (.Tuple es k tp) (.Call (.Name "zip" p) [a,b] [] pos) (HM ta):=by
 intro pins s σ H R I h;refine Call_ (dz I hg hm boot_zip (PyProof.Rows.callWith_type1 (bw (ha pos pins s σ H _ I h) λus s1 ⟨vs,H1,I1,r1,q1⟩=>?_) (by rw[hs,qD]) (by rw[qD];rfl)));obtain⟨b1,b2,l1,l2,xs,ys,e,e1,e2,q⟩:=q1;subst e;obtain⟨u,v,rfl,ru,rv⟩:=r1.two;cases ru;cases rv;obtain⟨cG,_,p1⟩:=bj I1 e1;obtain⟨aJ,_,p2⟩:=bj I1 e2;refine lT p1 p2 λh' g1 g2 g3 g4 g5 kk=>?_
 refine wpAny_pyIter_zip (s:={s1 with heap:=h'}) g1 ?_;have I2:Inv X pins σ H1 {s1 with heap:=h'}:=I1.kept (t':=s1.toks) kk;refine⟨s1.heap.objs.size + 4,[s1.heap.objs.size + 4,s1.heap.objs.size + 2,s1.heap.objs.size + 3,s1.heap.objs.size,s1.heap.objs.size + 1],_,_,H1,rfl,I2,vD (l1:=l1) (l2:=l2) ⟨?_,?_,?_,?_,?_,?_,?_,?_,?_,?_⟩,⟨g1,g2,⟨_,_,g3⟩,g4,g5⟩,λb hb=>?_,q⟩
 iterate 10 (first | (apply P5;omega) | (apply Nat.ne_of_gt;omega))
 have iK:s1.heap.objs.size<=b:=by simp only[PC,PD,or_false] at hb;rcases hb with h | h | h | h | h <;> (rw[h];first | exact Nat.le_add_right _ _ | exact Pt _)
 exact I1.pA iK (I1.hok.fresh iK)
open AutoSeq1 (wpAny_loadPart')
def yJ {prog:Program} {w:World} {A:Around} (hh:A.handled=none) (b:Bool) (it l:Addr) (jA:l≠it) (items:Array Value):
  Draws prog w A it [it,l] items.size (λi v=>items[i]?=some v) (λi h=>a8 b h it l i/\b9 b h l items) where
 live:=λ_ _ st=>let ⟨o,ho,_⟩:=st.1.obj;⟨o,ho⟩
 frame:=λ_ _ _ st hk=>⟨st.1.at λo e=>hk it (by simp) o e,st.2.at λo e=>hk l (by simp) o e⟩
 item:=λi s Q E hi st hQ=>by
  refine bT st.1 st.2 (x:=items[i]) (by simp[hi]) λh' KZ hs'=>?_
  exact hQ _ h' s.toks (by simp[hi]) ⟨KZ,st.2.at λo e=>hs'.extBut _ o jA e⟩ hs'
 done:=λs Q E st hE=>d5 hh st.1 st.2 (by simp) hE
def vh (b:Bool) (l:Addr) (xs:Array Value):
  Meets (Builtin.«enumerate.__new__» ⟨[.type "enumerate",.ref l],[]⟩) (λ_ R s=>b9 b s.heap l xs/\
   R (.ok (.ret (.ref (s.heap.push (gi b l)).objs.size)))
    {s with heap:=(s.heap.push (gi b l)).push {cls:= .type "enumerate",data:= .fields #[.none,.bool false,.ref s.heap.objs.size,rawInt 0,.none,.none]}}):=
 .of_wp λprog w A R s h=>by
  obtain⟨hp,g,d,tk,os⟩:=s;obtain⟨hl,h⟩:=h;have ve:=sub_enumerate;cases b
  ·have hL:Heap.IsList (Shared.heap ⟨hp,g,d,tk,os⟩) l xs:=hl
   wp_walk
   refine wpAny_stack_any λst=>Pl ?_
   split
   ·rename_i c _ _ _ _ _;cases (c==Value.type "enumerate")
    ·wp_walk using wpAny_pyIter_list hL
     exact⟨_,rfl,h⟩
    ·wp_walk using wpAny_pyIter_list hL
     exact⟨_,rfl,h⟩
   ·wp_walk using wpAny_pyIter_list hL
    exact⟨_,rfl,h⟩
  ·have hL:Heap.IsTuple (Shared.heap ⟨hp,g,d,tk,os⟩) l xs:=hl
   wp_walk
   refine wpAny_stack_any λst=>Pl ?_
   split
   ·rename_i c _ _ _ _ _;cases (c==Value.type "enumerate")
    ·wp_walk using wpAny_pyIter_tuple hL
     exact⟨_,rfl,h⟩
    ·wp_walk using wpAny_pyIter_tuple hL
     exact⟨_,rfl,h⟩
   ·wp_walk using wpAny_pyIter_tuple hL
    exact⟨_,rfl,h⟩
section
variable {prog:Program} {w:World} {A:Around} {E:Value->Shared->Prop} {s:Shared}
def rm {b:Bool} {l:Addr} {xs:Array Value} {Q:Value->Shared->Prop} (hl:b9 b s.heap l xs)
  (h:∀h',IsEnum h' (s.heap.objs.size + 1) s.heap.objs.size 0 .none->a8 b h' s.heap.objs.size l 0->(∀c o,s.heap.get? c=some o->h'.get? c=some o)->Q (.ref (s.heap.objs.size + 1)) {s with heap:=h'}):
  wpAny (model prog w) A (call (.type "enumerate") [.ref l]) Q E s:=by
 refine callType_new F.called_enumerate (by decide) (F.typeCall_enumerate_1 _) (F.newCall_enumerate_1 _) (λobj=>F.args_object_init_2 obj _) F.entry_enumerate_new
  (vh b l xs) ⟨hl,?_⟩
 have hz:(s.heap.push (gi b l)).objs.size=s.heap.objs.size + 1:=P4 ..;have he:IsEnum ((s.heap.push (gi b l)).push {cls:= .type "enumerate",data:= .fields #[.none,.bool false,.ref s.heap.objs.size,rawInt 0,.none,.none]}) (s.heap.push (gi b l)).objs.size s.heap.objs.size 0 .none:=Pv _ rfl;have g1:=Pk {cls:= .type "enumerate",data:= .fields #[.none,.bool false,.ref s.heap.objs.size,rawInt 0,.none,.none]} (Pv s.heap (iQ b l));show _/\_;rw[hz] at he;rw[hz];exact⟨⟨_,he,rfl⟩,h _ he (jX g1) λc o x=>Pk _ (Pk _ x)⟩
end
def Kf (b:Bool) (l:Addr):It where
 go:=λi H=>∃xs x,H l=some (ij b xs)/\xs[i]?=some x
 yld:=λi H v H'=>∃p x,v= .ref p/\H p=none/\H'=upd H p (.tup [.int i,x])/\∀xs,H l=some (ij b xs)->xs[i]?=some x
 stop:=λi H=>∃xs,H l=some (ij b xs)/\xs.length=i
def eT (b:Bool) (e it l:Addr) (i:Nat) (h:Heap):Prop:=(∃old,IsEnum h e it i old)/\a8 b h it l i
def sD {P:Program} {w:World} {K:PySem.W.Frag} {es:List Expr} {k:Nat} {tp:Pos} {b:Bool} {e it l:Addr} (ap:e≠it):
  Turn P w K (.Tuple es k tp) (Kf b l) [e,it] e (eT b e it l) where
 mem:=by simp
 obj:=λi h st c hb=>by
  obtain⟨⟨old,s1⟩,s4⟩:=st;simp only[PC,PD,or_false] at hb;rcases hb with rfl | rfl
  ·exact⟨_,s1,λv q=>by cases q⟩
  ·exact s4.obj
 keep:=λi h h' st kk=>by obtain⟨⟨old,s1⟩,s4⟩:=st;exact⟨⟨old,kk e (by simp) _ s1⟩,s4.at λo q=>kk it (by simp) o q⟩
 item:=by
  intro X hP hw hK hc i pins s σ H E I hf st hg;subst hP hw hK;obtain⟨xs,x,cy,hx⟩:=hg;obtain⟨⟨old,s1⟩,s4⟩:=st;obtain⟨cG,r1,p1⟩:=bj I cy;obtain⟨u1,sV,Ia⟩:=r1.get hx;have ne:∀{l:Addr} {o:HO},H l=some o->∀c∈[e,it],l≠c:=λ {l o} hl c hb q=>by subst q;rw[(hf l hb).1] at hl;cases hl
  have cz:i < cG.toArray.size:=by have:=(Pp.mp sV).1;simpa using this
  refine wpAny_pyNext_enum_itemD (yJ (A:=X.A.in1) (I.ok.hd hc) b it l (ne cy it (by simp)) cG.toArray) s1 ⟨s4,p1⟩ cz ap (λhm=>?_) λy h' tk hy a1 a2 a3 a4 a5=>⟨_,rfl,?_⟩
  ·rcases PC.mp hm with q | hm
   ·exact ap q
   ·exact ne cy e (by simp) (P8.mp hm).symm
  have Ov:y=u1:=by
   have q:cG.toArray[i]?=some u1:=by simpa using sV
   rw[q] at hy;exact(Option.some.inj hy).symm
  subst Ov;refine wpAny_letOwnedTupleGo_enum (s:={s with heap:=h',toks:=tk + 1}) a1 λh2 c1 c2=>?_
  have JR:s.heap.objs.size≠e:=λq=>by have:=Py s1;rw[<-q] at this;exact Nat.lt_irrefl _ this
  have Fk:h2.get? s.heap.objs.size=some {cls:= .type "tuple",data:= .seq #[.int i tk,y]}:=(c2.2 _ JR).trans a3;have kk:∀b o,b∉[e,it]->s.heap.get? b=some o->h2.get? b=some o:=λb o hb q=>by simp only[PC,PD,or_false,not_or] at hb;exact(c2.2 b hb.1).trans (a5 b o hb.1 hb.2 q)
  have lt:∀{b:Addr} {o:Obj},s.heap.get? b=some o->b≠s.heap.objs.size:=λe=>P5 (Py e)
  have oo:∀b u,H b=some u->b∉[e,it]:=λb u q hb=>by rw[(hf b hb).1] at q;cases q
  have j7:H s.heap.objs.size=none:=I.fresh;have I2:Inv X pins σ (upd H s.heap.objs.size (.tup [.int i,x])) {s with heap:=h2,toks:=tk + 1}:=by
   refine I.step (g':=s.gens) (d':=s.drawn) (ch:=[e,it]) (λb hb=>⟨(hf b hb).2.2.2.1,(hf b hb).2.1,(hf b hb).2.2.2.2.1,(hf b hb).2.2.2.2.2⟩) (λb o _ _ hb e _=>kk b o hb e) (λb o _ _ hb e _=>⟨o.slots,kk b o hb e⟩)
    (λb o hb e n=>by rw[ao (lt e)];exact n) (λb o hb e=>⟨o,kk b o hb e⟩) (λb zs e=>by rw[ao (au e j7)];exact e) (λb o u e=>by rw[ao (au e j7)];exact e)
    (λb ps e=>⟨#[],by rw[ao (au e j7),e];simp⟩) (λm hm=>?_) (λb u q=>?_) I.bare
   ·obtain⟨o,cQ,ep,ho,rr⟩:=hm;exact⟨o,cQ,ep,kk _ o (λhb=>(hf _ hb).2.1 rfl) ho,rr⟩
   ·by_cases hb:b=s.heap.objs.size
    ·subst hb;rw[az] at q;cases q;exact⟨by show 2<=sizeLine;decide,[.int i tk,y],.cons ⟨_,rfl⟩ (.cons Ia .nil),_,Fk,rfl,0,rfl⟩
    ·rw[ao hb] at q;refine(I.hok b u q).iR (λc v hc z=>kk c v ?_ z) (λc z=>by rw[ao (au z j7)];exact z) λc zs z=>by rw[ao (au z j7)];exact z
     rcases hc with rfl | hc
     ·exact oo c u q
     ·exact oo c _ hc
  refine⟨.ref s.heap.objs.size,_,I2,rfl,⟨s.heap.objs.size,x,rfl,j7,rfl,λnC q1=>?_⟩,⟨⟨_,by simpa using c1⟩,a2.1.at λo q=>(c2.2 it ap.symm).trans q⟩,λb hb=>?_⟩
  ·rw[cy] at q1;rw[mO (Option.some.inj q1).symm];exact hx
  ·rw[ao (λq=>?_)]
   ·exact(hf b hb).1
   ·have z:∃o,s.heap.get? b=some o:=by
     simp only[PC,PD,or_false] at hb;rcases hb with rfl | rfl
     ·exact⟨_,s1⟩
     ·obtain⟨o,e,_⟩:=s4.obj;exact⟨o,e⟩
    obtain⟨o,z⟩:=z;exact lt z q
 done:=by
  intro X hP hw hK hc i pins s σ H E I hf st hg;subst hP hw hK;obtain⟨xs,cy,oH⟩:=hg;obtain⟨⟨old,s1⟩,s4⟩:=st;obtain⟨cG,r1,p1⟩:=bj I cy;have ne:∀{l:Addr} {o:HO},H l=some o->∀c∈[e,it],l≠c:=λ {l o} hl c hb q=>by subst q;rw[(hf l hb).1] at hl;cases hl
  have e1:=r1.length;have hn:cG.toArray.size=i:=by simp;omega
  refine wpAny_pyNext_enum_endD (yJ (A:=X.A.in1) (I.ok.hd hc) b it l (ne cy it (by simp)) cG.toArray) s1 (by rw[hn];exact⟨s4,p1⟩) λh' kk=>⟨rfl,?_⟩
  have oo:∀b u,H b=some u->b∉[e,it]:=λb u q hb=>by rw[(hf b hb).1] at q;cases q
  have jr:∀b o,b∉[e,it]->s.heap.get? b=some o->h'.get? b=some o:=λb o hb q=>by simp only[PC,PD,or_false,not_or] at hb;exact kk b o hb.2 q
  refine I.step (g':=s.gens) (d':=s.drawn) (t':=s.toks) (h':=h') (ch:=[e,it]) (λb hb=>⟨(hf b hb).2.2.2.1,(hf b hb).2.1,(hf b hb).2.2.2.2.1,(hf b hb).2.2.2.2.2⟩) (λb o _ _ hb e _=>jr b o hb e) (λb o _ _ hb e _=>⟨o.slots,jr b o hb e⟩)
   (λb o hb e n=>n) (λb o hb e=>⟨o,jr b o hb e⟩) (λb zs e=>e) (λb o u e=>e) (λb ps e=>⟨#[],by rw[e];simp⟩) (λm hm=>?_) (λb u q=>?_) I.bare
  ·obtain⟨o,cQ,ep,ho,rr⟩:=hm;exact⟨o,cQ,ep,jr _ o (λhb=>(hf _ hb).2.1 rfl) ho,rr⟩
  ·refine(I.hok b u q).iR (λc v hc z=>jr c v ?_ z) (λc z=>z) λc zs z=>z
   rcases hc with rfl | hc
   ·exact oo c u q
   ·exact oo c _ hc
 self:=λ_ _ _ _ _ st h=>by obtain⟨⟨old,s1⟩,_⟩:=st;exact wpAny_pyIter_enum s1 h
def DK (ta:TA):TI:=λσ H R=>ta σ H λvs H1=>∃b l xs,vs=[.ref l]/\H1 l=some (ij b xs)/\R (Kf b l) H1
def xP {X:Cx} {es:List Expr} {k:Nat} {tp:Pos} {a:Expr} {ta:TA} {p pos:Pos} (hg:Gl X "enumerate") (hm:X.mg "enumerate"=none) (ha:PA X [a] ta) (hs:starEach [a] X.env=[(false,eval a X.env)]:=by rfl):
  PI X (.Tuple es k tp) (.Call (.Name "enumerate" p) [a] [] pos) (DK ta):=by
 intro pins s σ H R I h;refine Call_ (dz I hg hm boot_enumerate (PyProof.Rows.callWith_type1 (bw (ha pos pins s σ H _ I h) λus s1 ⟨vs,H1,I1,r1,q1⟩=>?_) (by rw[hs];rfl) rfl));obtain⟨b,l,xs,e,e1,q⟩:=q1;subst e;obtain⟨u,rfl,ru⟩:=r1.one;cases ru;obtain⟨cG,_,p1⟩:=bj I1 e1;refine rm p1 λh' g1 g2 kk=>?_
 refine wpAny_pyIter_enum (s:={s1 with heap:=h'}) g1 ?_;have I2:Inv X pins σ H1 {s1 with heap:=h'}:=I1.kept (t':=s1.toks) kk;refine⟨s1.heap.objs.size + 1,[s1.heap.objs.size + 1,s1.heap.objs.size],_,_,H1,rfl,I2,sD (l:=l) (Nat.succ_ne_self _),⟨⟨_,g1⟩,g2⟩,λc hb=>?_,q⟩;have iK:s1.heap.objs.size<=c:=by simp only[PC,PD,or_false] at hb;rcases hb with h | h <;> (rw[h];first | exact Nat.le_add_right _ _ | exact Pt _)
 exact I1.pA iK (I1.hok.fresh iK)
def mP {M:Model} {A:Around} {E:Value->Shared->Prop} {s:Shared} {src:Source} {n:Nat} {Q:Nat->Shared->Prop} (hn:n≠0) (h:∀i d,i < n->Q i {s with drawn:=d}):wpAny M A (choose src n) Q E s:=
 λ_ _ _=>⟨hn,h _ _ (Nat.mod_lt _ (Nat.pos_of_ne_zero hn))⟩
def xZ (w:World):Bool:=w.params.followText "set-order"
section
variable {prog:Program} {w:World} {A:Around} {E:Value->Shared->Prop} {s:Shared}
def c9 {Q:Bool->Shared->Prop} (h:Q (xZ w) s):wpAny (model prog w) A setsByText Q E s:=by unfold setsByText;exact Pi (wpAny_askSetting (Pl h))
def lu (t:SetTable) (n:Nat):(t.orStandIn n).led=t.led:=by unfold SetTable.orStandIn;split <;> rfl
def rV (t:SetTable) (es:Array (Int×Value)) (h:Int) (x:Value):(layNew t es h x).2.1.led=t.led:=by
 unfold layNew;split
 ·dsimp only;rw[lu];rfl
 ·rfl
def oh (t:SetTable) (es:Array (Int×Value)) (n:Nat):(relayAll t es n).2.1.led=t.led:=by
 unfold relayAll;split
 ·rename_i t' order h;unfold SetTable.relaid SetTable.laid at h;obtain⟨o,_,h⟩:=Pj.mp h;cases h;dsimp only;split <;> rfl
 ·rfl
def ko (t:SetTable) (es:Array (Int×Value)) (n:Nat) (hp:t.plain=false):(relayAll t es n).2.1.plain=false:=by
 unfold relayAll;split
 ·rename_i t' order h;unfold SetTable.relaid SetTable.laid at h;obtain⟨o,_,h⟩:=Pj.mp h;cases h;dsimp only;split
  ·exact hp
  ·rfl
 ·rfl
variable (prog w) in
def cD (h:Heap) (a:Addr) (ks:List Str):Prop:=
 ∃(es:Array (Int×Value)) (ep:Nat) (t:SetTable),h.get? a=some {cls:= .type "set",dict:=none,data:= .set es ep t,slots:=#[]}/\ks.Nodup/\aw (ks.map V.str) (es.toList.map (·.2))/\ElemsOf (strKind prog w) es.toList/\
  es.size < scanBound/\t.fits es.size=true/\t.led= !xZ w/\(es.size≠0->t.plain=false)
def cD.at {h h':Heap} {a:Addr} {ks:List Str} (x:cD prog w h a ks) (hk:∀o,h.get? a=some o->h'.get? a=some o):cD prog w h' a ks:=by obtain⟨es,ep,t,h1,r⟩:=x;exact⟨es,ep,t,hk _ h1,r⟩
def iU {l l':List (Int×Value)} (p:l'.Perm l):∀{ks:List Str},aw (ks.map V.str) (l.map (·.2))->∃c7:List Str,c7.Perm ks/\aw (c7.map V.str) (l'.map (·.2)):=by
 have hh:=p.symm;clear p
 induction hh with
 | nil=>intro ks h;exact⟨ks,List.Perm.refl _,h⟩
 | cons x h ih=>
  intro ks r;cases ks with
  | nil=>cases r
  | cons k ks=>
   rw[Qh,Qh] at r;cases r with
   | cons r0 rr=>obtain⟨c7,p1,p2⟩:=ih rr;exact⟨k::c7,p1.cons k,by rw[Qh,Qh];exact .cons r0 p2⟩
 | swap x y l=>
  intro ks r;cases ks with
  | nil=>cases r
  | cons k ks=>
   cases ks with
   | nil=>cases r with | cons _ rr=>cases rr
   | cons k2 ks=>
    simp only[Qh] at r;cases r with
    | cons r0 rr=>
     cases rr with
     | cons r1 rr=>exact⟨k2::k::ks,List.Perm.swap k k2 ks,by simp only[Qh];exact .cons r1 (.cons r0 rr)⟩
 | trans h1 h2 ih1 ih2=>intro ks r;obtain⟨Iz,p1,r1⟩:=ih1 r;obtain⟨JG,p2,r2⟩:=ih2 r1;exact⟨JG,p2.trans p1,r2⟩
def pM {es:List (Int×Value)} {ks:List Str} (r:aw (ks.map V.str) (es.map (·.2))) (k:Str):(∃e∈es,(strKind prog w).is k e.2=true)↔k∈ks:=by
 induction es generalizing ks with
 | nil=>
  cases ks with
  | nil=>simp
  | cons k ks=>cases r
 | cons e es ih=>
  cases ks with
  | nil=>cases r
  | cons k0 ks=>
   simp only[Qh] at r;cases r with
   | cons r0 rr=>
    obtain⟨t,e0⟩:=r0;have:(strKind prog w).is k e.2=true↔k=k0:=by rw[e0];show Value.isStrOf k (.str k0 t)=true↔_;unfold Value.isStrOf;simp;exact eq_comm
    rw[PC,<-ih rr,<-this];constructor
    ·rintro⟨x,hx,q⟩;rcases PC.mp hx with rfl | hx
     ·exact .inl q
     ·exact .inr ⟨x,hx,q⟩
    ·rintro(q | ⟨x,hx,q⟩)
     ·exact⟨e,by simp,q⟩
     ·exact⟨x,Pq _ hx,q⟩
def oR {a:Addr} {es:Array (Int×Value)} {ep:Nat} {t:SetTable} (h:Heap) (ho:h.get? a=some {cls:= .type "set",dict:=none,data:= .set es ep t,slots:=#[]}) (cQ:Array (Int×Value)) (t':SetTable):
  (h.update a (Obj.putSet cQ t')).get? a=some {cls:= .type "set",dict:=none,data:= .set cQ (ep + 1) t',slots:=#[]}:=by
 have:=Heap.get?_update_self (Obj.putSet cQ t') ho (by rw[putSet_of cQ t' rfl];rfl);rw[putSet_of cQ t' rfl] at this;exact this
def uC {g:Bool->Sem Unit} (hg:∀(b:Bool) {s₁:Shared} {Q':Unit->Shared->Prop},Q' () s₁->wpAny (model prog w) A (g b) Q' E s₁) {a:Addr} {es:Array (Int×Value)} {ep:Nat} {t:SetTable}
  (ho:s.heap.get? a=some {cls:= .type "set",dict:=none,data:= .set es ep t,slots:=#[]}) {iy:Array (Int×Value)} {t2:SetTable} {ks:List Str} (eS:ks.Nodup) (hv:aw (ks.map V.str) (iy.toList.map (·.2))) (BK:ElemsOf (strKind prog w) iy.toList)
  (hb:iy.size < scanBound) (hf:t2.fits iy.size=true) (hl:t2.led= !xZ w) (hp:t2.plain=false) {pS:Bool} {R:Option Bool->Shared->Prop}
  (h:∀h' c7,Heap.SameBut a s.heap h'->c7.Perm ks->cD prog w h' a c7->R (some true) {s with heap:=h'}):
  wpAny (model prog w) A (do
    storeSet a iy t2
    if (!pS&&t2.tooFull)=true then do
      g (relayAll t2 iy (SetTable.grown iy.size)).2.2
      storeSet a (relayAll t2 iy (SetTable.grown iy.size)).1 (relayAll t2 iy (SetTable.grown iy.size)).2.1
      pure (some true)
     else pure (some true)) R E s:=by
 refine Pi (wpAny_storeSet_of ho rfl ?_ (fits_of_scanBound hb));have zv:=oR s.heap ho iy t2;have Fh:=Heap.SameBut.update s.heap a (Obj.putSet iy t2);split
 ·have HQ:=relayAll_perm t2 iy (SetTable.grown iy.size);have vw:=relayAll_fits t2 iy (SetTable.grown iy.size);have K7:=oh t2 iy (SetTable.grown iy.size);have JH:=ko t2 iy (SetTable.grown iy.size) hp;generalize hRl:relayAll t2 iy (SetTable.grown iy.size)=Rl at HQ vw K7 JH ⊢;obtain⟨rR,t3,MJ⟩:=Rl;dsimp only at HQ vw K7 JH ⊢;obtain⟨JG,p2,Nz⟩:=iU HQ hv;have ib:rR.size=iy.size:=by rw[<-PP,HQ.length_eq,PP]
  refine Pi (hg _ ?_);refine Pi (wpAny_storeSet_of zv rfl ?_ (fits_of_scanBound (by omega)));exact Pl (h _ JG (Fh.trans (Heap.SameBut.update _ a _)) p2 ⟨rR,ep + 2,t3,oR _ zv rR t3,p2.nodup_iff.mpr eS,Nz,BK.perm HQ,by omega,vw,K7.trans hl,λ_=>JH⟩)
 ·exact Pl (h _ ks Fh (List.Perm.refl _) ⟨iy,ep + 1,t2,zv,eS,hv,BK,hb,hf,hl,λ_=>hp⟩)
def vx {a:Addr} {ks:List Str} {k:Str} {tk:Tok} {Q:Bool->Shared->Prop} (hS:cD prog w s.heap a ks) (M4:ks.length + 1 < scanBound)
  (h:∀b h' c7,Heap.SameBut a s.heap h'->cD prog w h' a c7->(∀y,y∈c7↔y∈ks\/y=k)->c7.length<=ks.length + 1->Q b {s with heap:=h'}):
  wpAny (model prog w) A (setAddHashed a (.str k tk) ((strKind prog w).hash k)) Q E s:=by
 obtain⟨es,ep,t,ho,eS,hv,BK,hb,hf,zf,gG⟩:=hS;have A7:(strKind prog w).is k (.str k tk)=true:=strKind_is _ _ _ _;have zp:(Value.str k tk).scannable=true:=rfl;have L1:es.size=ks.length:=by have:=hv.length;rw[Px,Px,PP] at this;exact this.symm
 unfold setAddHashed setAddHashedIn;refine wpAny_holding (Pi (wpAny_setState_of ho rfl hf ?_));dsimp only;rw[byScan_of zp hb BK];simp only[↓reduceIte];unfold setAddByScan;refine Pi (Pi (wpAny_rule (Pi (wpAny_setScan_of A7 ho rfl hf BK ?_))));cases hr:List.findIdx? (λe=>(strKind prog w).is k e.2) es.toList with
 | some j=>
  dsimp only;obtain⟨hj,GB,_⟩:=List.findIdx?_eq_some_iff_getElem.mp hr;have hk:k∈ks:=(pM (prog:=prog) (w:=w) hv k).mp ⟨es.toList[j],List.getElem_mem hj,GB⟩;refine Pl (Pl ?_);have e:s={s with heap:=s.heap}:=by cases s;rfl
  rw[e];exact h _ _ ks (Heap.SameBut.refl a s.heap) ⟨es,ep,t,ho,eS,hv,BK,hb,hf,zf,gG⟩ (λy=>⟨.inl,λz=>z.elim id λq=>q▸hk⟩) (by omega)
 | none=>
  dsimp only;have hk:k∉ks:=λhk=>by obtain⟨e,he,hp⟩:=(pM (prog:=prog) (w:=w) hv k).mpr hk;have:=List.findIdx?_eq_none_iff.mp hr e he;rw[hp] at this;exact Bool.noConfusion this
  have Jw:∀(b:Bool) {s₁:Shared} {Q':Unit->Shared->Prop},Q' () s₁->wpAny (model prog w) A (match b with | true=>rule "set.scan.the-table-gave-way" | false=>pure ()) Q' E s₁:=
   λb s₁ Q' hq=>by cases b <;> first | exact Pl hq | exact wpAny_rule hq
  have my:=layNew_perm t es ((strKind prog w).hash k) (.str k tk);have tK:=layNew_fits t es ((strKind prog w).hash k) (.str k tk);have cy:=rV t es ((strKind prog w).hash k) (.str k tk);generalize hL:layNew t es ((strKind prog w).hash k) (.str k tk)=L at my tK cy ⊢;obtain⟨iy,t1,pS,NC⟩:=L;dsimp only at my tK cy ⊢;rw[Array.toList_push] at my;have Hh:ElemsOf (strKind prog w) iy.toList:=(BK.push A7 zp).perm my;have Ak:aw ((ks++[k]).map V.str) ((es.toList++[((strKind prog w).hash k,Value.str k tk)]).map (·.2)):=by rw[Qi,Qi];exact hv.append (.cons ⟨tk,rfl⟩ .nil)
  obtain⟨Iz,p1,Gp⟩:=iU my Ak;have Oa:iy.size=es.size + 1:=by rw[<-PP,my.length_eq,PJ,PP];rfl
  have zb:iy.size < scanBound:=by omega
  have Hx:Iz.Nodup:=p1.nodup_iff.mpr (by
   rw[List.nodup_append];exact⟨eS,by simp,λx hx y hy=>by rw[P8] at hy;subst hy;exact λe=>hk (e▸hx)⟩)
  have Kg:∀y,y∈Iz↔y∈ks\/y=k:=λy=>by rw[p1.mem_iff,PU,P8]
  have Ca:Iz.length<=ks.length + 1:=by rw[p1.length_eq,PJ];simp
  refine Pi (Jw _ ?_);split
  ·refine Pi ?_;rw[hashByValue_scannable 8 zp];refine Pl ?_;exact uC Jw ho Hx Gp Hh zb (t2:=if plainKind (Value.str k tk)=true then t1 else{t1 with plain:=false}) (by
     rw[if_neg (by show¬(false=true);simp)];exact SetTable.fits_plain_off tK) (by rw[if_neg (by show¬(false=true);simp)];exact cy.trans zf) (by rw[if_neg (by show¬(false=true);simp)]) λh' c7 sb pm x=>Pl (h _ h' c7 sb x (λy=>pm.mem_iff.trans (Kg y)) (by rw[pm.length_eq];exact Ca))
  ·refine Pi (Pl ?_);simp only[↓reduceIte];exact uC Jw ho Hx Gp Hh zb tK (cy.trans zf) (by rename_i q;simpa using q) λh' c7 sb pm x=>Pl (h _ h' c7 sb x (λy=>pm.mem_iff.trans (Kg y)) (by rw[pm.length_eq];exact Ca))
end
section
variable {prog:Program} {w:World} {A:Around} {R:Result->Shared->Prop} {I:Addr} {fp wr:List Addr} {G:Array GenState->Array GenState->Prop} {n:Nat} {P:Nat->Value->Prop} {St:Nat->Shared->Prop}
def tR (W:WalksS prog w A.in1 I fp wr G n P St) (S:Addr) (pP:S∉fp) (xs:List Str) (zU:xs.length=n) (Bw:∀i v,P i v->∃x t,xs[i]?=some x/\v= .str x t) (hb:n + 1 < scanBound):
  ∀(k i:Nat) (s:Shared) (ks:List Str),n - i=k->i<=n->St i s->cD prog w s.heap S ks->(∀y,y∈ks↔y∈xs.take i)->ks.length<=i->
   (∀s' c7,Moved (S::wr) G s s'->cD prog w s'.heap S c7->(∀y,y∈c7↔y∈xs)->R (.ok (.ret .none)) s')->
   codeAny (model prog w) A (.builtin "set.update.loop" ⟨[.ref S,.ref I],[]⟩) R s:=by
 have Ej:S∉wr:=λh=>pP (W.sub _ h)
 have ve:∀b∈wr,b∈S::wr:=λb hb=>Pq _ hb
 intro k
 induction k with
 | zero=>
  intro i s ks hk hi gP hS hm hl hR;have vL:i=n:=by omega
  subst vL;refine codeAny_builtin F.entry_set_update_loop ?_;rw[Around.under_plainId F.plain_set_update_loop _];show wpAny _ A.in1 (pyNext (.ref I) >>=_) _ _ s;refine Pi (W.done s _ _ gP λs' hm'=>?_);show wpAny _ A.in1 (ret Value.none) _ _ s';exact Pl (hR s' ks (hm'.mono ve) (hS.at λo e=>hm'.heap S o Ej e) λy=>by rw[hm y,List.take_of_length_le (by omega)])
 | succ k ih=>
  intro i s ks hk hi gP hS hm hl hR;have cz:i < n:=by omega
  refine codeAny_builtin F.entry_set_update_loop ?_;rw[Around.under_plainId F.plain_set_update_loop _];show wpAny _ A.in1 (pyNext (.ref I) >>=_) _ _ s;refine Pi (W.item i s _ _ cz gP λv s' hP hst' hm'=>?_);obtain⟨x,t,hx,rfl⟩:=Bw i v hP;have jM:cD prog w s'.heap S ks:=hS.at λo e=>hm'.heap S o Ej e
  show wpAny _ A.in1 (holding [Value.str x t] (setAdd S (.str x t)) >>=_) _ _ s';refine Pi (wpAny_holding ?_);unfold setAdd;refine wpAny_holding ?_;refine Pi ((strKind prog w).pyHash (k:=x) (strKind_is _ _ _ _) ?_);refine vx (s:={s' with toks:=s'.toks + 1}) jM (by omega) λb h' c7 se Je zk cX=>?_
  refine Pl ⟨plainId_quiet F.plain_set_update_loop _,ih (i + 1) _ c7 (by omega) cz (W.frame _ s' _ _ hst' (Nat.le_succ _) λb hb o e=>?_) Je (λy=>?_) (by omega) λs'' ks'' hm'' hS'' yS=>?_⟩
  ·rw[se.2 b (λh:b=S=>pP (by rw[<-h];exact hb))];exact e
  ·rw[zk y,hm y,List.take_succ,hx];simp
  ·refine hR s'' ks'' (Moved.trans W.gtrans ((hm'.mono ve).then_heap (Nat.le_succ _) λb o hb e=>?_) hm'') hS'' yS;rw[se.2 b (λh:b=S=>hb (by rw[h];exact Pu))];exact e
end
namespace F
def sub_tuple_set:isSubtype (.type "tuple") (.type "set")=pure false:=by rw[isSubtype_type];kernel_rfl
def sub_tuple_frozenset:isSubtype (.type "tuple") (.type "frozenset")=pure false:=by rw[isSubtype_type];kernel_rfl
end F
def cv (w:World):Obj:={cls:= .type "set",dict:=none,data:= .set #[] 0 (.fresh 0 0 (!xZ w))}
section
variable {prog:Program} {w:World} {A:Around} {E:Value->Shared->Prop} {s:Shared}
def za:cD prog w (s.heap.push (cv w)) s.heap.objs.size []:=
 ⟨#[],0,_,Pv _ rfl,List.nodup_nil,.nil,λe he=>by simp at he,by decide,by rfl,rfl,λz=>(z rfl).elim⟩
def code_set_new (a:Value) {Q₁:Value->Shared->Prop} (h:Q₁ (.ref s.heap.objs.size) {s with heap:=s.heap.push (cv w)}):
  codeAny (model prog w) A (.call (.builtin "set.__new__") ⟨[.type "set",a],[]⟩) (wants Q₁ E) s:=by
 refine codeAny_of_tree ?_;show wpAny _ A.in1 (do checkBuiltinCall "set.__new__" ⟨[.type "set",a],[]⟩;again (.builtin "set.__new__" ⟨[.type "set",a],[]⟩)) _ _ s;refine Pi (wpAny_of_eq (F.newCall_set_1 a) (Pl ⟨plainId_quiet F.plain_set_new _,codeAny_builtin F.entry_set_new ?_⟩));rw[Around.under_plainId F.plain_set_new _];unfold Builtin.«set.__new__» Builtin.Frozenset.newClass;have ve:=sub_set_self;obtain⟨hp,g,d,tk,os⟩:=s;dsimp only
 wp_walk
 refine wpAny_askSetting (Pl ?_);dsimp only;simp only[newObj];refine Pi (wpAny_alloc (Pl ?_));exact Pl h
def xC {b:Bool} {h:Heap} {l:Addr} {xs:Array Value} (x:b9 b h l xs):∃o,h.get? l=some o:=by
 cases b with
 | false=>obtain⟨o,ho,_⟩:=x;exact⟨o,ho⟩
 | true=>obtain⟨o,ho,_⟩:=x;exact⟨o,ho⟩
set_option maxHeartbeats 8000000 in
def nh {b:Bool} {l:Addr} {items:Array Value} {xs:List Str} {Q:Value->Shared->Prop}
  (hh:A.handled=none) (hl:b9 b s.heap l items) (hi:aw (xs.map V.str) items.toList) (hb:items.size + 1 < scanBound)
  (h:∀(h':Heap) (tk:Nat) (ks:List Str),cD prog w h' s.heap.objs.size ks->(∀y,y∈ks↔y∈xs)->
   (∀b o,s.heap.get? b=some o->h'.get? b=some o)->Q (.ref s.heap.objs.size) {s with heap:=h',toks:=tk}):
  wpAny (model prog w) A (call (.type "set") [.ref l]) Q E s:=by
 obtain⟨c,tl,Oi⟩:=F.called_set.mro;have Me:=F.called_set.made;have ve:=F.called_set.sub;refine wpAny_call (codeAny_of_tree ?_);show wpAny _ _ (callAny (.type "set") _) _ _ _;refine Pl ⟨Code.quiet_builtin _ (by decide +kernel),codeAny_builtin F.entry_type_call ?_⟩;rw[Around.under_plain (weight_type_call_type "set" [.ref l] []) rfl];have h1:=F.called_set.notType;have h2:=F.called_set.canCreate;have Pe:=F.typeCall_set_1 (.ref l)
 repeat (any_goals (first | assumption | wp_step))
 refine codeAny_mono (code_set_new (.ref l) (E:=E) (Q₁:=λobj s₁=>obj= .ref s.heap.objs.size/\s₁={s with heap:=s.heap.push (cv w)}) ⟨rfl,rfl⟩) λr s₁ hr=>?_
 cases r with
 | error e=>exact hr
 | ok fl=>
  cases fl with
  | ret obj=>
   obtain⟨rfl,rfl⟩:=hr;have hT:Shared.TypeIs {s with heap:=s.heap.push (cv w)} (.ref s.heap.objs.size) "set":=⟨_,Pv _ rfl,rfl⟩;have Pd:=F.called_set.init.lookup;have Mc:=F.called_set.init.bind (.ref s.heap.objs.size)
   repeat (any_goals (first | assumption | wp_step))
   refine codeAny_mono (codeAny_call_builtin (R:=wants (λr s₂=>r= .none/\∃h' tk ks,s₂={s with heap:=h',toks:=tk}/\cD prog w h' s.heap.objs.size ks/\(∀y,y∈ks↔y∈xs)/\
     (∀b o,s.heap.get? b=some o->h'.get? b=some o)) E) F.called_set.init.plain F.entry_set_init (check_set_init_1 hT ?_)) λr₂ s₂ hr₂=>?_
   ·have O8:=hl;obtain⟨ob,Oz⟩:=xC hl;have E9:l < s.heap.objs.size:=Py Oz;have Im:A.in1.in1.in1.handled=none:=by simp[hh]
    have hz:(s.heap.push (cv w)).objs.size=s.heap.objs.size + 1:=P4 ..;have G4:l≠(s.heap.push (cv w)).objs.size:=by rw[hz];exact P5 (Nat.lt_succ_of_lt E9)
    have pP:s.heap.objs.size∉[(s.heap.push (cv w)).objs.size,l]:=by rw[hz];simp only[PC,P8,PD,or_false,not_or];exact⟨P5 (Nat.lt_succ_self _),Nat.ne_of_gt E9⟩
    have hlen:xs.length=items.size:=by have:=hi.length;rw[Px,PP] at this;exact this
    have Bw:∀(i:Nat) (v:Value),items[i]?=some v->∃x t,xs[i]?=some x/\v= .str x t:=λi v hv=>by
     rw[<-Array.getElem?_toList] at hv;cases hx:xs[i]? with
     | none=>have e1:=List.getElem?_eq_none_iff.mp hx;have e2:=(Pp.mp hv).1;rw[PP] at e2;omega
     | some x=>obtain⟨u,hu,t,ru⟩:=hi.get (i:=i) (x:= .str x) (by rw[PN,hx];rfl);rw[hu] at hv;cases hv;exact⟨x,t,rfl,ru⟩
    have fin:∀(o:Obj) (s':Shared) (c7:List Str),Moved [s.heap.objs.size,(s.heap.push (cv w)).objs.size] (λa b=>b=a) {s with heap:=(s.heap.push (cv w)).push o} s'->cD prog w s'.heap s.heap.objs.size c7->(∀y,y∈c7↔y∈xs)->
      ∃h' tk ks,s'={s with heap:=h',toks:=tk}/\cD prog w h' s.heap.objs.size ks/\(∀y,y∈ks↔y∈xs)/\(∀b o,s.heap.get? b=some o->h'.get? b=some o):=by
     intro o s' c7 hm jM yS;obtain⟨h',g',d',LQ,Fq⟩:=s';have eg:g'=s.gens:=hm.gens;have ed:d'=s.drawn:=hm.drawn;have eo:Fq=s.os:=hm.os;subst eg;subst ed;subst eo;refine⟨h',LQ,c7,rfl,jM,yS,λb o' e=>?_⟩;have hb:=Py e;have zb:b≠s.heap.objs.size:=P5 hb;have BM:b≠(s.heap.push (cv w)).objs.size:=by rw[hz];exact P5 (Nat.lt_succ_of_lt hb)
     exact hm.heap b o' (by simp only[PC,P8,PD,or_false,not_or];exact⟨zb,BM⟩) (Pk _ (Pk _ e))
    cases b with
    | false=>
     obtain⟨ol,Et,uM,nl,wL⟩:=hl;obtain⟨JZ,w6,HR,rh⟩:=ol;simp only at uM wL;subst uM;subst wL;have DM:(s.heap.push (cv w)).get? l=some {cls:= .type "list",dict:=w6,data:= .seq items nl,slots:=rh}:=Pk _ Et;have Kr:=F.sub_list_set;have LI:=F.sub_list_frozenset;have jA:(Value.type "list"==Value.type "dict")=false:=by decide
     have cy:(s.heap.push (cv w)).IsList l items:=⟨_,DM,rfl,nl,rfl⟩;unfold Builtin.«set.__init__» noKeywords Builtin.Frozenset.updateFrom;generalize hPI:pyIter=PI
     wp_walk
     subst hPI;refine wpAny_pyIter_list cy ?_;refine Pi (wpAny_runValue ?_);refine tR ((Walks.list Im _ l G4 items).toS) s.heap.objs.size pP xs hlen Bw hb (items.size - 0) 0 _ [] (by omega) (Nat.zero_le _)
      ⟨⟨_,Pv _ rfl,rfl,rfl⟩,(cy.push _)⟩ (za.at λo e=>Pk _ e) (by simp) (Pt _) λs' c7 hm jM yS=>?_
     show wpAny _ _ _ _ _ _;refine Pl ?_;show wpAny _ _ (ret Value.none) _ _ _;exact Pl ⟨rfl,fin _ s' c7 hm jM yS⟩
    | true=>
     obtain⟨ol,Et,uM,nl,wL⟩:=hl;obtain⟨JZ,w6,HR,rh⟩:=ol;simp only at uM wL;subst uM;subst wL;have DM:(s.heap.push (cv w)).get? l=some {cls:= .type "tuple",dict:=w6,data:= .seq items nl,slots:=rh}:=Pk _ Et;have Kr:=F.sub_tuple_set;have LI:=F.sub_tuple_frozenset;have jA:(Value.type "tuple"==Value.type "dict")=false:=by decide
     have cy:(s.heap.push (cv w)).IsTuple l items:=⟨_,DM,rfl,nl,rfl⟩;unfold Builtin.«set.__init__» noKeywords Builtin.Frozenset.updateFrom;generalize hPI:pyIter=PI
     wp_walk
     subst hPI;refine wpAny_pyIter_tuple cy ?_;refine Pi (wpAny_runValue ?_);refine tR ((Walks.tuple Im _ l G4 items).toS) s.heap.objs.size pP xs hlen Bw hb (items.size - 0) 0 _ [] (by omega) (Nat.zero_le _)
      ⟨⟨_,Pv _ rfl,rfl,rfl⟩,(cy.push _)⟩ (za.at λo e=>Pk _ e) (by simp) (Pt _) λs' c7 hm jM yS=>?_
     show wpAny _ _ _ _ _ _;refine Pl ?_;show wpAny _ _ (ret Value.none) _ _ _;exact Pl ⟨rfl,fin _ s' c7 hm jM yS⟩
   ·cases r₂ with
    | error e=>exact hr₂
    | ok fl₂=>
     cases fl₂ with
     | ret r=>
      obtain⟨rfl,h',tk,ks,rfl,jM,yS,jt⟩:=hr₂
      repeat (any_goals (first | assumption | wp_step))
      exact h _ _ _ jM yS jt
     | _=>exact hr₂.elim
  | _=>exact hr.elim
end
namespace F
def dy:Manifest.owners.lookup (String.ofList ['r','o','t','a','r','e','t','i','_','t','e','s'].reverse)=some Manifest.sig_set_iterator:=by kernel_rfl
def ay:Slot "set_iterator" "__next__" "set_iterator.__next__":=
 .of (owner:="set_iterator") (n:="__next__") (by rw[typeLookup_type,builtinLookup_eq_fast];kernel_rfl) (by decide +kernel) (by decide +kernel) (by decide +kernel)
  (by first | exact .inl (by decide +kernel) | exact .inr (by decide +kernel)) (by rw[isSubtype_type];kernel_rfl)
def bX:entryFor table "set_iterator.__next__"=some Builtin.«set_iterator.__next__»:=entryFor_of_tree (by kernel_rfl)
def bL (a:Value):argsOk "set_iterator.__next__" ⟨[a],[]⟩:=by unfold argsOk;rw[signature?_of (id:="set_iterator.__next__") (n:=['_','_','t','x','e','n','_','_']) (o:=['r','o','t','a','r','e','t','i','_','t','e','s']) (by kernel_rfl) dy];kernel_rfl
def cm:Slot "set_iterator" "__iter__" "set_iterator.__iter__":=
 .of (owner:="set_iterator") (n:="__iter__") (by rw[typeLookup_type,builtinLookup_eq_fast];kernel_rfl) (by decide +kernel) (by decide +kernel) (by decide +kernel)
  (by first | exact .inl (by decide +kernel) | exact .inr (by decide +kernel)) (by rw[isSubtype_type];kernel_rfl)
def d4:entryFor table "set_iterator.__iter__"=some Builtin.«dict_keyiterator.__iter__»:=
 entryFor_alias (id':="dict_keyiterator.__iter__") (by kernel_rfl) (by first | rfl | decide +kernel | (unfold String.splitOn;simp +decide [String.splitOnAux])) (by decide +kernel) (by kernel_rfl)
def dH (a:Value):argsOk "set_iterator.__iter__" ⟨[a],[]⟩:=by unfold argsOk;rw[signature?_of (id:="set_iterator.__iter__") (n:=['_','_','r','e','t','i','_','_']) (o:=['r','o','t','a','r','e','t','i','_','t','e','s']) (by kernel_rfl) dy];kernel_rfl
def jN:entryFor table "set.__iter__"=some Builtin.«frozenset.__iter__»:=
 entryFor_alias (id':="frozenset.__iter__") (by kernel_rfl) (by first | rfl | decide +kernel | (unfold String.splitOn;simp +decide [String.splitOnAux])) (by decide +kernel) (by kernel_rfl)
end F
abbrev Bv (h:Heap) (I:Addr) (f:Value) (i:Nat) (S:Addr) (n ep:Nat):Prop:=
 h.get? I=some {cls:= .type "set_iterator",dict:=none,data:= .fields #[f,rawInt i,.ref S,rawInt n,rawInt ep],slots:=#[]}
abbrev yG (h:Heap) (S:Addr) (es:Array (Int×Value)) (ep:Nat) (t:SetTable):Prop:=h.get? S=some {cls:= .type "set",dict:=none,data:= .set es ep t,slots:=#[]}
def Gz (w:World) (h:Heap) (f:Value) (i:Nat) (S:Addr) (es:Array (Int×Value)) (ep:Nat) (t:SetTable) (vs:List Value) (T:Addr):Prop:=
 (xZ w=true/\f=rawInt 0/\vs=(pickOrder (w.params.setOrder S ep) es).toList.map (·.2))\/
 (xZ w=false/\t.led=true/\es.size<=1/\vs=es.toList.map (·.2)/\∃slot:Nat,f=rawInt slot/\(i=0->slot=0)/\(i=1->slot=t.place.getD 0 0 + 1))\/
 (xZ w=false/\1 < es.size/\f= .ref T/\∃π:List Nat,h.get? T=some {cls:= .type "tuple",dict:=none,data:= .seq (π.map λi=>rawInt (i:Nat)).toArray 0,slots:=#[]}/\π.length=es.size/\(∀j∈π,j < es.size)/\vs=π.map λj=>(es.getD j (0,.none)).2)
def zA (w:World) (I S:Addr) (es:Array (Int×Value)) (ep:Nat) (t:SetTable) (vs:List Value) (T:Addr) (i:Nat) (h:Heap):Prop:=
 yG h S es ep t/\t.fits es.size=true/\vs.length=es.size/\∃f,Bv h I f i S es.size ep/\Gz w h f i S es ep t vs T
section
variable {prog:Program} {w:World} {A:Around} {E:Value->Shared->Prop} {s:Shared}
def eK {S:Addr} {es:Array (Int×Value)} {ep:Nat} {t:SetTable} (ho:yG s.heap S es ep t) (hf:t.fits es.size=true) (hb:xZ w=true) {Q:Array (Int×Value)->Shared->Prop}
  (h:Q (pickOrder (w.params.setOrder S ep) es) s):wpAny (model prog w) A (setWalk S) Q E s:=by
 unfold setWalk;refine Pi (wpAny_setState_of ho rfl hf ?_);dsimp only;refine Pi (c9 ?_);rw[hb,if_pos rfl];exact Pi (wpAny_askSetting (Pl h))
def lC (a:Nat) (j:Nat):SetTable.below #[a] j=if a < j then 1 else 0:=by unfold SetTable.below;show SetTable.below.go #[a] j 1 0 1=_;unfold SetTable.below.go;simp only[Nat.zero_lt_one,if_true];show (if (#[a]:Array Nat).getD 0 j < j then SetTable.below.go #[a] j 0 1 1 else SetTable.below.go #[a] j 0 0 0)=_;rfl
def ya {I S T:Addr} {es:Array (Int×Value)} {ep:Nat} {t:SetTable} {vs:List Value} {i:Nat} {x:Value} {Q:Option Value->Shared->Prop} (Bm:I≠S) (GM:I≠T)
  (st:zA w I S es ep t vs T i s.heap) (hx:vs[i]?=some x) (hQ:∀h',zA w I S es ep t vs T (i + 1) h'->Heap.SameBut I s.heap h'->Q (some x) {s with heap:=h'}):
  wpAny (model prog w) A (pyNext (.ref I)) Q E s:=by
 obtain⟨hS,hf,hl,f,hI,hw⟩:=st;have hT:s.TypeIs (.ref I) "set_iterator":=⟨_,hI,rfl⟩;have hi:i < es.size:=by rw[<-hl];exact(Pp.mp hx).1
 unfold pyNext;refine Pi (wpAny_attempt (wpAny_callSpecial?_slot (name:=Str.ofString "__next__") hT F.ay
  (wpAny_call_entry F.ay hT F.bX ?_ (F.bL _))))
 show wpAny _ _ (fieldsOf (.ref I) >>=_) _ _ s;refine Pi (wpAny_fieldsOf hI rfl ?_);show wpAny _ _ (setEntries S >>=_) _ _ s;refine Pi (wpAny_setEntries_of hS rfl hf ?_);show wpAny _ _ (if (((es.size:Int) != (es.size:Int))=true) then _ else _) _ _ s;rw[if_neg (by simp)];refine Pi (Pl ?_);rcases hw with ⟨b1,b2,b3⟩ | ⟨b1,b2,b3,b4,slot,b5,b6,b7⟩ | ⟨b1,b2,b3,π,b4,b5,b6,b7⟩
 ·subst b2;show wpAny _ _ (setNext S (0:Int).toNat ((i:Nat):Int).toNat ((ep:Nat):Int).toNat >>=_) _ _ s;simp only[Int.toNat_natCast];refine Pi ?_;unfold setNext;refine Pi (wpAny_setState_of hS rfl hf ?_);dsimp only;refine Pi (c9 ?_);rw[b1,if_pos rfl];rw[if_neg (by simp)];refine Pi (eK hS hf b1 (Pl ?_));rw[b3,PN] at hx;obtain⟨e,he,rfl⟩:=PH.mp hx;rw[Array.getElem?_toList] at he;rw[he];show wpAny _ _ (setField (.ref I) 0 (rawInt _) >>=_) _ _ s;refine Pi (P7 hI (by simp) λh1 i1 e1=>?_);refine Pi (P7 i1 (by simp) λh2 i2 e2=>?_);refine Pl ⟨_,rfl,Pl (hQ h2 ⟨?_,hf,hl,rawInt 0,i2,.inl ⟨b1,rfl,b3⟩⟩ (e1.trans e2))⟩;exact e2.extBut _ _ Bm.symm (e1.extBut _ _ Bm.symm hS)
 ·subst b5;have B0:i=0:=by omega
  subst B0;have Ou:=b6 rfl;subst Ou;have h1:es.size=1:=by omega
  have jm:t.place.size=1:=by unfold SetTable.fits at hf;rw[Pm,beq_iff_eq] at hf;omega
  obtain⟨pl,gG⟩:∃pl,t.place=#[pl]:=by
   cases ht:t.place with
   | mk l=>
    rw[ht] at jm
    match l,jm with
    | [a],_=>exact⟨a,rfl⟩
  obtain⟨e,he⟩:∃e,es=#[e]:=by
   obtain⟨l⟩:=es
   match l,h1 with
   | [a],_=>exact⟨a,rfl⟩
  show wpAny _ _ (setNext S ((0:Nat):Int).toNat ((0:Nat):Int).toNat ((ep:Nat):Int).toNat >>=_) _ _ s;simp only[Int.toNat_natCast];refine Pi ?_;unfold setNext;refine Pi (wpAny_setState_of hS rfl hf ?_);dsimp only;refine Pi (c9 ?_);rw[b1,if_neg (by simp)];show wpAny _ _ (if (!t.plain&&decide (es.size > 1))=true then _ else _) _ _ s;rw[if_neg (by rw[h1];simp)];show wpAny _ _ ((if (!t.led&& !es.isEmpty)=true then _ else _) >>=_) _ _ s;rw[if_neg (by rw[b2];simp)];refine Pi (Pl ?_);have KR:SetTable.below t.place 0=0:=by rw[gG,lC];simp
  rw[KR];have OL:es[0]?=some e:=by rw[he];rfl
  have Hf:t.place[0]?=some pl:=by rw[gG];rfl
  rw[OL,Hf];refine Pl ?_;have rd:e.2=x:=by rw[b4,he] at hx;simpa using hx
  show wpAny _ _ (setField (.ref I) 0 (rawInt _) >>=_) _ _ s;refine Pi (P7 hI (by simp) λh1 i1 e1=>?_);refine Pi (P7 i1 (by simp) λh2 i2 e2=>?_);rw[<-rd] at hQ;refine Pl ⟨_,rfl,Pl (hQ h2 ⟨?_,hf,hl,rawInt (pl + 1:Nat),i2,.inr (.inl ⟨b1,b2,b3,b4,pl + 1,rfl,λz=>by omega,λ_=>by rw[gG];rfl⟩)⟩ (e1.trans e2))⟩;exact e2.extBut _ _ Bm.symm (e1.extBut _ _ Bm.symm hS)
 ·subst b3;rw[b7,PN] at hx;obtain⟨j,hj,rfl⟩:=PH.mp hx;have Md:=b6 j (List.mem_of_getElem? hj);show wpAny _ _ (seqItems? (.ref T) >>=_) _ _ s;refine Pi (wpAny_seqItems b4 rfl ?_);have GB:(π.map λi=>rawInt ((i:Nat):Int)).toArray[((i:Nat):Int).toNat]?=some (rawInt ((j:Nat):Int)):=by simp[hj]
  dsimp only;rw[GB];show wpAny _ _ (setNextDrawn S ((j:Nat):Int).toNat ((ep:Nat):Int).toNat >>=_) _ _ s;simp only[Int.toNat_natCast];refine Pi ?_;unfold setNextDrawn;refine Pi (wpAny_setState_of hS rfl hf ?_);dsimp only;rw[if_neg (by simp)];have NU:es[j]?=some es[j]:=by simp[Md]
  rw[NU];refine Pl ?_;refine Pi (P7 hI (by simp) λh1 i1 e1=>?_);have hd:(es.getD j (0,.none)).2=es[j].2:=by simp[Array.getD,Md]
  rw[hd] at hQ;refine Pl ⟨_,rfl,Pl (hQ h1 ⟨e1.extBut _ _ Bm.symm hS,hf,hl,.ref T,i1,.inr (.inr ⟨b1,b2,rfl,π,e1.extBut _ _ GM.symm b4,b5,b6,b7⟩)⟩ e1)⟩
def AA {I S T:Addr} {es:Array (Int×Value)} {ep:Nat} {t:SetTable} {vs:List Value} {Q:Option Value->Shared->Prop} (hh:A.handled=none)
  (st:zA w I S es ep t vs T vs.length s.heap) (hQ:∀h',Heap.ExtBut I s.heap h'->Q none {s with heap:=h'}):
  wpAny (model prog w) A (pyNext (.ref I)) Q E s:=by
 obtain⟨hS,hf,hl,f,hI,hw⟩:=st;have hT:s.TypeIs (.ref I) "set_iterator":=⟨_,hI,rfl⟩;have stop:∀(h1:Heap) {E':Value->Shared->Prop} {Q':PySem.Fin->Shared->Prop},Heap.ExtBut I s.heap h1->(∀e h',Heap.ExtBut I s.heap h'->(∃o,h'.get? e=some o/\o.cls= .type "StopIteration")->E' (.ref e) {s with heap:=h'})->
   wpAny (model prog w) A.in1 (newExc (.type "StopIteration") [] >>=λe=>raiseNew e) Q' E' {s with heap:=h1}:=by
  intro h1 E' Q' e1 hE';refine Pi ?_;simp only[newExc,newTuple];refine Pi (wpAny_newObj_type ?_ (by size_fits));refine Pi (m:=firstArgMember _ _) (wpAny_of_eq (a:=Value.none) (by first | rfl | (simp only[firstArgMember];rfl)) ?_);refine wpAny_newObj_type ?_ (by size_fits);simp only[raiseNew];refine Pi (wpAny_handled ?_)
  first | rw[show A.in1.handled=none from hh] | rw[hh]
  refine Pi (Pl (wpAny_throw ?_));exact hE' _ _ ((e1.push _).push _) ⟨_,Pv _ rfl,rfl⟩
 have fin:∀e h',Heap.ExtBut I s.heap h'->(∃o,h'.get? e=some o/\o.cls= .type "StopIteration")->wpAny (model prog w) A (do let __do_lift<-isInstance (.ref e) (Value.type "StopIteration");if __do_lift=true then pure none else throw (.ref e)) Q E {s with heap:=h'}:=by rintro e h' hk ⟨o,ho,hc⟩;refine Pi (wpAny_isInstance (T:="StopIteration") (b:=true) ⟨o,ho,hc⟩ isSubtype_stop ?_);exact Pl (hQ _ hk)
 unfold pyNext;refine Pi (wpAny_attempt (wpAny_callSpecial?_slot (name:=Str.ofString "__next__") hT F.ay
  (wpAny_call_entry F.ay hT F.bX ?_ (F.bL _))))
 show wpAny _ _ (fieldsOf (.ref I) >>=_) _ _ s;refine Pi (wpAny_fieldsOf hI rfl ?_);show wpAny _ _ (setEntries S >>=_) _ _ s;refine Pi (wpAny_setEntries_of hS rfl hf ?_);show wpAny _ _ (if (((es.size:Int) != (es.size:Int))=true) then _ else _) _ _ s;rw[if_neg (by simp)];refine Pi (Pl ?_);rcases hw with ⟨b1,b2,b3⟩ | ⟨b1,b2,b3,b4,slot,b5,b6,b7⟩ | ⟨b1,b2,b3,π,b4,b5,b6,b7⟩
 ·subst b2;show wpAny _ _ (setNext S (0:Int).toNat ((vs.length:Nat):Int).toNat ((ep:Nat):Int).toNat >>=_) _ _ s;simp only[Int.toNat_natCast];refine Pi ?_;unfold setNext;refine Pi (wpAny_setState_of hS rfl hf ?_);dsimp only;refine Pi (c9 ?_);rw[b1,if_pos rfl];rw[if_neg (by simp)];refine Pi (eK hS hf b1 (Pl ?_));have hn:(pickOrder (w.params.setOrder S ep) es)[vs.length]?=none:=by rw[b3,Px,PP];simp
  rw[hn];show wpAny _ _ (setField (.ref I) 2 Value.none >>=_) _ _ s;exact Pi (P7 hI (by simp) λh1 i1 e1=>stop h1 e1.extBut fin)
 ·subst b5;have KR:es[SetTable.below t.place slot]?=none:=by
   by_cases h0:es.size=0
   ·simp[h0]
   ·have h1:es.size=1:=by omega
    have jm:t.place.size=1:=by unfold SetTable.fits at hf;rw[Pm,beq_iff_eq] at hf;omega
    obtain⟨pl,gG⟩:∃pl,t.place=#[pl]:=by
     cases ht:t.place with
     | mk l=>
      rw[ht] at jm
      match l,jm with
      | [a],_=>exact⟨a,rfl⟩
    have:=b7 (by omega);rw[gG] at this;have tF:slot=pl + 1:=this;rw[gG,lC,if_pos (by omega)];simp[h1]
  show wpAny _ _ (setNext S ((slot:Nat):Int).toNat ((vs.length:Nat):Int).toNat ((ep:Nat):Int).toNat >>=_) _ _ s;simp only[Int.toNat_natCast];refine Pi ?_;unfold setNext;refine Pi (wpAny_setState_of hS rfl hf ?_);dsimp only;refine Pi (c9 ?_);rw[b1,if_neg (by simp)];show wpAny _ _ (if (!t.plain&&decide (es.size > 1))=true then _ else _) _ _ s;rw[if_neg (by rw[PY (by omega)];simp)];show wpAny _ _ ((if (!t.led&& !es.isEmpty)=true then _ else _) >>=_) _ _ s;rw[if_neg (by rw[b2];simp)];refine Pi (Pl ?_);rw[KR];refine Pl ?_;show wpAny _ _ (setField (.ref I) 2 Value.none >>=_) _ _ s;exact Pi (P7 hI (by simp) λh1 i1 e1=>stop h1 e1.extBut fin)
 ·subst b3;show wpAny _ _ (seqItems? (.ref T) >>=_) _ _ s;refine Pi (wpAny_seqItems b4 rfl ?_);have GB:(π.map λi=>rawInt ((i:Nat):Int)).toArray[((vs.length:Nat):Int).toNat]?=none:=by rw[Int.toNat_natCast,b7];simp
  dsimp only;rw[GB];show wpAny _ _ (setField (.ref I) 0 (rawInt 0) >>=_) _ _ s;refine Pi (P7 hI (by simp) λh1 i1 e1=>?_);exact Pi (P7 i1 (by simp) λh2 i2 e2=>stop h2 (e1.trans e2).extBut fin)
def zh {I S T:Addr} {es:Array (Int×Value)} {ep:Nat} {t:SetTable} {vs:List Value} {i:Nat} {Q:Value->Shared->Prop} (st:zA w I S es ep t vs T i s.heap) (h:Q (.ref I) s):
  wpAny (model prog w) A (pyIter (.ref I)) Q E s:=by
 obtain⟨hS,hf,hl,f,hI,hw⟩:=st;have hT:s.TypeIs (.ref I) "set_iterator":=⟨_,hI,rfl⟩;refine wpAny_pyIter_slot hT F.cm (wpAny_call_entry F.cm hT F.d4 ?_ (F.dH _));show wpAny _ _ (ret (.ref I)) _ _ s;exact Pl ⟨_,rfl,"set_iterator",_,hT,F.ay.lookup,h⟩
def zA.keep {I S T:Addr} {es:Array (Int×Value)} {ep:Nat} {t:SetTable} {vs:List Value} {i:Nat} {h h':Heap} (st:zA w I S es ep t vs T i h) (hk:∀b∈[I,S,T],∀o,h.get? b=some o->h'.get? b=some o):zA w I S es ep t vs T i h':=by
 obtain⟨hS,hf,hl,f,hI,hw⟩:=st;refine⟨hk S (by simp) _ hS,hf,hl,f,hk I (by simp) _ hI,?_⟩;rcases hw with b | b | ⟨b1,b2,b3,π,b4,b5⟩
 ·exact .inl b
 ·exact .inr (.inl b)
 ·exact .inr (.inr ⟨b1,b2,b3,π,hk T (by simp) _ b4,b5⟩)
def vt (hh:A.handled=none) (I S T:Addr) (Bm:I≠S) (GM:I≠T) (es:Array (Int×Value)) (ep:Nat) (t:SetTable) (vs:List Value):
  Walks prog w A I [I,S,T] [I] vs.length (λi v=>vs[i]?=some v) (zA w I S es ep t vs T) where
 sub:=λb hb=>by simp at hb;simp[hb]
 frame:=λ_ _ _ st hk=>st.keep hk
 item:=λi s Q E hi st hQ=>ya Bm GM st (x:=vs[i]) (by simp[hi]) λh' ah hs'=>hQ _ h' s.toks (by simp[hi]) ah λb o hb e=>hs'.extBut b o (λh=>hb (by simp[h])) e
 done:=λs Q E st hQ=>AA hh st λh' Jf=>hQ h' s.toks λb o hb e=>Jf b o (λh=>hb (by simp[h])) e
 self:=λ_ _ _ _ st hQ=>zh st hQ
def gv {α:Type}:∀{l:List α} {i:Nat} (h:i < l.length),(l[i]::l.eraseIdx i).Perm l
 | a::l,0,h=>List.Perm.refl _
 | a::l,i + 1,h=>by
  have hi:i < l.length:=by simpa using h
  show (l[i]::a::l.eraseIdx i).Perm (a::l);exact(List.Perm.swap _ _ _).trans ((gv hi).cons a)
def um {α:Type} (next:Nat->Nat):∀(fuel k:Nat) (left:List α) (out:Array α),left.length<=fuel->(pickOrder.go next fuel k left out).toList.Perm (out.toList++left)
 | 0,k,left,out,h=>by have:left=[]:=List.length_eq_zero_iff.mp (by omega);subst this;unfold pickOrder.go;simp
 | fuel + 1,k,left,out,h=>by
  unfold pickOrder.go;cases left with
  | nil=>simp
  | cons a r=>have cz:next k % (a::r).length < (a::r).length:=Nat.mod_lt _ (by simp);rw[PX cz];dsimp only;refine(um next fuel (k + 1) _ _ (by rw[List.length_eraseIdx_of_lt cz];simp at h ⊢;omega)).trans ?_;rw[Array.toList_push,PF];refine List.Perm.append_left _ ?_;exact gv cz
def mC {α:Type} (next:Nat->Nat) (xs:Array α):(pickOrder next xs).toList.Perm xs.toList:=by unfold pickOrder;simpa using um next xs.size 0 xs.toList #[] (by simp)
def iA {α:Type}:∀(n:Nat) (xs:List α) {s:Shared} {Q:List α->Shared->Prop},xs.length<=n->(∀ys d,ys.Perm xs->Q ys {s with drawn:=d})->wpAny (model prog w) A (drawOrder n xs) Q E s
 | 0,xs,s,Q,hn,h=>by have:xs=[]:=List.length_eq_zero_iff.mp (by omega);subst this;unfold drawOrder;exact Pl (h [] s.drawn (List.Perm.refl _))
 | n + 1,[],s,Q,hn,h=>by unfold drawOrder;exact Pl (h [] s.drawn (List.Perm.refl _))
 | n + 1,x::xs,s,Q,hn,h=>by unfold drawOrder;refine Pi (mP (by simp) λi d hi=>?_);rw[PX hi];dsimp only;refine Pi (iA n _ (by rw[List.length_eraseIdx_of_lt hi];simp at hn ⊢;omega) λys d' hp=>Pl ?_);exact h _ d' ((hp.cons _).trans (gv hi))
end
end Mx
end
section
namespace MxTim
open PySem PySem.W PyProof.Rows
def BU:Bool->Keyed->Array Keyed->Nat->Nat->Nat->StateT SortSt Sem (Option Nat):=sortPriv% PySem.Builtin.gallop
def Co (fZ:Bool) (k:Keyed) (xs:Array Keyed) (b m h:Nat):BU fZ k xs b m h=(do
 let past (i:Nat):StateT SortSt Sem (Option Bool):=do
  let y<-elem' xs (b + i)
  if fZ then lt' y k else return (<-lt' k y).map (!·)
 let mut la:=0
 let mut st:=1
 let mut u:=0
 let mut v:=0
 let some c0<-past h | return none
 if c0 then
  let mx:=m - h
  for _ in [0:m] do
   if st>=mx then break
   let some c1<-past (h + st) | return none
   if !c1 then break
   la:=st
   st:=2 * st + 1
  u:=h + la + 1
  v:=h + min st mx
 else
  let mx:=h + 1
  for _ in [0:m] do
   if st>=mx then break
   let some c1<-past (h - st) | return none
   if c1 then break
   la:=st
   st:=2 * st + 1
  u:=h + 1 - min st mx
  v:=h - la
 for _ in [0:m] do
  if u>=v then break
  let mm:=u + (v - u) / 2
  let some c2<-past mm | return none
  if c2 then u:=mm + 1 else v:=mm
 return some v):=rfl
section
variable {prog:Program} {w:World} {A:Around} {E:Value->Shared->Prop} {κ:SortKind} {s:Shared} {O:KeyOrd} {ky:Keyed->O.α} {Mem:Keyed->Prop}
def Tells (prog:Program) (w:World) (A:Around) (κ:SortKind) (s:Shared) (O:KeyOrd) (ky:Keyed->O.α) (Mem:Keyed->Prop):Prop:=
 ∀x y,Mem x->Mem y->∀C:Bool->Shared->Prop,C (O.blt (ky x) (ky y)) s->wpAny (model prog w) A (keyLt' κ x.1 y.1) C (λ_ _=>False) s
def oX (T:Tells prog w A κ s O ky Mem) {x y:Keyed} (hx:Mem x) (hy:Mem y) {st:SortSt} (hk:kindOf st=κ) {Q:Option Bool->SortSt->Shared->Prop} (h:Q (some (O.blt (ky x) (ky y))) st s):kasC (model prog w) A E (lt' x y) Q st s:=by rw[lt'_eq];refine Pr (kasC_get ?_);rw[hk];refine Pr (kasC_lift (wpAny_attempt (wpAny_mono (T x y hx hy (λc s'=>Q (some c) st s') h) (λc s' hc=>?_) λ_ _ hF=>hF.elim)));exact Pw hc
def aP {xs:Array Keyed} {i:Nat} {x:Keyed} (hx:xs[i]?=some x) {st:SortSt} {Q:Keyed->SortSt->Shared->Prop} (h:Q x st s):kasC (model prog w) A E (elem' xs i) Q st s:=by rw[elem'_eq,hx];exact Pw h
def cM {β:Type} {l:List Nat} {b0:β} {f:Nat->β->StateT SortSt Sem (ForInStep β)} {Q:β->SortSt->Shared->Prop} (Inv:Nat->β->SortSt->Prop) {cW:SortSt} (h0:Inv 0 b0 cW)
  (step:∀j b st x,j < l.length->Inv j b st->kasC (model prog w) A E (f x b) (λr ah s'=>s'=s/\match r with | .done b'=>Q b' ah s | .yield b'=>Inv (j + 1) b' ah) st s)
  (fin:∀b st,Inv l.length b st->Q b st s):kasC (model prog w) A E (forIn l b0 f) Q cW s:=by
 have go:∀(l':List Nat) (j:Nat) (b:β) (st:SortSt),j + l'.length=l.length->Inv j b st->kasC (model prog w) A E (forIn l' b f) Q st s:=by
  intro l'
  induction l' with
  | nil=>intro j b st hj hI;simp only[List.length_nil,Nat.add_zero] at hj;subst hj;exact kasC_nil (fin b st hI)
  | cons x l' ih=>
   intro j b st hj hI;simp only[PM] at hj;refine kasC_cons (wpAny_mono (step j b st x (by omega) hI) (λr s' h'=>?_) λ_ _ e=>e);obtain⟨r,ah⟩:=r;obtain⟨rfl,h'⟩:=h';cases r with
   | done b'=>exact h'
   | yield b'=>exact ih (j + 1) b' ah (by omega) h'
 exact go l 0 b0 cW (by omega) h0
def bB {α:Type} {m:StateT SortSt Sem α} {Q Q':α->SortSt->Shared->Prop} {st:SortSt} (h:kasC (model prog w) A E m Q st s) (hq:∀a ah s',Q a ah s'->Q' a ah s'):kasC (model prog w) A E m Q' st s:=by unfold kasC at h ⊢;exact wpAny_mono h (λr s' h'=>hq _ _ _ h') λ_ _ e=>e
def dE (O:KeyOrd) (ky:Keyed->O.α) (fZ:Bool) (k:Keyed) (g:Nat->Keyed) (i:Nat):Bool:=if fZ=true then O.blt (ky (g i)) (ky k) else !O.blt (ky k) (ky (g i))
def iL (T:Tells prog w A κ s O ky Mem) {fZ:Bool} {k:Keyed} {xs:Array Keyed} {b m h:Nat} (g:Nat->Keyed) (hg:∀i,i < m->xs[b + i]?=some (g i)) (hm:∀i,i < m->Mem (g i)) (hk:Mem k) (hh:h < m)
  (mono:∀i j,i<=j->j < m->dE O ky fZ k g j=true->dE O ky fZ k g i=true) {st:SortSt} (hs:kindOf st=κ) {Q:Option Nat->SortSt->Shared->Prop}
  (q:∀v,v<=m->(∀i,i < v->dE O ky fZ k g i=true)->(∀i,v<=i->i < m->dE O ky fZ k g i=false)->Q (some v) st s):kasC (model prog w) A E (BU fZ k xs b m h) Q st s:=by
 have past:∀(i:Nat) {R:Option Bool->SortSt->Shared->Prop},i < m->R (some (dE O ky fZ k g i)) st s->kasC (model prog w) A E (do
   let y<-elem' xs (b + i)
   if fZ=true then lt' y k else do
    let r<-lt' k y
    pure (r.map (!·))) R st s:=λi R hi hR=>by
  refine Pr (aP (hg i hi) ?_);unfold dE at hR;cases fZ with
  | true=>rw[if_pos rfl] at hR ⊢;exact oX T (hm i hi) hk hs hR
  | false=>rw[if_neg (by simp)] at hR ⊢;exact Pr (oX T hk (hm i hi) hs (Pw hR))
 have tx:∀i j,i<=j->j < m->dE O ky fZ k g i=false->dE O ky fZ k g j=false:=λi j gg hj hi=>by
  cases c:dE O ky fZ k g j with
  | false=>rfl
  | true=>rw[mono i j gg hj c] at hi;cases hi
 rw[Co];dsimp only;refine Pr (past h hh ?_);dsimp only;cases c0:dE O ky fZ k g h with
 | true=>
  rw[if_pos rfl];refine Pr (bB (Q:=λr ah s'=>st=ah/\s=s'/\∃la sp,r=(none,la,sp)/\h + la < m/\la < sp/\dE O ky fZ k g (h + la)=true/\∀i,h + min sp (m - h)<=i->i < m->dE O ky fZ k g i=false) (kasC_range (cM (λj r ah=>st=ah/\∃la sp,r=(none,la,sp)/\h + la < m/\la < sp/\j + 1<=sp/\dE O ky fZ k g (h + la)=true) ⟨rfl,0,1,rfl,by omega,by omega,by omega,c0⟩ (λj r ah x hj hI=>?_) (λr ah hI=>?_))) (λr ah s' hI=>?_))
  ·obtain⟨rfl,la,sp,rfl,oP,oq,HK,hb⟩:=hI;dsimp only;by_cases c:sp>=m - h
   ·rw[if_pos c];exact Pw ⟨rfl,rfl,rfl,la,sp,rfl,oP,oq,hb,λi hi him=>by omega⟩
   ·rw[if_neg c];refine Pr (past _ (by omega) ?_);dsimp only;cases cb:dE O ky fZ k g (h + sp) with
    | true=>rw[if_neg (by simp)];exact Pw ⟨rfl,rfl,_,_,rfl,by omega,by omega,by omega,cb⟩
    | false=>rw[if_pos (by simp)];exact Pw ⟨rfl,rfl,rfl,la,sp,rfl,oP,oq,hb,λi hi him=>tx (h + sp) i (by omega) him cb⟩
  ·obtain⟨rfl,la,sp,rfl,oP,oq,HK,hb⟩:=hI;rw[List.length_range'] at HK;exact⟨rfl,rfl,la,sp,rfl,oP,oq,hb,λi hi him=>by omega⟩
  obtain⟨rfl,rfl,la,sp,rfl,oP,oq,hb,zj⟩:=hI;have n0:∀i,i < h + la + 1->dE O ky fZ k g i=true:=λi hi=>mono i _ (by omega) oP hb
  dsimp only;refine Pr (kasC_range (cM (λj r ah=>st=ah/\∃u v,r=(none,u,v)/\v<=m/\u<=v/\v - u + j<=m/\(∀i,i < u->dE O ky fZ k g i=true)/\(∀i,v<=i->i < m->dE O ky fZ k g i=false)) ⟨rfl,_,_,rfl,by omega,by omega,by omega,n0,zj⟩ (λj r ah x hj hI=>?_) (λr ah hI=>?_)))
  ·obtain⟨rfl,u,v,rfl,hv,Js,G7,h1,h2⟩:=hI;dsimp only;by_cases c:u>=v
   ·rw[if_pos c];have e:u=v:=by omega
    subst e;exact Pw ⟨rfl,Pw (q u hv h1 h2)⟩
   ·rw[if_neg c];have yS:u + (v - u) / 2 < v:=by omega
    refine Pr (past _ (by omega) ?_);dsimp only;cases cb:dE O ky fZ k g (u + (v - u) / 2) with
    | true=>rw[if_pos rfl];exact Pw ⟨rfl,rfl,_,_,rfl,hv,by omega,by omega,λi hi=>mono i _ (by omega) (by omega) cb,h2⟩
    | false=>rw[if_neg (by simp)];exact Pw ⟨rfl,rfl,_,_,rfl,by omega,by omega,by omega,h1,λi hi him=>tx _ i hi him cb⟩
  ·obtain⟨rfl,u,v,rfl,hv,Js,G7,h1,h2⟩:=hI;have e:u=v:=by rw[List.length_range'] at G7;omega
   subst e;exact Pw (q u hv h1 h2)
 | false=>
  rw[if_neg (by simp)];refine Pr (bB (Q:=λr ah s'=>st=ah/\s=s'/\∃la sp,r=(none,la,sp)/\la<=h/\la < sp/\dE O ky fZ k g (h - la)=false/\∀i,i < h + 1 - min sp (h + 1)->dE O ky fZ k g i=true) (kasC_range (cM (λj r ah=>st=ah/\∃la sp,r=(none,la,sp)/\la<=h/\la < sp/\j + 1<=sp/\dE O ky fZ k g (h - la)=false) ⟨rfl,0,1,rfl,by omega,by omega,by omega,c0⟩ (λj r ah x hj hI=>?_) (λr ah hI=>?_))) (λr ah s' hI=>?_))
  ·obtain⟨rfl,la,sp,rfl,oP,oq,HK,hb⟩:=hI;dsimp only;by_cases c:sp>=h + 1
   ·rw[if_pos c];exact Pw ⟨rfl,rfl,rfl,la,sp,rfl,oP,oq,hb,λi hi=>by omega⟩
   ·rw[if_neg c];refine Pr (past _ (by omega) ?_);dsimp only;cases cb:dE O ky fZ k g (h - sp) with
    | true=>rw[if_pos rfl];exact Pw ⟨rfl,rfl,rfl,la,sp,rfl,oP,oq,hb,λi hi=>mono i (h - sp) (by omega) (by omega) cb⟩
    | false=>rw[if_neg (by simp)];exact Pw ⟨rfl,rfl,_,_,rfl,by omega,by omega,by omega,cb⟩
  ·obtain⟨rfl,la,sp,rfl,oP,oq,HK,hb⟩:=hI;rw[List.length_range'] at HK;exact⟨rfl,rfl,la,sp,rfl,oP,oq,hb,λi hi=>by omega⟩
  obtain⟨rfl,rfl,la,sp,rfl,oP,oq,hb,n0⟩:=hI;have zj:∀i,h - la<=i->i < m->dE O ky fZ k g i=false:=λi hi him=>tx (h - la) i (by omega) him hb
  dsimp only;refine Pr (kasC_range (cM (λj r ah=>st=ah/\∃u v,r=(none,u,v)/\v<=m/\u<=v/\v - u + j<=m/\(∀i,i < u->dE O ky fZ k g i=true)/\(∀i,v<=i->i < m->dE O ky fZ k g i=false)) ⟨rfl,_,_,rfl,by omega,by omega,by omega,n0,zj⟩ (λj r ah x hj hI=>?_) (λr ah hI=>?_)))
  ·obtain⟨rfl,u,v,rfl,hv,Js,G7,h1,h2⟩:=hI;dsimp only;by_cases c:u>=v
   ·rw[if_pos c];have e:u=v:=by omega
    subst e;exact Pw ⟨rfl,Pw (q u hv h1 h2)⟩
   ·rw[if_neg c];have yS:u + (v - u) / 2 < v:=by omega
    refine Pr (past _ (by omega) ?_);dsimp only;cases cb:dE O ky fZ k g (u + (v - u) / 2) with
    | true=>rw[if_pos rfl];exact Pw ⟨rfl,rfl,_,_,rfl,hv,by omega,by omega,λi hi=>mono i _ (by omega) (by omega) cb,h2⟩
    | false=>rw[if_neg (by simp)];exact Pw ⟨rfl,rfl,_,_,rfl,by omega,by omega,by omega,h1,λi hi him=>tx _ i hi him cb⟩
  ·obtain⟨rfl,u,v,rfl,hv,Js,G7,h1,h2⟩:=hI;have e:u=v:=by rw[List.length_range'] at G7;omega
   subst e;exact Pw (q u hv h1 h2)
end
section
variable {O:KeyOrd} {ky:Keyed->O.α}
def le (O:KeyOrd) (ky:Keyed->O.α) (x y:Keyed):Prop:=O.kle (ky x) (ky y)
def g6 (O:KeyOrd) (ky:Keyed->O.α) (l:List Keyed):Prop:=l.Pairwise (le O ky)
structure MI (O:KeyOrd) (ky:Keyed->O.α) (la lb out:List Keyed) (i j:Nat):Prop where
 p:out.Perm (la.take i++lb.take j)
 s:g6 O ky out
 a:∀x∈out,∀y∈la.drop i,le O ky x y
 b:∀x∈out,∀y∈lb.drop j,le O ky x y
theorem cL {l:List Keyed} {i k:Nat}:l.drop i=(l.drop i).take k++l.drop (i + k):=by rw[<-List.drop_drop,List.take_append_drop]
def gB {l:List Keyed} {i k:Nat}:l.take (i + k)=l.take i++(l.drop i).take k:=by rw[List.take_add]
def MI.pJ {la lb out:List Keyed} {i j k:Nat} (h:MI O ky la lb out i j) (sa:g6 O ky la) (hk:∀x∈(la.drop i).take k,∀y∈lb.drop j,le O ky x y):MI O ky la lb (out++(la.drop i).take k) (i + k) j:=by
 have sd:g6 O ky (la.drop i):=sa.sublist (List.drop_sublist _ _);rw[cL (k:=k)] at sd;obtain⟨s1,s2,s3⟩:=List.pairwise_append.mp sd;have EA:∀y∈(la.drop i).take k,y∈la.drop i:=λy hy=>List.mem_of_mem_take hy
 have vc:∀y∈la.drop (i + k),y∈la.drop i:=λy hy=>by rw[cL (k:=k)];exact P6 _ hy
 refine⟨?_,List.pairwise_append.mpr ⟨h.s,s1,λx hx y hy=>h.a x hx y (EA y hy)⟩,λx hx y hy=>?_,λx hx y hy=>?_⟩
 ·rw[gB];refine(h.p.append_right _).trans ?_;rw[PF,PF];exact List.Perm.append_left _ List.perm_append_comm
 ·rcases PU.mp hx with hx | hx
  ·exact h.a x hx y (vc y hy)
  ·exact s3 x hx y hy
 ·rcases PU.mp hx with hx | hx
  ·exact h.b x hx y hy
  ·exact hk x hx y hy
def MI.pq {la lb out:List Keyed} {i j k:Nat} (h:MI O ky la lb out i j) (sb:g6 O ky lb) (hk:∀x∈(lb.drop j).take k,∀y∈la.drop i,le O ky x y):MI O ky la lb (out++(lb.drop j).take k) i (j + k):=by
 have sd:g6 O ky (lb.drop j):=sb.sublist (List.drop_sublist _ _);rw[cL (k:=k)] at sd;obtain⟨s1,s2,s3⟩:=List.pairwise_append.mp sd;have EA:∀y∈(lb.drop j).take k,y∈lb.drop j:=λy hy=>List.mem_of_mem_take hy
 have vc:∀y∈lb.drop (j + k),y∈lb.drop j:=λy hy=>by rw[cL (k:=k)];exact P6 _ hy
 refine⟨?_,List.pairwise_append.mpr ⟨h.s,s1,λx hx y hy=>h.b x hx y (EA y hy)⟩,λx hx y hy=>?_,λx hx y hy=>?_⟩
 ·rw[gB];refine(h.p.append_right _).trans ?_;rw[PF]
 ·rcases PU.mp hx with hx | hx
  ·exact h.a x hx y hy
  ·exact hk x hx y hy
 ·rcases PU.mp hx with hx | hx
  ·exact h.b x hx y (vc y hy)
  ·exact s3 x hx y hy
def rb (O:KeyOrd) (ky:Keyed->O.α) (la lb out:List Keyed):Prop:=out.Perm (la++lb)/\g6 O ky out
def MI.uz {la lb out:List Keyed} {i j:Nat} (h:MI O ky la lb out i j) (sa:g6 O ky la) (hj:lb.length<=j):rb O ky la lb (out++la.drop i++lb.drop j):=by have e:lb.drop j=[]:=List.drop_of_length_le hj;have e2:lb.take j=lb:=List.take_of_length_le hj;rw[e,Qd];refine⟨?_,List.pairwise_append.mpr ⟨h.s,sa.sublist (List.drop_sublist _ _),h.a⟩⟩;refine(h.p.append_right _).trans ?_;rw[e2,PF];refine(List.Perm.append_left _ List.perm_append_comm).trans ?_;rw[<-PF,List.take_append_drop]
def MI.GI {la lb out:List Keyed} {i j:Nat} (h:MI O ky la lb out i j) (sb:g6 O ky lb) (hi:la.length<=i):rb O ky la lb (out++la.drop i++lb.drop j):=by have e:la.drop i=[]:=List.drop_of_length_le hi;have e2:la.take i=la:=List.take_of_length_le hi;rw[e,Qd];refine⟨?_,List.pairwise_append.mpr ⟨h.s,sb.sublist (List.drop_sublist _ _),h.b⟩⟩;refine(h.p.append_right _).trans ?_;rw[e2,PF,List.take_append_drop]
def MI.sX {la lb out:List Keyed} {i j:Nat} (h:MI O ky la lb out i j) (sa:g6 O ky la) (sb:g6 O ky lb) (hl:∀x∈lb.drop j,∀y∈la.drop i,le O ky x y):rb O ky la lb (out++lb.drop j++la.drop i):=by
 refine⟨?_,List.pairwise_append.mpr ⟨List.pairwise_append.mpr ⟨h.s,sb.sublist (List.drop_sublist _ _),h.b⟩,sa.sublist (List.drop_sublist _ _),λx hx y hy=>?_⟩⟩
 ·refine((h.p.append_right _).append_right _).trans ?_;rw[PF (la.take i),List.take_append_drop];refine(List.perm_append_comm).trans ?_;rw[<-PF];refine(List.Perm.append_right _ List.perm_append_comm).trans ?_;rw[List.take_append_drop]
 ·rcases PU.mp hx with hx | hx
  ·exact h.a x hx y hy
  ·exact hl x hx y hy
def MI.start {la lb:List Keyed}:MI O ky la lb [] 0 0:=⟨by simp,List.Pairwise.nil,λx hx=>absurd hx (by simp),λx hx=>absurd hx (by simp)⟩
end
def Cu:Array Keyed->Array Keyed->StateT SortSt Sem (Array Keyed):=sortPriv% PySem.Builtin.mergeLo
def setG:Nat->StateT SortSt Sem Unit:=sortPriv% PySem.Builtin.setMinGallop
abbrev GS:=Option (Array Keyed)×Array Keyed×Nat×Nat×Nat×Nat×Nat
abbrev SS:=Option (Array Keyed)×Array Keyed×Nat×Nat×Nat×Nat
abbrev OS:=Option (Array Keyed)×Array Keyed×Nat×Nat×Nat
def zl (x y o:Array Keyed) (i j:Nat):Array Keyed:=o++x.extract i x.size++y.extract j y.size
def vy (x y o:Array Keyed) (i j:Nat):Array Keyed:=o++y.extract j y.size++x.extract i x.size
def IL (x y o:Array Keyed) (i j mg ca cb:Nat):StateT SortSt Sem (ForInStep GS):=do
 let e<-elem' x i
 if (i + 1 + 1==x.size)=true then pure (.done (some (vy x y (o.push e) (i + 1) j),o.push e,i + 1,j,mg,ca,cb))
 else if (decide (ca < 7)&&decide (cb < 7))=true then pure (.done (none,o.push e,i + 1,j,mg,ca,cb))
 else pure (.yield (none,o.push e,i + 1,j,mg,ca,cb))
def Iq (x y o:Array Keyed) (i j mg ca qm:Nat):StateT SortSt Sem (ForInStep GS):=do
 let e<-elem' y j
 if (j + 1==y.size)=true then pure (.done (some (zl x y (o.push e) i (j + 1)),o.push e,i,j + 1,mg,ca,qm))
 else do
  let f<-elem' x i
  let r<-BU true f y (j + 1) (y.size - (j + 1)) 0
  match r with
  | some k=>
   if k > 0 then
    if (j + 1 + k==y.size)=true then pure (.done (some (zl x y (o.push e++y.extract (j + 1) (j + 1 + k)) i (j + 1 + k)),o.push e++y.extract (j + 1) (j + 1 + k),i,j + 1 + k,mg,ca,k))
    else IL x y (o.push e++y.extract (j + 1) (j + 1 + k)) i (j + 1 + k) mg ca k
   else IL x y (o.push e) i (j + 1) mg ca k
  | _=>pure (.done (some (zl x y (o.push e) i (j + 1)),o.push e,i,j + 1,mg,ca,qm))
def IZ (x y o:Array Keyed) (i j mg JI qm:Nat):StateT SortSt Sem (ForInStep GS):=do
 setG mg
 let e<-elem' y j
 let r<-BU false e x i (x.size - i) 0
 match r with
 | some k=>
  if k > 0 then
   if (i + k + 1==x.size)=true then pure (.done (some (vy x y (o++x.extract i (i + k)) (i + k) j),o++x.extract i (i + k),i + k,j,mg,k,qm))
   else if (i + k==x.size)=true then pure (.done (some (zl x y (o++x.extract i (i + k)) (i + k) j),o++x.extract i (i + k),i + k,j,mg,k,qm))
   else Iq x y (o++x.extract i (i + k)) (i + k) j mg k qm
  else Iq x y o i j mg k qm
 | _=>pure (.done (some (zl x y o i j),o,i,j,mg,JI,qm))
def LP (x y:Array Keyed) (mg:Nat) (r:SS):StateT SortSt Sem (ForInStep SS):=do
 let e<-elem' y r.2.2.2.1
 let f<-elem' x r.2.2.1
 let c<-lt' e f
 match c with
 | some yw=>
  if yw=true then do
   let e<-elem' y r.2.2.2.1
   if (r.2.2.2.1 + 1==y.size)=true then pure (.done (some (zl x y (r.2.1.push e) r.2.2.1 (r.2.2.2.1 + 1)),r.2.1.push e,r.2.2.1,r.2.2.2.1 + 1,0,r.2.2.2.2.2 + 1))
   else if r.2.2.2.2.2 + 1>=mg then pure (.done (none,r.2.1.push e,r.2.2.1,r.2.2.2.1 + 1,0,r.2.2.2.2.2 + 1))
   else pure (.yield (none,r.2.1.push e,r.2.2.1,r.2.2.2.1 + 1,0,r.2.2.2.2.2 + 1))
  else do
   let f<-elem' x r.2.2.1
   if (r.2.2.1 + 1 + 1==x.size)=true then pure (.done (some (vy x y (r.2.1.push f) (r.2.2.1 + 1) r.2.2.2.1),r.2.1.push f,r.2.2.1 + 1,r.2.2.2.1,r.2.2.2.2.1 + 1,0))
   else if r.2.2.2.2.1 + 1>=mg then pure (.done (none,r.2.1.push f,r.2.2.1 + 1,r.2.2.2.1,r.2.2.2.2.1 + 1,0))
   else pure (.yield (none,r.2.1.push f,r.2.2.1 + 1,r.2.2.2.1,r.2.2.2.2.1 + 1,0))
 | _=>pure (.done (some (zl x y r.2.1 r.2.2.1 r.2.2.2.1),r.2.1,r.2.2.1,r.2.2.2.1,r.2.2.2.2.1,r.2.2.2.2.2))
def Cy (x y:Array Keyed) (r:OS):StateT SortSt Sem (ForInStep OS):=do
 let a<-forIn [:x.size + y.size] ((none,r.2.1,r.2.2.1,r.2.2.2.1,0,0):SS) λ_ a=>LP x y r.2.2.2.2 a
 match a.1 with
 | some v=>pure (.done (some v,a.2.1,a.2.2.1,a.2.2.2.1,r.2.2.2.2))
 | none=>do
  rule "list.sort.gallop"
  let b<-forIn [:x.size + y.size] ((none,a.2.1,a.2.2.1,a.2.2.2.1,r.2.2.2.2 + 1,a.2.2.2.2.1,a.2.2.2.2.2):GS) λ_ b=>
   if b.2.2.2.2.1 > 1 then IZ x y b.2.1 b.2.2.1 b.2.2.2.1 (b.2.2.2.2.1 - 1) b.2.2.2.2.2.1 b.2.2.2.2.2.2 else IZ x y b.2.1 b.2.2.1 b.2.2.2.1 b.2.2.2.2.1 b.2.2.2.2.2.1 b.2.2.2.2.2.2
  match b.1 with
  | some v=>pure (.done (some v,b.2.1,b.2.2.1,b.2.2.2.1,b.2.2.2.2.1))
  | none=>do
   setG (b.2.2.2.2.1 + 1)
   pure (.yield (none,b.2.1,b.2.2.1,b.2.2.2.1,b.2.2.2.2.1 + 1))
def Mf (x y:Array Keyed):StateT SortSt Sem (Array Keyed):=do
 rule "list.sort.merge-lo"
 let e<-elem' y 0
 if (1==y.size)=true then pure (zl x y #[e] 0 1)
 else if (0 + 1==x.size)=true then pure (vy x y #[e] 0 1)
 else do
  let st<-get
  let r<-forIn [:x.size + y.size] ((none,#[e],0,1,gallopOf st):OS) λ_ r=>Cy x y r
  match r.1 with
  | some a=>pure a
  | none=>unsupported "internal:list.sort.merge-bound"
def Ai (x y:Array Keyed):Cu x y=Mf x y:=by kernel_rfl
def jH (x:Array Keyed) (i:Nat):(x.extract i x.size).toList=x.toList.drop i:=by rw[Array.toList_extract];show (x.toList.drop i).take (x.size - i)=_;exact List.take_of_length_le (by rw[List.length_drop];simp)
def kI (x:Array Keyed) (i k:Nat):(x.extract i (i + k)).toList=(x.toList.drop i).take k:=by simp_all
def eZ (x y o:Array Keyed) (i j:Nat):(zl x y o i j).toList=o.toList++x.toList.drop i++y.toList.drop j:=by unfold zl;rw[Array.toList_append,Array.toList_append,jH,jH]
def fS (x y o:Array Keyed) (i j:Nat):(vy x y o i j).toList=o.toList++y.toList.drop j++x.toList.drop i:=by unfold vy;rw[Array.toList_append,Array.toList_append,jH,jH]
def aE {x:Array Keyed} {i:Nat} (h:i < x.size):x[i]?=some (kas_item x i):=by unfold kas_item;simp[Array.getD,h]
def take_one {x:Array Keyed} {i:Nat} (h:i < x.size):(x.toList.drop i).take 1=[kas_item x i]:=by have e:x.toList.drop i=x.toList[i]'(by simpa using h)::x.toList.drop (i + 1):=List.drop_eq_getElem_cons (by simpa using h);rw[e];unfold kas_item;simp[Array.getD,h]
def fU {x o:Array Keyed} {i:Nat} (h:i < x.size):(o.push (kas_item x i)).toList=o.toList++(x.toList.drop i).take 1:=by rw[take_one h];simp
section
variable {O:KeyOrd} {ky:Keyed->O.α} {Mem:Keyed->Prop}
def cg {x:Array Keyed} (sx:g6 O ky x.toList) {i j:Nat} (gg:i<=j) (hj:j < x.size):le O ky (kas_item x i) (kas_item x j):=by
 have e:∀k,(h:k < x.size)->kas_item x k=x.toList[k]'(by simpa using h):=λk h=>by unfold kas_item;simp[Array.getD,h]
 rw[e i (by omega),e j hj];by_cases c:i=j
 ·subst c;exact KeyOrd.kle_refl _
 ·exact List.pairwise_iff_getElem.mp sx i j (by simpa using (show i < x.size by omega)) (by simpa using hj) (by omega)
def cq {x:Array Keyed} {i:Nat} {e:Keyed} (h:e∈x.toList.drop i):∃k,i<=k/\k < x.size/\e=kas_item x k:=by
 obtain⟨k,hk,rfl⟩:=List.getElem_of_mem h;rw[List.length_drop] at hk;have jt:i + k < x.size:=by simp at hk;omega
 refine⟨i + k,by omega,jt,?_⟩;rw[List.getElem_drop];unfold kas_item;simp[Array.getD,jt]
def aU {x:Array Keyed} {i n:Nat} {e:Keyed} (h:e∈(x.toList.drop i).take n):∃k,i<=k/\k < i + n/\k < x.size/\e=kas_item x k:=by
 obtain⟨k,hk,rfl⟩:=List.getElem_of_mem h;rw[List.length_take,List.length_drop] at hk;have jt:i + k < x.size:=by simp at hk;omega
 refine⟨i + k,by omega,by omega,jt,?_⟩;rw[List.getElem_take,List.getElem_drop];unfold kas_item;simp[Array.getD,jt]
structure MP (O:KeyOrd) (ky:Keyed->O.α) (Mem:Keyed->Prop) (x y:Array Keyed):Prop where
 sa:g6 O ky x.toList
 sb:g6 O ky y.toList
 ma:∀i,i < x.size->Mem (kas_item x i)
 mb:∀i,i < y.size->Mem (kas_item y i)
 pa:1<=x.size
 pb:1<=y.size
 first:O.blt (ky (kas_item y 0)) (ky (kas_item x 0))=true
 last:∀j,j < y.size->O.blt (ky (kas_item y j)) (ky (kas_item x (x.size - 1)))=true
def MP.lst {x y:Array Keyed} (h:MP O ky Mem x y) {i j:Nat} (hi:i + 1=x.size):∀e∈y.toList.drop j,∀f∈x.toList.drop i,le O ky e f:=λe he f hf=>by
 obtain⟨k,_,k2,rfl⟩:=cq he;obtain⟨l,l1,l2,rfl⟩:=cq hf;have:l=x.size - 1:=by omega
 subst this;exact KeyOrd.kle_of_klt (h.last k k2)
structure zF (O:KeyOrd) (ky:Keyed->O.α) (x y o:Array Keyed) (i j:Nat):Prop where
 m:MI O ky x.toList y.toList o.toList i j
 i1:i + 1 < x.size
 j1:j < y.size
def GP (O:KeyOrd) (ky:Keyed->O.α) (x y:Array Keyed) (n:Nat) (v:Option (Array Keyed)) (o:Array Keyed) (i j:Nat):Prop:=(∃a,v=some a/\rb O ky x.toList y.toList a.toList)\/(v=none/\zF O ky x y o i j/\n<=i + j)
def SI (cW st:SortSt):Prop:=kindOf st=kindOf cW/\arrOf st=arrOf cW/\pendingOf st=pendingOf cW/\failedOf st=failedOf cW
def SI.refl (st:SortSt):SI st st:=⟨rfl,rfl,rfl,rfl⟩
def SI.trans {a b c:SortSt} (h:SI a b) (g:SI b c):SI a c:=⟨g.1.trans h.1,g.2.1.trans h.2.1,g.2.2.1.trans h.2.2.1,g.2.2.2.trans h.2.2.2⟩
variable {prog:Program} {w:World} {A:Around} {E:Value->Shared->Prop} {κ:SortKind} {s:Shared}
def jy {g:Nat} {st:SortSt} {Q:Unit->SortSt->Shared->Prop} (h:∀ah,SI st ah->Q () ah s):kasC (model prog w) A E (setG g) Q st s:=by
 have e:setG g=modify λt=>SortSt.mk' (kindOf t) (arrOf t) (pendingOf t) g (failedOf t):=by kernel_rfl
 rw[e];exact kasC_modify (h _ ⟨rfl,rfl,rfl,rfl⟩)
def vO (O:KeyOrd) (ky:Keyed->O.α) (x y:Array Keyed) (n:Nat):ForInStep GS->Prop
 | .done r=>GP O ky x y n r.1 r.2.1 r.2.2.1 r.2.2.2.1
 | .yield r=>r.1=none/\GP O ky x y n r.1 r.2.1 r.2.2.1 r.2.2.2.1
def vR {x y o:Array Keyed} (M:MP O ky Mem x y) {i j mg ca cb n:Nat} (h:MI O ky x.toList y.toList o.toList i j) (hi:i + 1 < x.size) (hj:j < y.size) (hk:∀l,j<=l->l < y.size->le O ky (kas_item x i) (kas_item y l)) (hn:n<=i + 1 + j) {st:SortSt} {Q:ForInStep GS->SortSt->Shared->Prop}
  (q:∀r,vO O ky x y n r->Q r st s):kasC (model prog w) A E (IL x y o i j mg ca cb) Q st s:=by
 unfold IL;refine Pr (aP (aE (by omega)) ?_);have m1:=h.pJ (k:=1) M.sa (λe he f hf=>by
  obtain⟨a,a1,a2,a3,rfl⟩:=aU he;obtain⟨b,b1,b2,rfl⟩:=cq hf;have:a=i:=by omega
  subst this;exact hk b b1 b2)
 rw[<-fU (x:=x) (by omega)] at m1;by_cases c:(i + 1 + 1==x.size)=true
 ·rw[if_pos c];have c':i + 1 + 1=x.size:=by simpa using c
  refine Pw (q _ (.inl ⟨_,rfl,?_⟩));rw[fS];exact m1.sX M.sa M.sb (M.lst c')
 ·rw[if_neg c];have c':¬i + 1 + 1=x.size:=by simpa using c
  have g:GP O ky x y n none (o.push (kas_item x i)) (i + 1) j:= .inr ⟨rfl,⟨m1,by omega,hj⟩,by omega⟩;by_cases d:(decide (ca < 7)&&decide (cb < 7))=true
  ·rw[if_pos d];exact Pw (q _ g)
  ·rw[if_neg d];exact Pw (q _ ⟨rfl,g⟩)
def wc (T:Tells prog w A κ s O ky Mem) {x y o:Array Keyed} (M:MP O ky Mem x y) {i j mg ca cb n:Nat} (h:MI O ky x.toList y.toList o.toList i j) (hi:i + 1 < x.size) (hj:j < y.size) (hk:∀l,i<=l->l < x.size->le O ky (kas_item y j) (kas_item x l)) (hn:n<=i + j + 1) {st:SortSt} (hs:kindOf st=κ)
  {Q:ForInStep GS->SortSt->Shared->Prop} (q:∀r,vO O ky x y n r->Q r st s):kasC (model prog w) A E (Iq x y o i j mg ca cb) Q st s:=by
 unfold Iq;refine Pr (aP (aE hj) ?_);have m1:=h.pq (k:=1) M.sb (λe he f hf=>by
  obtain⟨a,a1,a2,a3,rfl⟩:=aU he;obtain⟨b,b1,b2,rfl⟩:=cq hf;have:a=j:=by omega
  subst this;exact hk b b1 b2)
 rw[<-fU (x:=y) hj] at m1;by_cases c:(j + 1==y.size)=true
 ·rw[if_pos c];have c':j + 1=y.size:=by simpa using c
  refine Pw (q _ (.inl ⟨_,rfl,?_⟩));rw[eZ];exact m1.uz M.sa (by simp;omega)
 ·rw[if_neg c];have c':¬j + 1=y.size:=by simpa using c
  refine Pr (aP (aE (by omega)) (Pr ?_));refine iL T (λt=>kas_item y (j + 1 + t)) (λt ht=>aE (by omega)) (λt ht=>M.mb _ (by omega)) (M.ma i (by omega)) (by omega) (λa b gu hb oE=>?_) hs (λk hk1 cz iK=>?_)
  ·unfold dE at oE ⊢;rw[if_pos rfl] at oE ⊢;have:=cg M.sb (show j + 1 + a<=j + 1 + b by omega) (by omega);exact KeyOrd.klt_of_kle_of_klt this oE
  ·have lo:∀t,t < k->O.blt (ky (kas_item y (j + 1 + t))) (ky (kas_item x i))=true:=λt ht=>by have:=cz t ht;unfold dE at this;rw[if_pos rfl] at this;exact this
   have u7:∀l,j + 1 + k<=l->l < y.size->le O ky (kas_item x i) (kas_item y l):=λl cy cX=>by have z:=iK (l - (j + 1)) (by omega) (by omega);unfold dE at z;rw[if_pos rfl] at z;have z2:O.blt (ky (kas_item y (j + 1 + (l - (j + 1))))) (ky (kas_item x i))=false:=z;rw[show j + 1 + (l - (j + 1))=l by omega] at z2;exact z2
   dsimp only;by_cases k0:k > 0
   ·rw[if_pos k0];have m2:=m1.pq (k:=k) M.sb (λe he f hf=>by
     obtain⟨a,a1,a2,a3,rfl⟩:=aU he;obtain⟨b,b1,b2,rfl⟩:=cq hf;have h1:=lo (a - (j + 1)) (by omega);rw[show j + 1 + (a - (j + 1))=a by omega] at h1;exact P0 (KeyOrd.kle_of_klt h1) (cg M.sa b1 b2))
    rw[<-kI,<-Array.toList_append] at m2;by_cases d:(j + 1 + k==y.size)=true
    ·rw[if_pos d];have d':j + 1 + k=y.size:=by simpa using d
     refine Pw (q _ (.inl ⟨_,rfl,?_⟩));rw[eZ];exact m2.uz M.sa (by simp;omega)
    ·rw[if_neg d];have d':¬j + 1 + k=y.size:=by simpa using d
     exact vR M m2 hi (by omega) u7 (by omega) q
   ·rw[if_neg k0];have:k=0:=by omega
    subst this;exact vR M m1 hi (by omega) u7 (by omega) q
def yZ (T:Tells prog w A κ s O ky Mem) {x y o:Array Keyed} (M:MP O ky Mem x y) {i j mg ca cb n:Nat} (h:zF O ky x y o i j) (hn:n<=i + j) {cW st:SortSt} (hs:kindOf st=κ) (gP:SI cW st)
  {Q:ForInStep GS->SortSt->Shared->Prop} (q:∀r ah,SI cW ah->vO O ky x y n r->Q r ah s):kasC (model prog w) A E (IZ x y o i j mg ca cb) Q st s:=by
 unfold IZ;have hi:=h.i1;have hj:=h.j1;refine Pr (jy λmX h1=>?_);have wz:kindOf mX=κ:=h1.1.trans hs;have q':=λr=>q r mX (gP.trans h1)
 refine Pr (aP (aE hj) (Pr ?_));refine iL T (λt=>kas_item x (i + t)) (λt ht=>aE (by omega)) (λt ht=>M.ma _ (by omega)) (M.mb j hj) (by omega) (λa b gu hb oE=>?_) wz (λk hk1 cz iK=>?_)
 ·unfold dE at oE ⊢;rw[if_neg (by simp)] at oE ⊢;have:=cg M.sa (show i + a<=i + b by omega) (by omega);cases z:O.blt (ky (kas_item y j)) (ky (kas_item x (i + a))) with
  | false=>rfl
  | true=>have z2:O.blt (ky (kas_item y j)) (ky (kas_item x (i + b)))=true:=KeyOrd.klt_of_klt_of_kle z this;have vZ:(!O.blt (ky (kas_item y j)) (ky (kas_item x (i + b))))=true:=oE;rw[z2] at vZ;cases vZ
 ·have lo:∀t,t < k->le O ky (kas_item x (i + t)) (kas_item y j):=λt ht=>by have z:=cz t ht;unfold dE at z;rw[if_neg (by simp)] at z;have z2:(!O.blt (ky (kas_item y j)) (ky (kas_item x (i + t))))=true:=z;show O.blt (ky (kas_item y j)) (ky (kas_item x (i + t)))=false;simpa using z2
  have u7:∀l,i + k<=l->l < x.size->le O ky (kas_item y j) (kas_item x l):=λl cy cX=>by
   have z:=iK (l - i) (by omega) (by omega);unfold dE at z;rw[if_neg (by simp)] at z;have z2:(!O.blt (ky (kas_item y j)) (ky (kas_item x (i + (l - i)))))=false:=z;rw[show i + (l - i)=l by omega] at z2;have z3:O.blt (ky (kas_item y j)) (ky (kas_item x l))=true:=by simpa using z2
   exact KeyOrd.kle_of_klt z3
  dsimp only;by_cases k0:k > 0
  ·rw[if_pos k0];have m2:=h.m.pJ (k:=k) M.sa (λe he f hf=>by
    obtain⟨a,a1,a2,a3,rfl⟩:=aU he;obtain⟨b,b1,b2,rfl⟩:=cq hf;have h1:=lo (a - i) (by omega);rw[show i + (a - i)=a by omega] at h1;exact P0 h1 (cg M.sb b1 b2))
   rw[<-kI,<-Array.toList_append] at m2;by_cases c:(i + k + 1==x.size)=true
   ·rw[if_pos c];have c':i + k + 1=x.size:=by simpa using c
    refine Pw (q' _ (.inl ⟨_,rfl,?_⟩));rw[fS];exact m2.sX M.sa M.sb (M.lst c')
   ·rw[if_neg c];have c':¬i + k + 1=x.size:=by simpa using c
    by_cases d:(i + k==x.size)=true
    ·rw[if_pos d];have d':i + k=x.size:=by simpa using d
     refine Pw (q' _ (.inl ⟨_,rfl,?_⟩));rw[eZ];exact m2.GI M.sb (by simp;omega)
    ·rw[if_neg d];have d':¬i + k=x.size:=by simpa using d
     exact wc T M m2 (by omega) hj u7 (by omega) wz q'
  ·rw[if_neg k0];have:k=0:=by omega
   subst this;exact wc T M h.m hi hj u7 (by omega) wz q'
end
section
variable {O:KeyOrd} {ky:Keyed->O.α} {Mem:Keyed->Prop}
variable {prog:Program} {w:World} {A:Around} {E:Value->Shared->Prop} {κ:SortKind} {s:Shared}
def SStep (O:KeyOrd) (ky:Keyed->O.α) (x y:Array Keyed) (n:Nat):ForInStep SS->Prop
 | .done r=>GP O ky x y n r.1 r.2.1 r.2.2.1 r.2.2.2.1
 | .yield r=>r.1=none/\GP O ky x y n r.1 r.2.1 r.2.2.1 r.2.2.2.1
def GP.none {x y:Array Keyed} {n:Nat} {v:Option (Array Keyed)} {o:Array Keyed} {i j:Nat} (h:GP O ky x y n v o i j) (hv:v=none):zF O ky x y o i j/\n<=i + j:=by
 rcases h with ⟨a,e,_⟩ | ⟨_,h⟩
 ·rw[hv] at e;cases e
 ·exact h
def DQ (T:Tells prog w A κ s O ky Mem) {x y:Array Keyed} (M:MP O ky Mem x y) {mg:Nat} {r:SS} (h:zF O ky x y r.2.1 r.2.2.1 r.2.2.2.1) {n:Nat} (hn:n<=r.2.2.1 + r.2.2.2.1 + 1) {st:SortSt} (hs:kindOf st=κ)
  {Q:ForInStep SS->SortSt->Shared->Prop} (q:∀r',SStep O ky x y n r'->Q r' st s):kasC (model prog w) A E (LP x y mg r) Q st s:=by
 obtain⟨v,o,i,j,ca,cb⟩:=r;have hi:i + 1 < x.size:=h.i1;have hj:j < y.size:=h.j1;have hm:MI O ky x.toList y.toList o.toList i j:=h.m;dsimp only at hn;unfold LP;dsimp only;refine Pr (aP (aE hj) (Pr (aP (aE (by omega)) (Pr (oX T (M.mb j hj) (M.ma i (by omega)) hs ?_)))));dsimp only;cases c:O.blt (ky (kas_item y j)) (ky (kas_item x i)) with
 | true=>
  rw[if_pos rfl];refine Pr (aP (aE hj) ?_);have m1:=hm.pq (k:=1) M.sb (λe he f hf=>by
   obtain⟨a,a1,a2,a3,rfl⟩:=aU he;obtain⟨b,b1,b2,rfl⟩:=cq hf;have:a=j:=by omega
   subst this;exact P0 (KeyOrd.kle_of_klt c) (cg M.sa b1 b2))
  rw[<-fU (x:=y) hj] at m1;by_cases d:(j + 1==y.size)=true
  ·rw[if_pos d];have d':j + 1=y.size:=by simpa using d
   refine Pw (q _ (.inl ⟨_,rfl,?_⟩));rw[eZ];exact m1.uz M.sa (by simp;omega)
  ·rw[if_neg d];have d':¬j + 1=y.size:=by simpa using d
   have g:GP O ky x y n none (o.push (kas_item y j)) i (j + 1):= .inr ⟨rfl,⟨m1,hi,by omega⟩,by omega⟩;by_cases e:cb + 1>=mg
   ·rw[if_pos e];exact Pw (q _ g)
   ·rw[if_neg e];exact Pw (q _ ⟨rfl,g⟩)
 | false=>
  rw[if_neg (by simp)];refine Pr (aP (aE (by omega)) ?_);have m1:=hm.pJ (k:=1) M.sa (λe he f hf=>by
   obtain⟨a,a1,a2,a3,rfl⟩:=aU he;obtain⟨b,b1,b2,rfl⟩:=cq hf;have:a=i:=by omega
   subst this;exact P0 (show O.kle (ky (kas_item x a)) (ky (kas_item y j)) from c) (cg M.sb b1 b2))
  rw[<-fU (x:=x) (by omega)] at m1;by_cases d:(i + 1 + 1==x.size)=true
  ·rw[if_pos d];have d':i + 1 + 1=x.size:=by simpa using d
   refine Pw (q _ (.inl ⟨_,rfl,?_⟩));rw[fS];exact m1.sX M.sa M.sb (M.lst d')
  ·rw[if_neg d];have d':¬i + 1 + 1=x.size:=by simpa using d
   have g:GP O ky x y n none (o.push (kas_item x i)) (i + 1) j:= .inr ⟨rfl,⟨m1,by omega,hj⟩,by omega⟩;by_cases e:ca + 1>=mg
   ·rw[if_pos e];exact Pw (q _ g)
   ·rw[if_neg e];exact Pw (q _ ⟨rfl,g⟩)
def Hz (O:KeyOrd) (ky:Keyed->O.α) (x y:Array Keyed) (n:Nat):ForInStep OS->Prop
 | .done r=>∃a,r.1=some a/\rb O ky x.toList y.toList a.toList
 | .yield r=>r.1=none/\zF O ky x y r.2.1 r.2.2.1 r.2.2.2.1/\n<=r.2.2.1 + r.2.2.2.1
def Al (T:Tells prog w A κ s O ky Mem) {x y:Array Keyed} (M:MP O ky Mem x y) {r:OS} (h:zF O ky x y r.2.1 r.2.2.1 r.2.2.2.1) {n:Nat} (hn:n<=r.2.2.1 + r.2.2.2.1) {cW st:SortSt} (hs:kindOf st=κ) (gP:SI cW st)
  {Q:ForInStep OS->SortSt->Shared->Prop} (q:∀r' ah,SI cW ah->Hz O ky x y (n + 1) r'->Q r' ah s):kasC (model prog w) A E (Cy x y r) Q st s:=by
 unfold Cy;have hp:=M.pa;refine Pr (bB (Q:=λa ah s'=>st=ah/\s=s'/\GP O ky x y (n + 1) a.1 a.2.1 a.2.2.1 a.2.2.2.1) (kasC_range (cM (λjj a ah=>st=ah/\a.1=none/\zF O ky x y a.2.1 a.2.2.1 a.2.2.2.1/\n + jj<=a.2.2.1 + a.2.2.2.1) ⟨rfl,rfl,h,by simpa using hn⟩ (λjj a ah z hj hI=>?_) (λa ah hI=>?_))) (λa ah s' hI=>?_))
 ·obtain⟨rfl,a0,DA,an⟩:=hI;refine DQ T M DA (n:=n + jj + 1) (by omega) hs (λr' gM=>⟨rfl,?_⟩);cases r' with
  | done b=>
   refine⟨rfl,rfl,?_⟩;rcases gM with ⟨v,e,m⟩ | ⟨e,ok,l⟩
   ·exact .inl ⟨v,e,m⟩
   ·exact .inr ⟨e,ok,by omega⟩
  | yield b=>obtain⟨b0,gb⟩:=gM;obtain⟨ok,l⟩:=gb.none b0;exact⟨rfl,b0,ok,by omega⟩
 ·obtain⟨rfl,a0,DA,an⟩:=hI;rw[List.length_range'] at an;exact⟨rfl,rfl,.inr ⟨a0,DA,by omega⟩⟩
 obtain⟨rfl,rfl,ga⟩:=hI;rcases ga with ⟨v,e,m⟩ | ⟨e,ok,l⟩
 ·rw[e];exact Pw (q _ _ gP ⟨v,rfl,m⟩)
 ·rw[e];refine Pr (kasC_lift (wpAny_rule ?_));refine Pr (bB (Q:=λb ah s'=>SI cW ah/\s=s'/\GP O ky x y (n + 1) b.1 b.2.1 b.2.2.1 b.2.2.2.1) (kasC_range (cM (λjj b ah=>SI cW ah/\kindOf ah=κ/\b.1=none/\zF O ky x y b.2.1 b.2.2.1 b.2.2.2.1/\n + 1<=b.2.2.1 + b.2.2.2.1) ⟨gP,hs,rfl,ok,l⟩ (λjj b ah z hj hI=>?_) (λb ah hI=>?_))) (λb ah s' hI=>?_))
  ·obtain⟨si,ks,b0,zD,bn⟩:=hI;have kk:∀dB,SI cW dB->kindOf dB=κ:=λdB h2=>(h2.1.trans si.1.symm).trans ks
   by_cases c:b.2.2.2.2.1 > 1
   ·rw[if_pos c];refine yZ T M zD bn ks si (λr' dB h2 gM=>⟨rfl,?_⟩);cases r' with
    | done b'=>exact⟨h2,rfl,gM⟩
    | yield b'=>obtain⟨c0,gc⟩:=gM;obtain⟨Es,l'⟩:=gc.none c0;exact⟨h2,kk dB h2,c0,Es,l'⟩
   ·rw[if_neg c];refine yZ T M zD bn ks si (λr' dB h2 gM=>⟨rfl,?_⟩);cases r' with
    | done b'=>exact⟨h2,rfl,gM⟩
    | yield b'=>obtain⟨c0,gc⟩:=gM;obtain⟨Es,l'⟩:=gc.none c0;exact⟨h2,kk dB h2,c0,Es,l'⟩
  ·obtain⟨si,ks,b0,zD,bn⟩:=hI;exact⟨si,rfl,.inr ⟨b0,zD,bn⟩⟩
  obtain⟨si,rfl,gb⟩:=hI;rcases gb with ⟨v,e2,m⟩ | ⟨e2,Lq,l2⟩
  ·rw[e2];exact Pw (q _ _ si ⟨v,rfl,m⟩)
  ·rw[e2];exact Pr (jy λdB h2=>Pw (q _ _ (si.trans h2) ⟨rfl,Lq,l2⟩))
def AL (T:Tells prog w A κ s O ky Mem) {x y:Array Keyed} (M:MP O ky Mem x y) {st:SortSt} (hs:kindOf st=κ) {Q:Array Keyed->SortSt->Shared->Prop} (q:∀v ah,SI st ah->rb O ky x.toList y.toList v.toList->Q v ah s):kasC (model prog w) A E (Cu x y) Q st s:=by
 rw[Ai];unfold Mf;have hp:=M.pa;have hq:=M.pb;refine Pr (kasC_lift (wpAny_rule ?_));refine Pr (aP (aE (by omega)) ?_);have m1:=(MI.start (O:=O) (ky:=ky) (la:=x.toList) (lb:=y.toList)).pq (k:=1) M.sb (λe he f hf=>by
  obtain⟨a,a1,a2,a3,rfl⟩:=aU he;obtain⟨b,b1,b2,rfl⟩:=cq hf;have:a=0:=by omega
  subst this;exact P0 (KeyOrd.kle_of_klt M.first) (cg M.sa (Nat.zero_le b) b2))
 have e0:(#[kas_item y 0]:Array Keyed).toList=[]++(y.toList.drop 0).take 1:=by rw[take_one (by omega)];rfl
 rw[<-e0,Nat.zero_add] at m1;by_cases c:(1==y.size)=true
 ·rw[if_pos c];have c':1=y.size:=by simpa using c
  refine Pw (q _ _ (SI.refl _) ?_);rw[eZ];exact m1.uz M.sa (by simp;omega)
 ·rw[if_neg c];have c':¬1=y.size:=by simpa using c
  by_cases d:(0 + 1==x.size)=true
  ·rw[if_pos d];have d':0 + 1=x.size:=by simpa using d
   refine Pw (q _ _ (SI.refl _) ?_);rw[fS];exact m1.sX M.sa M.sb (M.lst d')
  ·rw[if_neg d];have d':¬0 + 1=x.size:=by simpa using d
   refine Pr (kasC_get ?_);refine Pr (bB (Q:=λr ah s'=>SI st ah/\s=s'/\∃a,r.1=some a/\rb O ky x.toList y.toList a.toList) (kasC_range (cM (λjj r ah=>SI st ah/\r.1=none/\zF O ky x y r.2.1 r.2.2.1 r.2.2.2.1/\jj + 1<=r.2.2.1 + r.2.2.2.1) ⟨SI.refl _,rfl,⟨m1,(show 0 + 1 < x.size by omega),(show 1 < y.size by omega)⟩,by simp⟩ (λjj r ah z hj hI=>?_) (λr ah hI=>?_))) (λr ah s' hI=>?_))
   ·obtain⟨si,r0,Az,rn⟩:=hI;refine Al T M Az rn (si.1.trans hs) si (λr' dB h2 gM=>⟨rfl,?_⟩);cases r' with
    | done b=>exact⟨h2,rfl,gM⟩
    | yield b=>exact⟨h2,gM.1,gM.2.1,gM.2.2⟩
   ·obtain⟨si,r0,Az,rn⟩:=hI;rw[List.length_range'] at rn;have h1:=Az.i1;have h2:=Az.j1;omega
   obtain⟨si,rfl,a,e,m⟩:=hI;rw[e];exact Pw (q _ _ si m)
end
section
variable {O:KeyOrd} {ky:Keyed->O.α}
structure HI (O:KeyOrd) (ky:Keyed->O.α) (la lb R:List Keyed) (i j:Nat):Prop where
 p:R.Perm (la.drop i++lb.drop j)
 s:g6 O ky R
 a:∀x∈la.take i,∀y∈R,le O ky x y
 b:∀x∈lb.take j,∀y∈R,le O ky x y
def fK {l:List Keyed} {i k:Nat} (h:k<=i):l.take i=l.take k++(l.drop k).take (i - k):=by have:=gB (l:=l) (i:=k) (k:=i - k);rw[show k + (i - k)=i by omega] at this;exact this
def jO {l:List Keyed} {i k:Nat} (h:k<=i):l.drop k=(l.drop k).take (i - k)++l.drop i:=by grind [cL]
def HI.pJ {la lb R:List Keyed} {i k j:Nat} (h:HI O ky la lb R i j) (hk:k<=i) (sa:g6 O ky la) (hb:∀e∈(la.drop k).take (i - k),∀y∈lb.take j,le O ky y e):HI O ky la lb ((la.drop k).take (i - k)++R) k j:=by
 have st:g6 O ky (la.take i):=sa.sublist (List.take_sublist _ _);rw[fK hk] at st;obtain⟨s1,s2,s3⟩:=List.pairwise_append.mp st;have m1:∀y∈(la.drop k).take (i - k),y∈la.take i:=λy hy=>by rw[fK hk];exact P6 _ hy
 have m2:∀y∈la.take k,y∈la.take i:=λy hy=>by rw[fK hk];exact List.mem_append_left _ hy
 refine⟨?_,List.pairwise_append.mpr ⟨s2,h.s,λx hx y hy=>h.a x (m1 x hx) y hy⟩,λx hx y hy=>?_,λx hx y hy=>?_⟩
 ·refine(h.p.append_left _).trans ?_;rw[<-PF,<-jO (l:=la) hk]
 ·rcases PU.mp hy with hy | hy
  ·exact s3 x hx y hy
  ·exact h.a x (m2 x hx) y hy
 ·rcases PU.mp hy with hy | hy
  ·exact hb y hy x hx
  ·exact h.b x hx y hy
def HI.pq {la lb R:List Keyed} {i k j:Nat} (h:HI O ky la lb R i j) (hk:k<=j) (sb:g6 O ky lb) (hb:∀e∈(lb.drop k).take (j - k),∀y∈la.take i,le O ky y e):HI O ky la lb ((lb.drop k).take (j - k)++R) i k:=by
 have st:g6 O ky (lb.take j):=sb.sublist (List.take_sublist _ _);rw[fK hk] at st;obtain⟨s1,s2,s3⟩:=List.pairwise_append.mp st;have m1:∀y∈(lb.drop k).take (j - k),y∈lb.take j:=λy hy=>by rw[fK hk];exact P6 _ hy
 have m2:∀y∈lb.take k,y∈lb.take j:=λy hy=>by rw[fK hk];exact List.mem_append_left _ hy
 refine⟨?_,List.pairwise_append.mpr ⟨s2,h.s,λx hx y hy=>h.b x (m1 x hx) y hy⟩,λx hx y hy=>?_,λx hx y hy=>?_⟩
 ·refine(h.p.append_left _).trans ?_;rw[<-PF];refine(List.Perm.append_right _ List.perm_append_comm).trans ?_;rw[PF,<-jO (l:=lb) hk]
 ·rcases PU.mp hy with hy | hy
  ·exact hb y hy x hx
  ·exact h.a x hx y hy
 ·rcases PU.mp hy with hy | hy
  ·exact s3 x hx y hy
  ·exact h.b x (m2 x hx) y hy
def HI.i5 {la lb R:List Keyed} {i j:Nat} (h:HI O ky la lb R i j) (sa:g6 O ky la) (sb:g6 O ky lb) (hf:∀x∈lb.take j,∀y∈la.take i,le O ky x y):rb O ky la lb (lb.take j++la.take i++R):=by
 refine⟨?_,?_⟩
 ·refine(h.p.append_left _).trans ?_;rw[PF,<-PF (la.take i),List.take_append_drop];refine(List.perm_append_comm).trans ?_;rw[PF];refine List.Perm.append_left _ ((List.perm_append_comm).trans ?_);rw[List.take_append_drop]
 ·refine List.pairwise_append.mpr ⟨List.pairwise_append.mpr ⟨sb.sublist (List.take_sublist _ _),sa.sublist (List.take_sublist _ _),hf⟩,h.s,λx hx y hy=>?_⟩;rcases PU.mp hx with hx | hx
  ·exact h.b x hx y hy
  ·exact h.a x hx y hy
def HI.sN {la lb R:List Keyed} {j:Nat} (h:HI O ky la lb R 0 j) (sa:g6 O ky la) (sb:g6 O ky lb):rb O ky la lb (la.take 0++lb.take j++R):=by have:=h.i5 sa sb (λx hx y hy=>absurd hy (by simp));simpa using this
def HI.EK {la lb R:List Keyed} {i:Nat} (h:HI O ky la lb R i 0) (sa:g6 O ky la) (sb:g6 O ky lb):rb O ky la lb (la.take i++lb.take 0++R):=by have:=h.i5 sa sb (λx hx y hy=>absurd hx (by simp));simpa using this
def HI.start {la lb:List Keyed}:HI O ky la lb [] la.length lb.length:=⟨by simp,List.Pairwise.nil,λx _ y hy=>absurd hy (by simp),λx _ y hy=>absurd hy (by simp)⟩
end
def DX:Array Keyed->Array Keyed->StateT SortSt Sem (Array Keyed):=sortPriv% PySem.Builtin.mergeHi
abbrev GH:=Option (Array Keyed)×Nat×Nat×Array Keyed×Nat×Nat×Nat
abbrev SH:=Option (Array Keyed)×Nat×Nat×Array Keyed×Nat×Nat
abbrev OH:=Option (Array Keyed)×Nat×Nat×Array Keyed×Nat
def lh (x y o:Array Keyed) (i j:Nat):Array Keyed:=x.extract 0 i++y.extract 0 j++o.reverse
def uT (x y o:Array Keyed) (i j:Nat):Array Keyed:=y.extract 0 j++x.extract 0 i++o.reverse
def IY (x y o:Array Keyed) (i j mg ca cb:Nat):StateT SortSt Sem (ForInStep GH):=do
 let e<-elem' x (i - 1)
 if (i - 1==0)=true then pure (.done (some (lh x y (o.push e) (i - 1) j),i - 1,j,o.push e,mg,ca,cb))
 else if (decide (ca < 7)&&decide (cb < 7))=true then pure (.done (none,i - 1,j,o.push e,mg,ca,cb))
 else pure (.yield (none,i - 1,j,o.push e,mg,ca,cb))
def cX (x y o:Array Keyed) (i j mg ca qm:Nat):StateT SortSt Sem (ForInStep GH):=do
 let e<-elem' y (j - 1)
 if (j - 1==1)=true then pure (.done (some (uT x y (o.push e) i (j - 1)),i,j - 1,o.push e,mg,ca,qm))
 else do
  let f<-elem' x (i - 1)
  let r<-BU true f y 0 (j - 1) (j - 1 - 1)
  match r with
  | some k=>
   if j - 1 - k > 0 then
    if (k==1)=true then pure (.done (some (uT x y (o.push e++(y.extract k (j - 1)).reverse) i k),i,k,o.push e++(y.extract k (j - 1)).reverse,mg,ca,j - 1 - k))
    else if (k==0)=true then pure (.done (some (lh x y (o.push e++(y.extract k (j - 1)).reverse) i k),i,k,o.push e++(y.extract k (j - 1)).reverse,mg,ca,j - 1 - k))
    else IY x y (o.push e++(y.extract k (j - 1)).reverse) i k mg ca (j - 1 - k)
   else IY x y (o.push e) i (j - 1) mg ca (j - 1 - k)
  | _=>pure (.done (some (lh x y (o.push e) i (j - 1)),i,j - 1,o.push e,mg,ca,qm))
def cy (x y o:Array Keyed) (i j mg JI qm:Nat):StateT SortSt Sem (ForInStep GH):=do
 setG mg
 let e<-elem' y (j - 1)
 let r<-BU false e x 0 i (i - 1)
 match r with
 | some k=>
  if i - k > 0 then
   if (k==0)=true then pure (.done (some (lh x y (o++(x.extract k i).reverse) k j),k,j,o++(x.extract k i).reverse,mg,i - k,qm))
   else cX x y (o++(x.extract k i).reverse) k j mg (i - k) qm
  else cX x y o i j mg (i - k) qm
 | _=>pure (.done (some (lh x y o i j),i,j,o,mg,JI,qm))
def KY (x y:Array Keyed) (mg:Nat) (r:SH):StateT SortSt Sem (ForInStep SH):=do
 let e<-elem' y (r.2.2.1 - 1)
 let f<-elem' x (r.2.1 - 1)
 let c<-lt' e f
 match c with
 | some xw=>
  if xw=true then do
   let f<-elem' x (r.2.1 - 1)
   if (r.2.1 - 1==0)=true then pure (.done (some (lh x y (r.2.2.2.1.push f) (r.2.1 - 1) r.2.2.1),r.2.1 - 1,r.2.2.1,r.2.2.2.1.push f,r.2.2.2.2.1 + 1,0))
   else if r.2.2.2.2.1 + 1>=mg then pure (.done (none,r.2.1 - 1,r.2.2.1,r.2.2.2.1.push f,r.2.2.2.2.1 + 1,0))
   else pure (.yield (none,r.2.1 - 1,r.2.2.1,r.2.2.2.1.push f,r.2.2.2.2.1 + 1,0))
  else do
   let e<-elem' y (r.2.2.1 - 1)
   if (r.2.2.1 - 1==1)=true then pure (.done (some (uT x y (r.2.2.2.1.push e) r.2.1 (r.2.2.1 - 1)),r.2.1,r.2.2.1 - 1,r.2.2.2.1.push e,0,r.2.2.2.2.2 + 1))
   else if r.2.2.2.2.2 + 1>=mg then pure (.done (none,r.2.1,r.2.2.1 - 1,r.2.2.2.1.push e,0,r.2.2.2.2.2 + 1))
   else pure (.yield (none,r.2.1,r.2.2.1 - 1,r.2.2.2.1.push e,0,r.2.2.2.2.2 + 1))
 | _=>pure (.done (some (lh x y r.2.2.2.1 r.2.1 r.2.2.1),r.2.1,r.2.2.1,r.2.2.2.1,r.2.2.2.2.1,r.2.2.2.2.2))
def Dk (x y:Array Keyed) (r:OH):StateT SortSt Sem (ForInStep OH):=do
 let a<-forIn [:x.size + y.size] ((none,r.2.1,r.2.2.1,r.2.2.2.1,0,0):SH) λ_ a=>KY x y r.2.2.2.2 a
 match a.1 with
 | some v=>pure (.done (some v,a.2.1,a.2.2.1,a.2.2.2.1,r.2.2.2.2))
 | none=>do
  rule "list.sort.gallop"
  let b<-forIn [:x.size + y.size] ((none,a.2.1,a.2.2.1,a.2.2.2.1,r.2.2.2.2 + 1,a.2.2.2.2.1,a.2.2.2.2.2):GH) λ_ b=>
   if b.2.2.2.2.1 > 1 then cy x y b.2.2.2.1 b.2.1 b.2.2.1 (b.2.2.2.2.1 - 1) b.2.2.2.2.2.1 b.2.2.2.2.2.2 else cy x y b.2.2.2.1 b.2.1 b.2.2.1 b.2.2.2.2.1 b.2.2.2.2.2.1 b.2.2.2.2.2.2
  match b.1 with
  | some v=>pure (.done (some v,b.2.1,b.2.2.1,b.2.2.2.1,b.2.2.2.2.1))
  | none=>do
   setG (b.2.2.2.2.1 + 1)
   pure (.yield (none,b.2.1,b.2.2.1,b.2.2.2.1,b.2.2.2.2.1 + 1))
def B0 (x y:Array Keyed):StateT SortSt Sem (Array Keyed):=do
 rule "list.sort.merge-hi"
 let e<-elem' x (x.size - 1)
 if (x.size - 1==0)=true then pure (lh x y #[e] (x.size - 1) y.size)
 else if (y.size==1)=true then pure (uT x y #[e] (x.size - 1) y.size)
 else do
  let st<-get
  let r<-forIn [:x.size + y.size] ((none,x.size - 1,y.size,#[e],gallopOf st):OH) λ_ r=>Dk x y r
  match r.1 with
  | some a=>pure a
  | none=>unsupported "internal:list.sort.merge-bound"
def A5 (x y:Array Keyed):DX x y=B0 x y:=by kernel_rfl
def vX (x:Array Keyed) (i:Nat):(x.extract 0 i).toList=x.toList.take i:=by rw[Array.toList_extract];show (x.toList.drop 0).take (i - 0)=_;simp
def Ay (x:Array Keyed) {k i:Nat}:(x.extract k i).toList=(x.toList.drop k).take (i - k):=by rw[Array.toList_extract]
def dY (x y o:Array Keyed) (i j:Nat):(lh x y o i j).toList=x.toList.take i++y.toList.take j++o.toList.reverse:=by simp_all [lh,vX]
def fQ (x y o:Array Keyed) (i j:Nat):(uT x y o i j).toList=y.toList.take j++x.toList.take i++o.toList.reverse:=by simp_all [uT,vX]
def tH (x o:Array Keyed) (k i:Nat):(o++(x.extract k i).reverse).toList.reverse=(x.toList.drop k).take (i - k)++o.toList.reverse:=by simp_all
def iD {x o:Array Keyed} {i:Nat} (h1:1<=i) (h2:i<=x.size):(o.push (kas_item x (i - 1))).toList.reverse=(x.toList.drop (i - 1)).take (i - (i - 1))++o.toList.reverse:=by rw[show i - (i - 1)=1 by omega,take_one (by omega)];simp
section
variable {O:KeyOrd} {ky:Keyed->O.α} {Mem:Keyed->Prop}
variable {prog:Program} {w:World} {A:Around} {E:Value->Shared->Prop} {κ:SortKind} {s:Shared}
def eA {x:Array Keyed} {i:Nat} {e:Keyed} (h:e∈x.toList.take i):∃k,k < i/\k < x.size/\e=kas_item x k:=by
 have h':e∈(x.toList.drop 0).take i:=by simpa using h
 obtain⟨k,_,k1,k2,e⟩:=aU h';exact⟨k,by omega,k2,e⟩
structure AB (O:KeyOrd) (ky:Keyed->O.α) (x y o:Array Keyed) (i j:Nat):Prop where
 m:HI O ky x.toList y.toList o.toList.reverse i j
 i1:1<=i
 i2:i < x.size
 j1:2<=j
 j2:j<=y.size
def MP.fst {x y:Array Keyed} (h:MP O ky Mem x y) {i:Nat} (hi:i<=x.size):∀e∈y.toList.take 1,∀f∈x.toList.take i,le O ky e f:=λe he f hf=>by
 obtain⟨k,k1,k2,rfl⟩:=eA he;obtain⟨l,l1,l2,rfl⟩:=eA hf;have:k=0:=by omega
 subst this;exact P0 (KeyOrd.kle_of_klt h.first) (cg h.sa (Nat.zero_le l) l2)
def HP (O:KeyOrd) (ky:Keyed->O.α) (x y:Array Keyed) (n:Nat) (v:Option (Array Keyed)) (o:Array Keyed) (i j:Nat):Prop:=(∃a,v=some a/\rb O ky x.toList y.toList a.toList)\/(v=none/\AB O ky x y o i j/\i + j + n<=x.size + y.size)
def HP.none {x y:Array Keyed} {n:Nat} {v:Option (Array Keyed)} {o:Array Keyed} {i j:Nat} (h:HP O ky x y n v o i j) (hv:v=none):AB O ky x y o i j/\i + j + n<=x.size + y.size:=by
 rcases h with ⟨a,e,_⟩ | ⟨_,h⟩
 ·rw[hv] at e;cases e
 ·exact h
def wD (O:KeyOrd) (ky:Keyed->O.α) (x y:Array Keyed) (n:Nat):ForInStep GH->Prop
 | .done r=>HP O ky x y n r.1 r.2.2.2.1 r.2.1 r.2.2.1
 | .yield r=>r.1=none/\HP O ky x y n r.1 r.2.2.2.1 r.2.1 r.2.2.1
def xh {x y o:Array Keyed} (M:MP O ky Mem x y) {i j mg ca cb n:Nat} (h:HI O ky x.toList y.toList o.toList.reverse i j) (hi:1<=i) (u7:i < x.size) (hj:2<=j) (yk:j<=y.size) (hk:∀l,l < j->le O ky (kas_item y l) (kas_item x (i - 1))) (hn:i - 1 + j + n<=x.size + y.size) {st:SortSt} {Q:ForInStep GH->SortSt->Shared->Prop}
  (q:∀r,wD O ky x y n r->Q r st s):kasC (model prog w) A E (IY x y o i j mg ca cb) Q st s:=by
 unfold IY;refine Pr (aP (aE (by omega)) ?_);have m1:=h.pJ (k:=i - 1) (by omega) M.sa (λe he f hf=>by
  obtain⟨a,a1,a2,a3,rfl⟩:=aU he;obtain⟨b,b1,b2,rfl⟩:=eA hf;have:a=i - 1:=by omega
  subst this;exact hk b b1)
 rw[<-iD (x:=x) hi (by omega)] at m1;by_cases c:(i - 1==0)=true
 ·rw[if_pos c];have c':i - 1=0:=by simpa using c
  refine Pw (q _ (.inl ⟨_,rfl,?_⟩));rw[dY];rw[c'] at m1 ⊢;exact m1.sN M.sa M.sb
 ·rw[if_neg c];have c':¬i - 1=0:=by simpa using c
  have g:HP O ky x y n none (o.push (kas_item x (i - 1))) (i - 1) j:= .inr ⟨rfl,⟨m1,by omega,by omega,hj,yk⟩,by omega⟩;by_cases d:(decide (ca < 7)&&decide (cb < 7))=true
  ·rw[if_pos d];exact Pw (q _ g)
  ·rw[if_neg d];exact Pw (q _ ⟨rfl,g⟩)
def we (T:Tells prog w A κ s O ky Mem) {x y o:Array Keyed} (M:MP O ky Mem x y) {i j mg ca cb n:Nat} (h:HI O ky x.toList y.toList o.toList.reverse i j) (hi:1<=i) (u7:i < x.size) (hj:2<=j) (yk:j<=y.size) (hk:∀l,l < i->le O ky (kas_item x l) (kas_item y (j - 1))) (hn:i + (j - 1) + n<=x.size + y.size) {st:SortSt} (hs:kindOf st=κ)
  {Q:ForInStep GH->SortSt->Shared->Prop} (q:∀r,wD O ky x y n r->Q r st s):kasC (model prog w) A E (cX x y o i j mg ca cb) Q st s:=by
 unfold cX;refine Pr (aP (aE (by omega)) ?_);have m1:=h.pq (k:=j - 1) (by omega) M.sb (λe he f hf=>by
  obtain⟨a,a1,a2,a3,rfl⟩:=aU he;obtain⟨b,b1,b2,rfl⟩:=eA hf;have:a=j - 1:=by omega
  subst this;exact hk b b1)
 rw[<-iD (x:=y) (by omega) yk] at m1;by_cases c:(j - 1==1)=true
 ·rw[if_pos c];have c':j - 1=1:=by simpa using c
  refine Pw (q _ (.inl ⟨_,rfl,?_⟩));rw[fQ];rw[c'] at m1 ⊢;exact m1.i5 M.sa M.sb (M.fst (by omega))
 ·rw[if_neg c];have c':¬j - 1=1:=by simpa using c
  refine Pr (aP (aE (by omega)) (Pr ?_));refine iL T (λt=>kas_item y t) (λt ht=>by rw[Nat.zero_add];exact aE (by omega)) (λt ht=>M.mb _ (by omega)) (M.ma (i - 1) (by omega)) (by omega) (λa b gu hb oE=>?_) hs (λk hk1 cz iK=>?_)
  ·unfold dE at oE ⊢;rw[if_pos rfl] at oE ⊢;have:=cg M.sb gu (by omega);exact KeyOrd.klt_of_kle_of_klt this oE
  ·have lo:∀t,t < k->le O ky (kas_item y t) (kas_item x (i - 1)):=λt ht=>by have z:=cz t ht;unfold dE at z;rw[if_pos rfl] at z;exact KeyOrd.kle_of_klt z
   have up:∀t,k<=t->t < j - 1->le O ky (kas_item x (i - 1)) (kas_item y t):=λt h1 h2=>by have z:=iK t h1 h2;unfold dE at z;rw[if_pos rfl] at z;exact z
   dsimp only;by_cases k0:j - 1 - k > 0
   ·rw[if_pos k0];have m2:=m1.pq (k:=k) (by omega) M.sb (λe he f hf=>by
     obtain⟨a,a1,a2,a3,rfl⟩:=aU he;obtain⟨b,b1,b2,rfl⟩:=eA hf;exact P0 (cg M.sa (show b<=i - 1 by omega) (by omega)) (up a a1 (by omega)))
    rw[<-tH] at m2;by_cases d:(k==1)=true
    ·rw[if_pos d];have d':k=1:=by simpa using d
     subst d';refine Pw (q _ (.inl ⟨_,rfl,?_⟩));rw[fQ];exact m2.i5 M.sa M.sb (M.fst (by omega))
    ·rw[if_neg d];have d':¬k=1:=by simpa using d
     by_cases e:(k==0)=true
     ·rw[if_pos e];have e':k=0:=by simpa using e
      subst e';refine Pw (q _ (.inl ⟨_,rfl,?_⟩));rw[dY];exact m2.EK M.sa M.sb
     ·rw[if_neg e];have e':¬k=0:=by simpa using e
      exact xh M m2 hi u7 (by omega) (by omega) lo (by omega) q
   ·rw[if_neg k0];exact xh M m1 hi u7 (by omega) (by omega) (λl hl=>lo l (by omega)) (by omega) q
def wM (T:Tells prog w A κ s O ky Mem) {x y o:Array Keyed} (M:MP O ky Mem x y) {i j mg ca cb n:Nat} (h:AB O ky x y o i j) (hn:i + j + n<=x.size + y.size) {cW st:SortSt} (hs:kindOf st=κ) (gP:SI cW st)
  {Q:ForInStep GH->SortSt->Shared->Prop} (q:∀r ah,SI cW ah->wD O ky x y n r->Q r ah s):kasC (model prog w) A E (cy x y o i j mg ca cb) Q st s:=by
 unfold cy;have hi:=h.i1;have u7:=h.i2;have hj:=h.j1;have yk:=h.j2;refine Pr (jy λmX h1=>?_);have wz:kindOf mX=κ:=h1.1.trans hs;have q':=λr=>q r mX (gP.trans h1)
 refine Pr (aP (aE (by omega)) (Pr ?_));refine iL T (λt=>kas_item x t) (λt ht=>by rw[Nat.zero_add];exact aE (by omega)) (λt ht=>M.ma _ (by omega)) (M.mb (j - 1) (by omega)) (by omega) (λa b gu hb oE=>?_) wz (λk hk1 cz iK=>?_)
 ·unfold dE at oE ⊢;rw[if_neg (by simp)] at oE ⊢;have:=cg M.sa gu (by omega);cases z:O.blt (ky (kas_item y (j - 1))) (ky (kas_item x a)) with
  | false=>rfl
  | true=>have z2:O.blt (ky (kas_item y (j - 1))) (ky (kas_item x b))=true:=KeyOrd.klt_of_klt_of_kle z this;have vZ:(!O.blt (ky (kas_item y (j - 1))) (ky (kas_item x b)))=true:=oE;rw[z2] at vZ;cases vZ
 ·have lo:∀t,t < k->le O ky (kas_item x t) (kas_item y (j - 1)):=λt ht=>by have z:=cz t ht;unfold dE at z;rw[if_neg (by simp)] at z;have z2:(!O.blt (ky (kas_item y (j - 1))) (ky (kas_item x t)))=true:=z;show O.blt (ky (kas_item y (j - 1))) (ky (kas_item x t))=false;simpa using z2
  have up:∀t,k<=t->t < i->le O ky (kas_item y (j - 1)) (kas_item x t):=λt h1 h2=>by
   have z:=iK t h1 h2;unfold dE at z;rw[if_neg (by simp)] at z;have z2:(!O.blt (ky (kas_item y (j - 1))) (ky (kas_item x t)))=false:=z;have z3:O.blt (ky (kas_item y (j - 1))) (ky (kas_item x t))=true:=by simpa using z2
   exact KeyOrd.kle_of_klt z3
  dsimp only;by_cases k0:i - k > 0
  ·rw[if_pos k0];have m2:=h.m.pJ (k:=k) (by omega) M.sa (λe he f hf=>by
    obtain⟨a,a1,a2,a3,rfl⟩:=aU he;obtain⟨b,b1,b2,rfl⟩:=eA hf;exact P0 (cg M.sb (show b<=j - 1 by omega) (by omega)) (up a a1 (by omega)))
   rw[<-tH] at m2;by_cases e:(k==0)=true
   ·rw[if_pos e];have e':k=0:=by simpa using e
    subst e';refine Pw (q' _ (.inl ⟨_,rfl,?_⟩));rw[dY];exact m2.sN M.sa M.sb
   ·rw[if_neg e];have e':¬k=0:=by simpa using e
    exact we T M m2 (by omega) (by omega) hj yk lo (by omega) wz q'
  ·rw[if_neg k0];exact we T M h.m hi u7 hj yk (λl hl=>lo l (by omega)) (by omega) wz q'
def Nj (O:KeyOrd) (ky:Keyed->O.α) (x y:Array Keyed) (n:Nat):ForInStep SH->Prop
 | .done r=>HP O ky x y n r.1 r.2.2.2.1 r.2.1 r.2.2.1
 | .yield r=>r.1=none/\HP O ky x y n r.1 r.2.2.2.1 r.2.1 r.2.2.1
def Cm (T:Tells prog w A κ s O ky Mem) {x y:Array Keyed} (M:MP O ky Mem x y) {mg:Nat} {r:SH} (h:AB O ky x y r.2.2.2.1 r.2.1 r.2.2.1) {n:Nat} (hn:r.2.1 + r.2.2.1 + n<=x.size + y.size + 1) {st:SortSt} (hs:kindOf st=κ)
  {Q:ForInStep SH->SortSt->Shared->Prop} (q:∀r',Nj O ky x y n r'->Q r' st s):kasC (model prog w) A E (KY x y mg r) Q st s:=by
 obtain⟨v,i,j,o,ca,cb⟩:=r;have hi:1<=i:=h.i1;have u7:i < x.size:=h.i2;have hj:2<=j:=h.j1;have yk:j<=y.size:=h.j2;have hm:HI O ky x.toList y.toList o.toList.reverse i j:=h.m;dsimp only at hn;unfold KY;dsimp only;refine Pr (aP (aE (by omega)) (Pr (aP (aE (by omega)) (Pr (oX T (M.mb (j - 1) (by omega)) (M.ma (i - 1) (by omega)) hs ?_)))));dsimp only;cases c:O.blt (ky (kas_item y (j - 1))) (ky (kas_item x (i - 1))) with
 | true=>
  rw[if_pos rfl];refine Pr (aP (aE (by omega)) ?_);have m1:=hm.pJ (k:=i - 1) (by omega) M.sa (λe he f hf=>by
   obtain⟨a,a1,a2,a3,rfl⟩:=aU he;obtain⟨b,b1,b2,rfl⟩:=eA hf;have:a=i - 1:=by omega
   subst this;exact P0 (cg M.sb (show b<=j - 1 by omega) (by omega)) (KeyOrd.kle_of_klt c))
  rw[<-iD (x:=x) hi (by omega)] at m1;by_cases d:(i - 1==0)=true
  ·rw[if_pos d];have d':i - 1=0:=by simpa using d
   refine Pw (q _ (.inl ⟨_,rfl,?_⟩));rw[dY];rw[d'] at m1 ⊢;exact m1.sN M.sa M.sb
  ·rw[if_neg d];have d':¬i - 1=0:=by simpa using d
   have g:HP O ky x y n none (o.push (kas_item x (i - 1))) (i - 1) j:= .inr ⟨rfl,⟨m1,by omega,by omega,hj,yk⟩,by omega⟩;by_cases e:ca + 1>=mg
   ·rw[if_pos e];exact Pw (q _ g)
   ·rw[if_neg e];exact Pw (q _ ⟨rfl,g⟩)
 | false=>
  rw[if_neg (by simp)];refine Pr (aP (aE (by omega)) ?_);have m1:=hm.pq (k:=j - 1) (by omega) M.sb (λe he f hf=>by
   obtain⟨a,a1,a2,a3,rfl⟩:=aU he;obtain⟨b,b1,b2,rfl⟩:=eA hf;have:a=j - 1:=by omega
   subst this;exact P0 (cg M.sa (show b<=i - 1 by omega) (by omega)) c)
  rw[<-iD (x:=y) (by omega) yk] at m1;by_cases d:(j - 1==1)=true
  ·rw[if_pos d];have d':j - 1=1:=by simpa using d
   refine Pw (q _ (.inl ⟨_,rfl,?_⟩));rw[fQ];rw[d'] at m1 ⊢;exact m1.i5 M.sa M.sb (M.fst (by omega))
  ·rw[if_neg d];have d':¬j - 1=1:=by simpa using d
   have g:HP O ky x y n none (o.push (kas_item y (j - 1))) i (j - 1):= .inr ⟨rfl,⟨m1,hi,u7,by omega,by omega⟩,by omega⟩;by_cases e:cb + 1>=mg
   ·rw[if_pos e];exact Pw (q _ g)
   ·rw[if_neg e];exact Pw (q _ ⟨rfl,g⟩)
def N1 (O:KeyOrd) (ky:Keyed->O.α) (x y:Array Keyed) (n:Nat):ForInStep OH->Prop
 | .done r=>∃a,r.1=some a/\rb O ky x.toList y.toList a.toList
 | .yield r=>r.1=none/\AB O ky x y r.2.2.2.1 r.2.1 r.2.2.1/\r.2.1 + r.2.2.1 + n<=x.size + y.size
def AG (T:Tells prog w A κ s O ky Mem) {x y:Array Keyed} (M:MP O ky Mem x y) {r:OH} (h:AB O ky x y r.2.2.2.1 r.2.1 r.2.2.1) {n:Nat} (hn:r.2.1 + r.2.2.1 + n<=x.size + y.size) {cW st:SortSt} (hs:kindOf st=κ) (gP:SI cW st)
  {Q:ForInStep OH->SortSt->Shared->Prop} (q:∀r' ah,SI cW ah->N1 O ky x y (n + 1) r'->Q r' ah s):kasC (model prog w) A E (Dk x y r) Q st s:=by
 unfold Dk;have hp:=M.pa;refine Pr (bB (Q:=λa ah s'=>st=ah/\s=s'/\HP O ky x y (n + 1) a.1 a.2.2.2.1 a.2.1 a.2.2.1) (kasC_range (cM (λjj a ah=>st=ah/\a.1=none/\AB O ky x y a.2.2.2.1 a.2.1 a.2.2.1/\a.2.1 + a.2.2.1 + n + jj<=x.size + y.size) ⟨rfl,rfl,h,by simpa using hn⟩ (λjj a ah z hj hI=>?_) (λa ah hI=>?_))) (λa ah s' hI=>?_))
 ·obtain⟨rfl,a0,DA,an⟩:=hI;refine Cm T M DA (n:=n + jj + 1) (by omega) hs (λr' gM=>⟨rfl,?_⟩);cases r' with
  | done b=>
   refine⟨rfl,rfl,?_⟩;rcases gM with ⟨v,e,m⟩ | ⟨e,ok,l⟩
   ·exact .inl ⟨v,e,m⟩
   ·exact .inr ⟨e,ok,by omega⟩
  | yield b=>obtain⟨b0,gb⟩:=gM;obtain⟨ok,l⟩:=gb.none b0;exact⟨rfl,b0,ok,by omega⟩
 ·obtain⟨rfl,a0,DA,an⟩:=hI;rw[List.length_range'] at an;exact⟨rfl,rfl,.inr ⟨a0,DA,by omega⟩⟩
 obtain⟨rfl,rfl,ga⟩:=hI;rcases ga with ⟨v,e,m⟩ | ⟨e,ok,l⟩
 ·rw[e];exact Pw (q _ _ gP ⟨v,rfl,m⟩)
 ·rw[e];refine Pr (kasC_lift (wpAny_rule ?_));refine Pr (bB (Q:=λb ah s'=>SI cW ah/\s=s'/\HP O ky x y (n + 1) b.1 b.2.2.2.1 b.2.1 b.2.2.1) (kasC_range (cM (λjj b ah=>SI cW ah/\kindOf ah=κ/\b.1=none/\AB O ky x y b.2.2.2.1 b.2.1 b.2.2.1/\b.2.1 + b.2.2.1 + (n + 1)<=x.size + y.size) ⟨gP,hs,rfl,ok,l⟩ (λjj b ah z hj hI=>?_) (λb ah hI=>?_))) (λb ah s' hI=>?_))
  ·obtain⟨si,ks,b0,zD,bn⟩:=hI;have kk:∀dB,SI cW dB->kindOf dB=κ:=λdB h2=>(h2.1.trans si.1.symm).trans ks
   by_cases c:b.2.2.2.2.1 > 1
   ·rw[if_pos c];refine wM T M zD bn ks si (λr' dB h2 gM=>⟨rfl,?_⟩);cases r' with
    | done b'=>exact⟨h2,rfl,gM⟩
    | yield b'=>obtain⟨c0,gc⟩:=gM;obtain⟨Es,l'⟩:=gc.none c0;exact⟨h2,kk dB h2,c0,Es,l'⟩
   ·rw[if_neg c];refine wM T M zD bn ks si (λr' dB h2 gM=>⟨rfl,?_⟩);cases r' with
    | done b'=>exact⟨h2,rfl,gM⟩
    | yield b'=>obtain⟨c0,gc⟩:=gM;obtain⟨Es,l'⟩:=gc.none c0;exact⟨h2,kk dB h2,c0,Es,l'⟩
  ·obtain⟨si,ks,b0,zD,bn⟩:=hI;exact⟨si,rfl,.inr ⟨b0,zD,bn⟩⟩
  obtain⟨si,rfl,gb⟩:=hI;rcases gb with ⟨v,e2,m⟩ | ⟨e2,Lq,l2⟩
  ·rw[e2];exact Pw (q _ _ si ⟨v,rfl,m⟩)
  ·rw[e2];exact Pr (jy λdB h2=>Pw (q _ _ (si.trans h2) ⟨rfl,Lq,l2⟩))
def Ao (T:Tells prog w A κ s O ky Mem) {x y:Array Keyed} (M:MP O ky Mem x y) {st:SortSt} (hs:kindOf st=κ) {Q:Array Keyed->SortSt->Shared->Prop} (q:∀v ah,SI st ah->rb O ky x.toList y.toList v.toList->Q v ah s):kasC (model prog w) A E (DX x y) Q st s:=by
 rw[A5];unfold B0;have hp:=M.pa;have hq:=M.pb;refine Pr (kasC_lift (wpAny_rule ?_));refine Pr (aP (aE (by omega)) ?_);have m0:=HI.start (O:=O) (ky:=ky) (la:=x.toList) (lb:=y.toList);have lx:x.toList.length=x.size:=by simp
 have ly:y.toList.length=y.size:=by simp
 rw[lx,ly] at m0;have m1:=m0.pJ (k:=x.size - 1) (by omega) M.sa (λe he f hf=>by
  obtain⟨a,a1,a2,a3,rfl⟩:=aU he;obtain⟨b,b1,b2,rfl⟩:=eA hf;have:a=x.size - 1:=by omega
  subst this;exact KeyOrd.kle_of_klt (M.last b b2))
 have e0:(#[kas_item x (x.size - 1)]:Array Keyed).toList.reverse=(x.toList.drop (x.size - 1)).take (x.size - (x.size - 1))++[]:=by rw[show x.size - (x.size - 1)=1 by omega,take_one (by omega)];rfl
 rw[<-e0] at m1;by_cases c:(x.size - 1==0)=true
 ·rw[if_pos c];have c':x.size - 1=0:=by simpa using c
  refine Pw (q _ _ (SI.refl _) ?_);rw[dY];rw[c'] at m1 ⊢;exact m1.sN M.sa M.sb
 ·rw[if_neg c];have c':¬x.size - 1=0:=by simpa using c
  by_cases d:(y.size==1)=true
  ·rw[if_pos d];have d':y.size=1:=by simpa using d
   refine Pw (q _ _ (SI.refl _) ?_);rw[fQ];rw[d'] at m1 ⊢;exact m1.i5 M.sa M.sb (M.fst (by omega))
  ·rw[if_neg d];have d':¬y.size=1:=by simpa using d
   refine Pr (kasC_get ?_);refine Pr (bB (Q:=λr ah s'=>SI st ah/\s=s'/\∃a,r.1=some a/\rb O ky x.toList y.toList a.toList) (kasC_range (cM (λjj r ah=>SI st ah/\r.1=none/\AB O ky x y r.2.2.2.1 r.2.1 r.2.2.1/\r.2.1 + r.2.2.1 + (jj + 1)<=x.size + y.size) ⟨SI.refl _,rfl,⟨m1,(show 1<=x.size - 1 by omega),(show x.size - 1 < x.size by omega),(show 2<=y.size by omega),Pt _⟩,(show x.size - 1 + y.size + (0 + 1)<=x.size + y.size by omega)⟩ (λjj r ah z hj hI=>?_) (λr ah hI=>?_))) (λr ah s' hI=>?_))
   ·obtain⟨si,r0,Az,rn⟩:=hI;refine AG T M Az rn (si.1.trans hs) si (λr' dB h2 gM=>⟨rfl,?_⟩);cases r' with
    | done b=>exact⟨h2,rfl,gM⟩
    | yield b=>exact⟨h2,gM.1,gM.2.1,gM.2.2⟩
   ·obtain⟨si,r0,Az,rn⟩:=hI;rw[List.length_range'] at rn;have h1:=Az.i1;have h2:=Az.j1;omega
   obtain⟨si,rfl,a,e,m⟩:=hI;rw[e];exact Pw (q _ _ si m)
end
def Hb:Nat->StateT SortSt Sem Bool:=sortPriv% PySem.Builtin.mergeAt
def back (M:Array Keyed) (p:Nat) (a:Array Keyed):Array Keyed:=M.toList.zipIdx.foldl (λb (q,j)=>b.setIfInBounds (p + j) q) a
def CL (i:Nat):Hb i=(do
 let t<-get
 let (some (p,n,pw),some (q,m,_)):=((pendingOf t)[i]?,(pendingOf t)[i + 1]?) | unsupported "internal:list.sort.pending"
 set (SortSt.mk' (kindOf t) (arrOf t) (((pendingOf t).setIfInBounds i (p,n + m,pw)).eraseIdxIfInBounds (i + 1)) (gallopOf t) (failedOf t))
 let some k<-BU false (<-elem' (arrOf t) q) (arrOf t) p n 0 | return false
 let (p,n):=(p + k,n - k)
 if n==0 then return true
 let some m<-BU true (<-elem' (arrOf t) (p + n - 1)) (arrOf t) q m (m - 1) | return false
 if m==0 then return true
 let x:=(arrOf t).extract p q
 let y:=(arrOf t).extract q (q + m)
 let M<-if n<=m then Cu x y else DX x y
 modify λt=>SortSt.mk' (kindOf t) (back M p (arrOf t)) (pendingOf t) (gallopOf t) (failedOf t)
 return (failedOf (<-get)).isNone):=by kernel_rfl
def mw:∀(M:List Keyed) (p c:Nat) (a:Array Keyed),p + c + M.length<=a.size->((M.zipIdx c).foldl (λb (q:Keyed×Nat)=>b.setIfInBounds (p + q.2) q.1) a).toList=a.toList.take (p + c)++M++a.toList.drop (p + c + M.length)
 | [],p,c,a,h=>by simp
 | e::M,p,c,a,h=>by
  rw[List.zipIdx_cons,List.foldl_cons];simp only[PM] at h;have ih:=mw M p (c + 1) (a.setIfInBounds (p + c) e) (by rw[Array.size_setIfInBounds];omega);rw[ih];have hs:(a.setIfInBounds (p + c) e).toList=a.toList.take (p + c)++[e]++a.toList.drop (p + c + 1):=by rw[Array.toList_setIfInBounds];rw[List.set_eq_take_append_cons_drop];rw[if_pos (by simp;omega)];simp
  have hl:(a.toList.take (p + c)++[e]).length=p + c + 1:=by simp;omega
  rw[hs];have e1:(a.toList.take (p + c)++[e]++a.toList.drop (p + c + 1)).take (p + (c + 1))=a.toList.take (p + c)++[e]:=by rw[show p + (c + 1)=(a.toList.take (p + c)++[e]).length by omega,List.take_left]
  have e2:(a.toList.take (p + c)++[e]++a.toList.drop (p + c + 1)).drop (p + (c + 1) + M.length)=a.toList.drop (p + c + (e::M).length):=by rw[show p + (c + 1) + M.length=(a.toList.take (p + c)++[e]).length + M.length by omega,List.drop_append,List.drop_of_length_le (Nat.le_add_right _ _),List.nil_append,Nat.add_sub_cancel_left,List.drop_drop];congr 1;simp only[PM];omega
  rw[e1,e2];simp
section
variable {O:KeyOrd} {ky:Keyed->O.α} {Mem:Keyed->Prop}
variable {prog:Program} {w:World} {A:Around} {E:Value->Shared->Prop} {κ:SortKind} {s:Shared}
def zg {t st:SortSt} {Q:PUnit->SortSt->Shared->Prop} (h:Q ⟨⟩ t s):kasC (model prog w) A E (set t:StateT SortSt Sem PUnit) Q st s:=by unfold kasC;rw[StateT.run_set];exact Pl h
def er (n1 n2 pw z:Nat):((#[(0,n1,pw),(n1,n2,z)]:Array (Nat×Nat×Nat)).setIfInBounds 0 (0,n1 + n2,pw)).eraseIdxIfInBounds (0 + 1)=#[(0,n1 + n2,pw)]:=by simp[Array.eraseIdxIfInBounds]
end
def aL (lo n m:Nat):StateT SortSt Sem AscSt:=
 forIn [n:m] ((none,n):AscSt) λ_ r=>do
  let x<-ltAt' (lo + r.2) (lo + r.2 - 1)
  match x with
  | some c=>if c=true then pure (.done (none,r.2)) else pure (.yield (none,r.2 + 1))
  | _=>pure (.done (some none,r.2))
def t3 (lo n m:Nat):StateT SortSt Sem (Option Nat):=do
 reverseSlice' lo (lo + n)
 let r<-aL lo n m
 match r.1 with
 | some v=>pure v
 | none=>pure (some r.2)
def dL (lo n m:Nat):StateT SortSt Sem DescSt:=
 forIn [n:m] ((none,n,0):DescSt) λ_ r=>do
  let x<-ltAt' (lo + r.2.1) (lo + r.2.1 - 1)
  match x with
  | some c=>
   if c=true then
    if r.2.2 > 0 then do
     reverseSlice' (lo + r.2.1 - (r.2.2 + 1)) (lo + r.2.1)
     pure (.yield (none,r.2.1 + 1,0))
    else pure (.yield (none,r.2.1 + 1,0))
   else do
    let y<-ltAt' (lo + r.2.1 - 1) (lo + r.2.1)
    match y with
    | some d=>if d=true then pure (.done (none,r.2.1,r.2.2)) else pure (.yield (none,r.2.1 + 1,r.2.2 + 1))
    | _=>pure (.done (some none,r.2.1,r.2.2))
  | _=>pure (.done (some none,r.2.1,r.2.2))
def dP (lo n m:Nat):StateT SortSt Sem (Option Nat):=do
 rule "list.sort.descending-run"
 let r<-dL lo (n + 1) m
 match r.1 with
 | some v=>pure v
 | none=>
  if r.2.2 > 0 then do
   reverseSlice' (lo + r.2.1 - (r.2.2 + 1)) (lo + r.2.1)
   t3 lo r.2.1 m
  else t3 lo r.2.1 m
def cR (lo m:Nat):StateT SortSt Sem (Option Nat):=do
 let r<-aL lo 1 m
 match r.1 with
 | some v=>pure v
 | none=>
  if (r.2==m)=true then pure (some r.2)
  else if r.2 > 1 then do
   let x<-ltAt' lo (lo + r.2 - 1)
   match x with
   | some c=>if c=true then pure (some r.2) else do
     reverseSlice' lo (lo + r.2)
     dP lo r.2 m
   | _=>pure none
  else dP lo r.2 m
def FZ (lo m:Nat):countRun' lo m=cR lo m:=by kernel_rfl
def pL (lo k:Nat):StateT SortSt Sem (Option Bool×Nat×Nat):=
 forIn [:k] ((none,0,k):Option Bool×Nat×Nat) λ_ r=>
  if r.2.1>=r.2.2 then pure (.done (none,r.2.1,r.2.2)) else do
   let x<-ltAt' (lo + k) (lo + (r.2.1 + r.2.2) / 2)
   match x with
   | some c=>if c=true then pure (.yield (none,r.2.1,(r.2.1 + r.2.2) / 2)) else pure (.yield (none,(r.2.1 + r.2.2) / 2 + 1,r.2.2))
   | _=>pure (.done (some false,r.2.1,r.2.2))
def bS (lo n ok:Nat):StateT SortSt Sem Bool:=do
 let r<-forIn [max ok 1:n] ((none,()):Option Bool×Unit) λk _=>do
  let r<-pL lo k
  match r.1 with
  | some v=>pure (.done (some v,()))
  | none=>do
   moveDown' (lo + k) (lo + r.2.1)
   pure (.yield (none,()))
 match r.1 with
 | some v=>pure v
 | none=>pure true
def F7 (lo n ok:Nat):binarySort' lo n ok=bS lo n ok:=by kernel_rfl
section
variable {O:KeyOrd} {ky:Keyed->O.α} {Mem:Keyed->Prop}
variable {prog:Program} {w:World} {A:Around} {E:Value->Shared->Prop} {κ:SortKind} {s:Shared}
def dm {β:Type} {a b:Nat} {b0:β} {f:Nat->β->StateT SortSt Sem (ForInStep β)} {Q:β->SortSt->Shared->Prop} (Inv:Nat->β->SortSt->Prop) {cW:SortSt} (h0:Inv a b0 cW)
  (step:∀x c st,a<=x->x < b->Inv x c st->kasC (model prog w) A E (f x c) (λr ah s'=>s'=s/\match r with | .done b'=>Q b' ah s | .yield b'=>Inv (x + 1) b' ah) st s)
  (fin:∀c st,Inv (max a b) c st->Q c st s):kasC (model prog w) A E (forIn [a:b] b0 f) Q cW s:=by
 have go:∀(n x:Nat) (c:β) (st:SortSt),x + n=max a b->a<=x->Inv x c st->kasC (model prog w) A E (forIn (List.range' x n) c f) Q st s:=by
  intro n
  induction n with
  | zero=>
   intro x c st hx hax hI;have e:x=max a b:=by omega
   subst e;exact kasC_nil (fin c st hI)
  | succ n ih=>
   intro x c st hx hax hI;rw[List.range'_succ];refine kasC_cons (wpAny_mono (step x c st hax (by omega) hI) (λr s' h'=>?_) λ_ _ e=>e);obtain⟨r,ah⟩:=r;obtain⟨rfl,h'⟩:=h';cases r with
   | done b'=>exact h'
   | yield b'=>exact ih (x + 1) b' ah (by omega) (by omega) h'
 exact kasC_range (go (b - a) a b0 cW (by omega) (Pt _) h0)
structure Bs (κ:SortKind) (P:Array (Nat×Nat×Nat)) (lo:Nat) (b:Array Keyed) (st:SortSt):Prop where
 k:kindOf st=κ
 f:failedOf st=none
 p:pendingOf st=P
 pm:(arrOf st).toList.Perm b.toList
 lw:∀i,i < lo->kas_item (arrOf st) i=kas_item b i
variable {P:Array (Nat×Nat×Nat)} {lo:Nat} {b:Array Keyed}
def Bs.size {st:SortSt} (h:Bs κ P lo b st):(arrOf st).size=b.size:=by have:=h.pm.length_eq;simpa using this
def Bs.mem {st:SortSt} (h:Bs κ P lo b st) (hb:∀x∈b.toList,Mem x) {i:Nat} (hi:i < b.size):Mem (kas_item (arrOf st) i):=by
 have B1:i < (arrOf st).size:=by rw[h.size];exact hi
 refine hb _ (h.pm.mem_iff.mp ?_);have e:kas_item (arrOf st) i=(arrOf st)[i]:=by unfold kas_item;simp[Array.getD,B1]
 rw[e];simp
def hV {p q:Array Keyed} {i j:Nat} (h:p[i]?=q[j]?):kas_item p i=kas_item q j:=by unfold kas_item;rw[Array.getD_eq_getD_getElem?,Array.getD_eq_getD_getElem?,h]
theorem j8 {a:Array Keyed} {i j:Nat} (hj:j<=a.size) (k:Nat):kas_item (mirror a i j ((j - i) / 2)) k=if i<=k/\k < j then kas_item a (i + j - 1 - k) else kas_item a k:=by
 have e:=getElem?_mirror_all (i:=i) hj k;by_cases h1:i<=k/\k < j
 ·rw[if_pos h1] at e ⊢;exact hV e
 ·rw[if_neg h1] at e ⊢;exact hV e
def jU {a:Array Keyed} {src d:Nat} (hs:src < a.size) (hd:d<=src) (k:Nat):
  kas_item (bubble a src d) k=if k=src - d then kas_item a src else if src - d < k/\k<=src then kas_item a (k - 1) else kas_item a k:=by
 have e:=getElem?_bubble hs d hd k;by_cases h1:k=src - d
 ·rw[if_pos h1] at e ⊢;exact hV e
 ·rw[if_neg h1] at e ⊢;by_cases h2:src - d < k/\k<=src
  ·rw[if_pos h2] at e ⊢;exact hV e
  ·rw[if_neg h2] at e ⊢;exact hV e
def Bs.rev {st:SortSt} (h:Bs κ P lo b st) {i j:Nat} (hi:lo<=i) (hj:j<=b.size):Bs κ P lo b (setArr st (mirror (arrOf st) i j ((j - i) / 2))):=
 ⟨h.k,h.f,h.p,(Array.perm_iff_toList_perm.mp (mirror_perm _ _ _ _)).trans h.pm,λk hk=>by
  have:=j8 (a:=arrOf st) (i:=i) (j:=j) (by rw[h.size];exact hj) k;rw[if_neg (by omega)] at this;exact this.trans (h.lw k hk)⟩
def Bs.Nw {st:SortSt} (h:Bs κ P lo b st) {c d:Nat} (hs:c < b.size) (hd:lo + d<=c):Bs κ P lo b (setArr st (bubble (arrOf st) c d)):=
 ⟨h.k,h.f,h.p,(Array.perm_iff_toList_perm.mp (bubble_perm _ _ _)).trans h.pm,λk hk=>by
  have:=jU (a:=arrOf st) (src:=c) (d:=d) (by rw[h.size];exact hs) (by omega) k;rw[if_neg (by omega),if_neg (by omega)] at this;exact this.trans (h.lw k hk)⟩
def gX (T:Tells prog w A κ s O ky Mem) (hb:∀x∈b.toList,Mem x) {st:SortSt} (h:Bs κ P lo b st) {i j:Nat} (hi:i < b.size) (hj:j < b.size) {Q:Option Bool->SortSt->Shared->Prop}
  (q:Q (some (O.blt (ky (kas_item (arrOf st) i)) (ky (kas_item (arrOf st) j)))) st s):kasC (model prog w) A E (ltAt' i j) Q st s:=by
 rw[ltAt'_eq];refine Pr (kasC_get ?_);dsimp only;exact Pr (aP (aE (by rw[h.size];exact hi)) (Pr (aP (aE (by rw[h.size];exact hj)) (oX T (h.mem hb hi) (h.mem hb hj) h.k q))))
def Up (O:KeyOrd) (ky:Keyed->O.α) (lo:Nat) (a:Array Keyed) (n:Nat):Prop:=∀i j,lo<=i->i<=j->j < lo + n->O.kle (ky (kas_item a i)) (ky (kas_item a j))
def Dn (O:KeyOrd) (ky:Keyed->O.α) (lo:Nat) (a:Array Keyed) (n:Nat):Prop:=∀i j,lo<=i->i<=j->j < lo + n->O.kle (ky (kas_item a j)) (ky (kas_item a i))
def JB (O:KeyOrd) (ky:Keyed->O.α) (lo:Nat) (a:Array Keyed) (n q:Nat):Prop:=∀k,lo + n - (q + 1)<=k->k < lo + n->ky (kas_item a k)=ky (kas_item a (lo + n - 1))
def Up.succ {a:Array Keyed} {n:Nat} (h:Up O ky lo a n) (h1:1<=n) (h2:O.kle (ky (kas_item a (lo + n - 1))) (ky (kas_item a (lo + n)))):Up O ky lo a (n + 1):=λi j hi gg hj=>by
 by_cases e:j=lo + n
 ·subst e;by_cases e2:i=lo + n
  ·subst e2;exact KeyOrd.kle_refl _
  ·exact P0 (h i (lo + n - 1) hi (by omega) (by omega)) h2
 ·exact h i j hi gg (by omega)
def Dn.succ {a:Array Keyed} {n:Nat} (h:Dn O ky lo a n) (h1:1<=n) (h2:O.kle (ky (kas_item a (lo + n))) (ky (kas_item a (lo + n - 1)))):Dn O ky lo a (n + 1):=λi j hi gg hj=>by
 by_cases e:j=lo + n
 ·subst e;by_cases e2:i=lo + n
  ·subst e2;exact KeyOrd.kle_refl _
  ·exact P0 h2 (h i (lo + n - 1) hi (by omega) (by omega))
 ·exact h i j hi gg (by omega)
def Dn.of {a c:Array Keyed} {n:Nat} (e:∀k,ky (kas_item c k)=ky (kas_item a k)) (h:Dn O ky lo a n):Dn O ky lo c n:=λi j x y z=>by rw[e,e];exact h i j x y z
def Up.one (a:Array Keyed):Up O ky lo a 1:=λi j x y z=>by rw[show i=j by omega];exact KeyOrd.kle_refl _
def Dn.one (a:Array Keyed):Dn O ky lo a 1:=λi j x y z=>by rw[show i=j by omega];exact KeyOrd.kle_refl _
def vP {a:Array Keyed} {i j:Nat} (hj:j<=a.size) (he:∀k,i<=k->k < j->ky (kas_item a k)=ky (kas_item a (j - 1))) (k:Nat):ky (kas_item (mirror a i j ((j - i) / 2)) k)=ky (kas_item a k):=by grind [j8]
def yi {a:Array Keyed} {n:Nat} (hn:lo + n<=a.size) (h:Dn O ky lo a n):Up O ky lo (mirror a lo (lo + n) ((lo + n - lo) / 2)) n:=by grind [j8,Dn,Up]
def BN (T:Tells prog w A κ s O ky Mem) (hb:∀x∈b.toList,Mem x) {st:SortSt} (h:Bs κ P lo b st) {n m:Nat} (hz:lo + m<=b.size) (h1:1<=n) (hn:n<=m) (hu:Up O ky lo (arrOf st) n) {Q:AscSt->SortSt->Shared->Prop}
  (q:∀k,n<=k->k<=m->Up O ky lo (arrOf st) k->(k < m->O.blt (ky (kas_item (arrOf st) (lo + k))) (ky (kas_item (arrOf st) (lo + k - 1)))=true)->Q (none,k) st s):kasC (model prog w) A E (aL lo n m) Q st s:=by
 unfold aL;refine dm (λx r ah=>st=ah/\r=(none,x)/\Up O ky lo (arrOf st) x) ⟨rfl,rfl,hu⟩ (λx r ah hx1 Aa hI=>?_) (λr ah hI=>?_)
 ·obtain⟨rfl,rfl,hu⟩:=hI;dsimp only;refine Pr (gX T hb h (by omega) (by omega) ?_);dsimp only;cases c:O.blt (ky (kas_item (arrOf st) (lo + x))) (ky (kas_item (arrOf st) (lo + x - 1))) with
  | true=>rw[if_pos rfl];exact Pw ⟨rfl,q x hx1 (by omega) hu λ_=>c⟩
  | false=>rw[if_neg (by simp)];exact Pw ⟨rfl,rfl,rfl,hu.succ (by omega) c⟩
 ·obtain⟨rfl,rfl,hu⟩:=hI;rw[show max n m=m by omega] at hu ⊢;exact q m hn (Pt _) hu λz=>absurd z (by omega)
def nV {i j:Nat} {st:SortSt} {Q:Unit->SortSt->Shared->Prop} (q:Q () (setArr st (mirror (arrOf st) i j ((j - i) / 2))) s):kasC (model prog w) A E (reverseSlice' i j) Q st s:=by rw[reverseSlice'_eq];exact kasC_modify q
def GA (T:Tells prog w A κ s O ky Mem) (hb:∀x∈b.toList,Mem x) {st:SortSt} (h:Bs κ P lo b st) {n m:Nat} (hz:lo + m<=b.size) (h1:1<=n) (hn:n<=m) (hd:Dn O ky lo (arrOf st) n) {Q:DescSt->SortSt->Shared->Prop}
  (q:∀ah k e,Bs κ P lo b ah->n<=k->k<=m->e + 1<=k->Dn O ky lo (arrOf ah) k->JB O ky lo (arrOf ah) k e->Q (none,k,e) ah s):kasC (model prog w) A E (dL lo n m) Q st s:=by
 unfold dL;have one:∀(a:Array Keyed) (k:Nat),1<=k->JB O ky lo a k 0:=λa k hk j x y=>by rw[show j=lo + k - 1 by omega]
 refine dm (λx r ah=>∃e,r=(none,x,e)/\Bs κ P lo b ah/\e + 1<=x/\Dn O ky lo (arrOf ah) x/\JB O ky lo (arrOf ah) x e) ⟨0,rfl,h,by omega,hd,one _ _ h1⟩ (λx r ah hx1 Aa hI=>?_) (λr ah hI=>?_)
 ·obtain⟨e,rfl,h,he,hd,hq⟩:=hI;have ib:=h.size;dsimp only;refine Pr (gX T hb h (by omega) (by omega) ?_);dsimp only;cases c:O.blt (ky (kas_item (arrOf ah) (lo + x))) (ky (kas_item (arrOf ah) (lo + x - 1))) with
  | true=>
   rw[if_pos rfl];have rO:=hd.succ (by omega) (KeyOrd.kle_of_klt c);by_cases d:e > 0
   ·rw[if_pos d];refine Pr (nV (Pw ⟨rfl,0,rfl,h.rev (by omega) (by omega),by omega,?_,one _ _ (by omega)⟩));exact Dn.of (vP (by omega) hq) rO
   ·rw[if_neg d];exact Pw ⟨rfl,0,rfl,h,by omega,rO,one _ _ (by omega)⟩
  | false=>
   rw[if_neg (by simp)];refine Pr (gX T hb h (by omega) (by omega) ?_);dsimp only;cases d:O.blt (ky (kas_item (arrOf ah) (lo + x - 1))) (ky (kas_item (arrOf ah) (lo + x))) with
   | true=>rw[if_pos rfl];exact Pw ⟨rfl,q ah x e h hx1 (by omega) he hd hq⟩
   | false=>
    rw[if_neg (by simp)];have heq:ky (kas_item (arrOf ah) (lo + x))=ky (kas_item (arrOf ah) (lo + x - 1)):=O.total _ _ c d;refine Pw ⟨rfl,e + 1,rfl,h,by omega,hd.succ (by omega) (by rw[heq];exact KeyOrd.kle_refl _),λk k1 k2=>?_⟩;rw[show lo + (x + 1) - 1=lo + x by omega];by_cases z:k=lo + x
    ·rw[z]
    ·rw[hq k (by omega) (by omega),heq]
 ·obtain⟨e,rfl,h,he,hd,hq⟩:=hI;rw[show max n m=m by omega] at hd hq he ⊢;exact q ah m e h hn (Pt _) he hd hq
def BC (T:Tells prog w A κ s O ky Mem) (hb:∀x∈b.toList,Mem x) {st:SortSt} (h:Bs κ P lo b st) {n m:Nat} (hz:lo + m<=b.size) (h1:1<=n) (hn:n<=m) (hd:Dn O ky lo (arrOf st) n) {Q:Option Nat->SortSt->Shared->Prop}
  (q:∀ah k,Bs κ P lo b ah->1<=k->k<=m->Up O ky lo (arrOf ah) k->Q (some k) ah s):kasC (model prog w) A E (t3 lo n m) Q st s:=by
 unfold t3;have ib:=h.size;refine Pr (nV (Pr (BN T hb (h.rev (Pt _) (by omega)) hz h1 hn (yi (by omega) hd) λk k1 k2 ku _=>?_)));exact Pw (q _ k (h.rev (Pt _) (by omega)) (by omega) k2 ku)
def BE (T:Tells prog w A κ s O ky Mem) (hb:∀x∈b.toList,Mem x) {st:SortSt} (h:Bs κ P lo b st) {n m:Nat} (hz:lo + m<=b.size) (h1:1<=n) (hn:n + 1<=m) (hd:Dn O ky lo (arrOf st) (n + 1)) {Q:Option Nat->SortSt->Shared->Prop}
  (q:∀ah k,Bs κ P lo b ah->1<=k->k<=m->Up O ky lo (arrOf ah) k->Q (some k) ah s):kasC (model prog w) A E (dP lo n m) Q st s:=by
 unfold dP;refine Pr (kasC_lift (wpAny_rule ?_));refine Pr (GA T hb h hz (by omega) hn hd λah k e h' k1 k2 ke kd kq=>?_);dsimp only;have ib:=h'.size;by_cases d:e > 0
 ·rw[if_pos d];exact Pr (nV (BC T hb (h'.rev (by omega) (by omega)) hz (by omega) k2 (Dn.of (vP (by omega) kq) kd) q))
 ·rw[if_neg d];exact BC T hb h' hz (by omega) k2 kd q
def FA (T:Tells prog w A κ s O ky Mem) (hb:∀x∈b.toList,Mem x) {st:SortSt} (h:Bs κ P lo b st) {m:Nat} (hz:lo + m<=b.size) (h1:1<=m) {Q:Option Nat->SortSt->Shared->Prop}
  (q:∀ah k,Bs κ P lo b ah->1<=k->k<=m->Up O ky lo (arrOf ah) k->Q (some k) ah s):kasC (model prog w) A E (countRun' lo m) Q st s:=by
 rw[FZ];unfold cR;have ib:=h.size;refine Pr (BN T hb h hz (Pt _) h1 (Up.one _) λn n1 n2 nu nl=>?_);dsimp only;by_cases e:(n==m)=true
 ·rw[if_pos e];exact Pw (q _ n h n1 n2 nu)
 ·rw[if_neg e];have e':n≠m:=by simpa using e
  have cz:=nl (by omega);by_cases hn:n > 1
  ·rw[if_pos hn];refine Pr (gX T hb h (by omega) (by omega) ?_);dsimp only;cases c:O.blt (ky (kas_item (arrOf st) lo)) (ky (kas_item (arrOf st) (lo + n - 1))) with
   | true=>rw[if_pos rfl];exact Pw (q _ n h n1 n2 nu)
   | false=>
    rw[if_neg (by simp)];have all:∀k,lo<=k->k < lo + n->ky (kas_item (arrOf st) k)=ky (kas_item (arrOf st) (lo + n - 1)):=λk k1 k2=>by refine KeyOrd.kle_antisymm (nu k (lo + n - 1) k1 (by omega) (by omega)) (P0 (show O.kle (ky (kas_item (arrOf st) (lo + n - 1))) (ky (kas_item (arrOf st) lo)) from c) (nu lo k (Pt _) k1 k2))
    refine Pr (nV (BE T hb (h.rev (Pt _) (by omega)) hz n1 (by omega) (Dn.of (vP (by omega) all) (Dn.succ (λi j hi gg hj=>?_) n1 (KeyOrd.kle_of_klt cz))) q));rw[all i hi (by omega),all j (by omega) hj];exact KeyOrd.kle_refl _
  ·rw[if_neg hn];have e1:n=1:=by omega
   subst e1;exact BE T hb h hz n1 (by omega) (Dn.succ (Dn.one _) n1 (KeyOrd.kle_of_klt cz)) q
def GC (T:Tells prog w A κ s O ky Mem) (hb:∀x∈b.toList,Mem x) {st:SortSt} (h:Bs κ P lo b st) {k:Nat} (hz:lo + k < b.size) (hu:Up O ky lo (arrOf st) k) {Q:Option Bool×Nat×Nat->SortSt->Shared->Prop}
  (q:∀l r,l<=k->(∀i,lo<=i->i < lo + l->O.kle (ky (kas_item (arrOf st) i)) (ky (kas_item (arrOf st) (lo + k))))->(∀i,lo + l<=i->i < lo + k->O.klt (ky (kas_item (arrOf st) (lo + k))) (ky (kas_item (arrOf st) i)))->Q (none,l,r) st s):kasC (model prog w) A E (pL lo k) Q st s:=by
 unfold pL;refine dm (λx c ah=>st=ah/\∃l r,c=(none,l,r)/\l<=r/\r<=k/\r - l<=k - x/\(∀i,lo<=i->i < lo + l->O.kle (ky (kas_item (arrOf st) i)) (ky (kas_item (arrOf st) (lo + k))))/\(∀i,lo + r<=i->i < lo + k->O.klt (ky (kas_item (arrOf st) (lo + k))) (ky (kas_item (arrOf st) i))))
  ⟨rfl,0,k,rfl,by omega,by omega,by omega,λi a c=>absurd a (by omega),λi a c=>absurd a (by omega)⟩ (λx r ah hx1 Aa hI=>?_) (λr ah hI=>?_)
 ·obtain⟨rfl,l,r,rfl,lr,rk,rl,n0,zj⟩:=hI;dsimp only;by_cases c:l>=r
  ·rw[if_pos c];have e:l=r:=by omega
   subst e;exact Pw ⟨rfl,q l l rk n0 zj⟩
  ·rw[if_neg c];refine Pr (gX T hb h (by omega) (by omega) ?_);dsimp only;cases d:O.blt (ky (kas_item (arrOf st) (lo + k))) (ky (kas_item (arrOf st) (lo + (l + r) / 2))) with
   | true=>rw[if_pos rfl];exact Pw ⟨rfl,rfl,l,(l + r) / 2,rfl,by omega,by omega,by omega,n0,λi i1 i2=>KeyOrd.klt_of_klt_of_kle d (hu _ _ (by omega) i1 i2)⟩
   | false=>rw[if_neg (by simp)];exact Pw ⟨rfl,rfl,(l + r) / 2 + 1,r,rfl,by omega,by omega,by omega,λi i1 i2=>P0 (hu i (lo + (l + r) / 2) i1 (by omega) (by omega)) d,zj⟩
 ·obtain⟨rfl,l,r,rfl,lr,rk,rl,n0,zj⟩:=hI;have e:l=r:=by omega
  subst e;exact q l l rk n0 zj
def Hv (T:Tells prog w A κ s O ky Mem) (hb:∀x∈b.toList,Mem x) {st:SortSt} (h:Bs κ P lo b st) {n k:Nat} (hz:lo + n<=b.size) (h1:1<=k) (hk:k<=n) (hu:Up O ky lo (arrOf st) k) {Q:Bool->SortSt->Shared->Prop}
  (q:∀ah,Bs κ P lo b ah->Up O ky lo (arrOf ah) n->Q true ah s):kasC (model prog w) A E (binarySort' lo n k) Q st s:=by
 rw[F7];unfold bS;refine Pr (dm (λx c ah=>c=(none,())/\Bs κ P lo b ah/\Up O ky lo (arrOf ah) x) ⟨rfl,h,by rw[show max k 1=k by omega];exact hu⟩ (λx r ah hx1 Aa hI=>?_) (λr ah hI=>?_))
 ·obtain⟨rfl,h,hu⟩:=hI;have ib:=h.size;refine Pr (GC T hb h (by omega) hu λl r hl n0 zj=>?_);dsimp only;rw[moveDown'_eq];refine Pr (kasC_modify (Pw ⟨rfl,rfl,h.Nw (by omega) (by omega),λi j hi gg hj=>?_⟩));show O.kle (ky (kas_item (bubble (arrOf ah) (lo + x) (lo + x - (lo + l))) i)) (ky (kas_item (bubble (arrOf ah) (lo + x) (lo + x - (lo + l))) j));rw[jU (by omega) (by omega),jU (by omega) (by omega),show lo + x - (lo + x - (lo + l))=lo + l by omega]
  repeat' split
  all_goals first
   | (exfalso;omega)
   | exact KeyOrd.kle_refl _
   | exact n0 _ (by omega) (by omega)
   | exact KeyOrd.kle_of_klt (zj _ (by omega) (by omega))
   | exact hu _ _ (by omega) (by omega) (by omega)
 ·obtain⟨rfl,h,hu⟩:=hI;rw[show max (max k 1) n=n by omega] at hu;exact Pw (q _ h hu)
end
def JD (size pw:Nat):StateT SortSt Sem (Option Unit×Unit):=
 forIn [:size] ((none,()):Option Unit×Unit) λ_ _=>do
  let st<-get
  match (if (pendingOf st).size > 1 then(pendingOf st)[(pendingOf st).size - 2]? else none) with
  | some (_,_,older)=>
   if older<=pw then pure (.done (none,())) else do
    let ok<-Hb ((pendingOf st).size - 2)
    if (!ok)=true then pure (.done (some (),())) else pure (.yield (none,()))
  | _=>pure (.done (none,()))
def Jl (size lo n:Nat):StateT SortSt Sem (ForInStep (Option Unit×Nat)):=do
 let st<-get
 match (pendingOf st).back? with
 | some (s1,n1,_)=>do
  let r<-JD size (power' size (2 * s1 + n1) (2 * s1 + n1 + n1 + n) size)
  match r.1 with
  | some v=>pure (.done (some v,lo))
  | none=>do
   modify λs=>setPending s ((pendingOf s).modify ((pendingOf s).size - 1) λ(st,len,_)=>(st,len,power' size (2 * s1 + n1) (2 * s1 + n1 + n1 + n) size))
   modify λs=>setPending s ((pendingOf s).push (lo,n,0))
   pure (.yield (none,lo + n))
 | _=>do
  modify λs=>setPending s ((pendingOf s).push (lo,n,0))
  pure (.yield (none,lo + n))
def Ib (size mr lo:Nat):StateT SortSt Sem (ForInStep (Option Unit×Nat)):=
 if lo>=size then pure (.done (none,lo)) else do
  let f<-countRun' lo (size - lo)
  match f with
  | some n=>
   if n < mr then do
    rule "list.sort.binary-insertion"
    let ok<-binarySort' lo (min (size - lo) mr) n
    if (!ok)=true then pure (.done (some (),lo)) else Jl size lo (min (size - lo) mr)
   else Jl size lo n
  | _=>pure (.done (some (),lo))
def ix (p:Array (Nat×Nat×Nat)):Nat:=if (if p.size - 2 > 0 then p[p.size - 2 - 1]?.map (·.2.1) else none).any (· < (p[p.size - 2 + 1]?.elim 0 (·.2.1))) then p.size - 2 - 1 else p.size - 2
def Jh (size:Nat):StateT SortSt Sem (Option Unit×Unit):=
 forIn [:size] ((none,()):Option Unit×Unit) λ_ _=>do
  let st<-get
  if (pendingOf st).size<=1 then pure (.done (none,())) else do
   let ok<-Hb (ix (pendingOf st))
   if (!ok)=true then pure (.done (some (),())) else pure (.yield (none,()))
def sR:StateT SortSt Sem Unit:=do
 let st<-get
 let r<-forIn [:(arrOf st).size] ((none,0):Option Unit×Nat) λ_ r=>Ib (arrOf st).size (minRun' (arrOf st).size (arrOf st).size 0) r.2
 match r.1 with
 | some v=>pure v
 | none=>do
  let r<-Jh (arrOf st).size
  match r.1 with
  | some v=>pure v
  | none=>pure ()
def Gk:sortRuns'=sR:=by kernel_rfl
section
variable {O:KeyOrd} {ky:Keyed->O.α} {Mem:Keyed->Prop}
variable {prog:Program} {w:World} {A:Around} {E:Value->Shared->Prop} {κ:SortKind} {s:Shared} {a:Array Keyed}
def Up.i0 {b:Array Keyed} {n:Nat} (hn:b.size=n) (h:Up O ky 0 b n):g6 O ky b.toList:=by
 refine List.pairwise_iff_getElem.mpr λi j hi hj gg=>?_
 have e:∀k,(h:k < b.size)->kas_item b k=b.toList[k]'(by simpa using h):=λk h=>by unfold kas_item;simp[Array.getD,h]
 have zt:j < b.size:=by simpa using hj
 rw[<-e i (by omega),<-e j zt];exact h i j (by omega) (by omega) (by omega)
end
section
variable {O:KeyOrd} {ky:Keyed->O.α} {Mem:Keyed->Prop}
variable {prog:Program} {w:World} {A:Around} {E:Value->Shared->Prop} {κ:SortKind} {s:Shared}
def item_list (b:Array Keyed) (t:Nat):kas_item b t=b.toList.getD t (Value.none,Value.none):=by unfold kas_item;simp[Array.getD,List.getD];split <;> simp_all
def D6 {l:List Keyed} (h:g6 O ky l) {i j:Nat} (gg:i<=j) (hj:j < l.length):le O ky (l.getD i (Value.none,Value.none)) (l.getD j (Value.none,Value.none)):=by
 rcases Nat.lt_or_ge i j with c | c
 ·have:=List.pairwise_iff_getElem.mp h i j (by omega) hj c;rw[List.getD_eq_getElem?_getD,List.getD_eq_getElem?_getD,PX hj,PX (by omega)];exact this
 ·have e:i=j:=by omega
  subst e;exact KeyOrd.kle_refl _
def yI {l m:List Keyed} {d:Keyed} {i:Nat} (h:i < l.length):(l++m).getD i d=l.getD i d:=by grind
def vS {l m:List Keyed} {d:Keyed} {i:Nat} (h:l.length<=i):(l++m).getD i d=m.getD (i - l.length) d:=by grind
def LV (T:Tells prog w A κ s O ky Mem) {a:Array Keyed} {P:Array (Nat×Nat×Nat)} {i p n1 n2 pw z g:Nat} (ND:P[i]?=some (p,n1,pw)) (Fk:P[i + 1]?=some (p + n1,n2,z)) (ib:p + n1 + n2<=a.size) (h1:1<=n1) (h2:1<=n2) (hm:∀i,i < a.size->Mem (kas_item a i))
  (sA:∀i j,p<=i->i<=j->j < p + n1->le O ky (kas_item a i) (kas_item a j)) (sB:∀i j,p + n1<=i->i<=j->j < p + n1 + n2->le O ky (kas_item a i) (kas_item a j))
  {Q:Bool->SortSt->Shared->Prop} (q:∀ah:SortSt,kindOf ah=κ->pendingOf ah=(P.setIfInBounds i (p,n1 + n2,pw)).eraseIdxIfInBounds (i + 1)->failedOf ah=none->(arrOf ah).toList.Perm a.toList->Up O ky p (arrOf ah) (n1 + n2)->
   (∀t,t < p\/p + n1 + n2<=t->kas_item (arrOf ah) t=kas_item a t)->Q true ah s):
  kasC (model prog w) A E (Hb i) Q (SortSt.mk' κ a P g none) s:=by
 rw[CL];refine Pr (kasC_get ?_);dsimp only;have e0:(pendingOf (SortSt.mk' κ a P g none))[i]?=some (p,n1,pw):=ND;have e1:(pendingOf (SortSt.mk' κ a P g none))[i + 1]?=some (p + n1,n2,z):=Fk;rw[e0,e1];dsimp only;refine Pr (zg ?_);refine Pr (aP (aE (x:=a) (show p + n1 < a.size by omega)) (Pr ?_));refine iL T (λt=>kas_item a (p + t)) (λt ht=>aE (x:=a) (by omega)) (λt ht=>hm _ (by omega)) (hm (p + n1) (by omega)) (by omega) (λi j gg hj hb=>?_) rfl (λk hk1 cz iK=>?_)
 ·unfold dE at hb ⊢;rw[if_neg (by simp)] at hb ⊢;have:=sA (p + i) (p + j) (by omega) (by omega) (by omega);cases zz:O.blt (ky (kas_item a (p + n1))) (ky (kas_item a (p + i))) with
  | false=>rfl
  | true=>have z2:O.blt (ky (kas_item a (p + n1))) (ky (kas_item a (p + j)))=true:=KeyOrd.klt_of_klt_of_kle zz this;have lX:(!O.blt (ky (kas_item a (p + n1))) (ky (kas_item a (p + j))))=true:=hb;rw[z2] at lX;cases lX
 have lo:∀t,p<=t->t < p + k->le O ky (kas_item a t) (kas_item a (p + n1)):=λt h0 ht=>by have zz:=cz (t - p) (by omega);unfold dE at zz;rw[if_neg (by simp)] at zz;have z2:(!O.blt (ky (kas_item a (p + n1))) (ky (kas_item a (p + (t - p)))))=true:=zz;rw[show p + (t - p)=t by omega] at z2;show O.blt (ky (kas_item a (p + n1))) (ky (kas_item a t))=false;simpa using z2
 have up:∀t,p + k<=t->t < p + n1->O.blt (ky (kas_item a (p + n1))) (ky (kas_item a t))=true:=λt h1 h2=>by have zz:=iK (t - p) (by omega) (by omega);unfold dE at zz;rw[if_neg (by simp)] at zz;have z2:(!O.blt (ky (kas_item a (p + n1))) (ky (kas_item a (p + (t - p)))))=false:=zz;rw[show p + (t - p)=t by omega] at z2;simpa using z2
 have zi:∀b:Array Keyed,(∀i j,i < j->j < b.size->le O ky (kas_item b i) (kas_item b j))->g6 O ky b.toList:=λb hb=>by
  refine List.pairwise_iff_getElem.mpr λi j hi hj gg=>?_
  have e:∀k,(h:k < b.size)->kas_item b k=b.toList[k]'(by simpa using h):=λk h=>by unfold kas_item;simp[Array.getD,h]
  rw[<-e i (by simpa using hi),<-e j (by simpa using hj)];exact hb i j gg (by simpa using hj)
 dsimp only;by_cases c:(n1 - k==0)=true
 ·rw[if_pos c];have c':n1 - k=0:=by simpa using c
  refine Pw (q _ rfl rfl rfl (List.Perm.refl _) (λi j hi gg hj=>?_) λt _=>rfl);by_cases ci:j < p + n1
  ·exact sA i j hi gg ci
  ·by_cases cj:i < p + n1
   ·exact P0 (lo i hi (by omega)) (sB (p + n1) j (Pt _) (by omega) (by omega))
   ·exact sB i j (by omega) (by omega) (by omega)
 ·rw[if_neg c];have c':¬n1 - k=0:=by simpa using c
  refine Pr (aP (aE (x:=a) (show p + k + (n1 - k) - 1 < a.size by omega)) (Pr ?_));have el:p + k + (n1 - k) - 1=p + n1 - 1:=by omega
  refine iL T (λt=>kas_item a (p + n1 + t)) (λt ht=>aE (x:=a) (by omega)) (λt ht=>hm _ (by omega)) (hm _ (by omega)) (by omega) (λi j gg hj hb=>?_) rfl (λm Kg hmlt hmge=>?_)
  ·unfold dE at hb ⊢;rw[if_pos rfl] at hb ⊢;exact KeyOrd.klt_of_kle_of_klt (sB (p + n1 + i) (p + n1 + j) (by omega) (by omega) (by omega)) hb
  have NY:∀t,p + n1<=t->t < p + n1 + m->O.blt (ky (kas_item a t)) (ky (kas_item a (p + n1 - 1)))=true:=λt h1 h2=>by have zz:=hmlt (t - (p + n1)) (by omega);unfold dE at zz;rw[if_pos rfl,el] at zz;have z2:O.blt (ky (kas_item a (p + n1 + (t - (p + n1))))) (ky (kas_item a (p + n1 - 1)))=true:=zz;rw[show p + n1 + (t - (p + n1))=t by omega] at z2;exact z2
  have L8:∀t,p + n1 + m<=t->t < p + n1 + n2->le O ky (kas_item a (p + n1 - 1)) (kas_item a t):=λt h1 h2=>by have zz:=hmge (t - (p + n1)) (by omega) (by omega);unfold dE at zz;rw[if_pos rfl,el] at zz;have z2:O.blt (ky (kas_item a (p + n1 + (t - (p + n1))))) (ky (kas_item a (p + n1 - 1)))=false:=zz;rw[show p + n1 + (t - (p + n1))=t by omega] at z2;exact z2
  have m0:m≠0:=λe=>by have z1:=L8 (p + n1) (by omega) (by omega);have z2:=up (p + n1 - 1) (by omega) (by omega);exact KeyOrd.not_klt_of_kle z1 z2
  dsimp only;rw[if_neg (by simpa using m0)];have gx:∀t,t < n1 - k->kas_item (a.extract (p + k) (p + n1)) t=kas_item a (p + k + t):=λt ht=>by unfold kas_item;simp[Array.getD,show t < p + n1 - (p + k) by omega,show p + k + t < a.size by omega,show min (p + n1) a.size=p + n1 by omega]
  have gy:∀t,t < m->kas_item (a.extract (p + n1) (p + n1 + m)) t=kas_item a (p + n1 + t):=λt ht=>by unfold kas_item;simp[Array.getD,show p + n1 + t < a.size by omega,show min (p + n1 + m) a.size=p + n1 + m by omega,ht]
  have sx:(a.extract (p + k) (p + n1)).size=n1 - k:=by simp;omega
  have sy:(a.extract (p + n1) (p + n1 + m)).size=m:=by simp;omega
  have MM:MP O ky Mem (a.extract (p + k) (p + n1)) (a.extract (p + n1) (p + n1 + m)):=by
   refine⟨zi _ λi j gg hj=>?_,zi _ λi j gg hj=>?_,λi hi=>?_,λi hi=>?_,by omega,by omega,?_,λj hj=>?_⟩
   ·rw[gx i (by omega),gx j (by omega)];exact sA _ _ (by omega) (by omega) (by omega)
   ·rw[gy i (by omega),gy j (by omega)];exact sB _ _ (by omega) (by omega) (by omega)
   ·rw[gx i (by omega)];exact hm _ (by omega)
   ·rw[gy i (by omega)];exact hm _ (by omega)
   ·rw[gx 0 (by omega),gy 0 (by omega)];exact up (p + k) (Pt _) (by omega)
   ·rw[sx,gx (n1 - k - 1) (by omega),gy j (by omega),show p + k + (n1 - k - 1)=p + n1 - 1 by omega];exact NY _ (by omega) (by omega)
  have lx:(a.extract (p + k) (p + n1)).toList=(a.toList.drop (p + k)).take (n1 - k):=by have:=Ay a (k:=p + k) (i:=p + n1);rw[show p + n1 - (p + k)=n1 - k by omega] at this;exact this
  have ly:(a.extract (p + n1) (p + n1 + m)).toList=(a.toList.drop (p + n1)).take m:=kI a (p + n1) m;have fin:∀(v:Array Keyed) (ah:SortSt),kindOf ah=κ->arrOf ah=a->pendingOf ah=(P.setIfInBounds i (p,n1 + n2,pw)).eraseIdxIfInBounds (i + 1)->failedOf ah=none->rb O ky (a.extract (p + k) (p + n1)).toList (a.extract (p + n1) (p + n1 + m)).toList v.toList->
    kasC (model prog w) A E (do
     modify λt=>SortSt.mk' (kindOf t) (back v (p + k) (arrOf t)) (pendingOf t) (gallopOf t) (failedOf t)
     let t<-get
     pure (failedOf t).isNone) Q ah s:=λv ah k1 k2 k3 k4 hv=>by
   refine Pr (kasC_modify (Pr (kasC_get (Pw ?_))));obtain⟨vp,vs⟩:=hv;have vl:v.toList.length=n1 - k + m:=by rw[vp.length_eq,PJ];simp only[PP];omega
   have bl:(back v (p + k) a).toList=a.toList.take (p + k)++v.toList++a.toList.drop (p + n1 + m):=by
    have:=mw v.toList (p + k) 0 a (by omega);unfold back;refine Eq.trans ?_ (this.trans ?_)
    ·rfl
    ·rw[Nat.add_zero,vl,show p + k + (n1 - k + m)=p + n1 + m by omega]
   have al:a.toList.length=a.size:=PP;have Of:a.toList=a.toList.take (p + k)++((a.toList.drop (p + k)).take (n1 - k)++(a.toList.drop (p + n1)).take m)++a.toList.drop (p + n1 + m):=by have b1:=jO (l:=a.toList) (i:=p + n1) (k:=p + k) (by omega);rw[show p + n1 - (p + k)=n1 - k by omega] at b1;rw[PF,PF,<-cL (l:=a.toList) (i:=p + n1) (k:=m),<-b1,List.take_append_drop]
   have pm:(back v (p + k) a).toList.Perm a.toList:=by
    rw[bl]
    conv=>rhs;rw[Of]
    rw[lx,ly] at vp;exact((List.Perm.refl _).append vp).append (List.Perm.refl _)
   have J4:∀e∈v.toList,(∃t,p + k<=t/\t < p + n1/\e=kas_item a t)\/(∃t,p + n1<=t/\t < p + n1 + m/\e=kas_item a t):=λe he=>by
    rw[lx,ly] at vp;rcases PU.mp (vp.mem_iff.mp he) with he | he
    ·obtain⟨t,t1,t2,t3,rfl⟩:=aU he;exact .inl ⟨t,t1,by omega,rfl⟩
    ·obtain⟨t,t1,t2,t3,rfl⟩:=aU he;exact .inr ⟨t,t1,by omega,rfl⟩
   have EU:∀t,t < p + k->kas_item (back v (p + k) a) t=kas_item a t:=λt ht=>by rw[item_list,item_list,bl,PF,yI (by rw[List.length_take];omega)];rw[List.getD_eq_getElem?_getD,List.getD_eq_getElem?_getD,List.getElem?_take_of_lt ht]
   have at2:∀t,p + k<=t->t < p + n1 + m->kas_item (back v (p + k) a) t=v.toList.getD (t - (p + k)) (Value.none,Value.none):=λt h1 h2=>by
    have hl:(a.toList.take (p + k)).length=p + k:=by rw[List.length_take];omega
    rw[item_list,bl,PF,vS (by omega),hl,yI (by omega)]
   have Lk:∀t,p + n1 + m<=t->kas_item (back v (p + k) a) t=kas_item a t:=λt h1=>by
    have hl:(a.toList.take (p + k)++v.toList).length=p + n1 + m:=by rw[PJ,List.length_take];omega
    rw[item_list,item_list,bl,vS (by omega),hl];rw[List.getD_eq_getElem?_getD,List.getD_eq_getElem?_getD,List.getElem?_drop];congr 2;omega
   have vc:∀t,p + k<=t->t < p + n1 + m->(∃u,p + k<=u/\u < p + n1/\kas_item (back v (p + k) a) t=kas_item a u)\/(∃u,p + n1<=u/\u < p + n1 + m/\kas_item (back v (p + k) a) t=kas_item a u):=λt h1 h2=>by rw[at2 t h1 h2];refine J4 _ ?_;rw[List.getD_eq_getElem?_getD,PX (by omega)];exact List.getElem_mem _
   have ss:Up O ky p (back v (p + k) a) (n1 + n2):=λi j hi gg hj=>by
    show le O ky (kas_item (back v (p + k) a) i) (kas_item (back v (p + k) a) j);by_cases c1:j < p + k
    ·rw[EU i (by omega),EU j c1];exact sA i j hi gg (by omega)
    by_cases c2:j < p + n1 + m
    ·by_cases c3:i < p + k
     ·rw[EU i c3];rcases vc j (by omega) c2 with ⟨u,u1,u2,e⟩ | ⟨u,u1,u2,e⟩
      ·rw[e];exact sA i u hi (by omega) u2
      ·rw[e];exact P0 (lo i hi c3) (sB (p + n1) u (Pt _) u1 (by omega))
     ·rw[at2 i (by omega) (by omega),at2 j (by omega) c2];exact D6 vs (by omega) (by omega)
    ·rw[Lk j (by omega)];by_cases c3:i < p + k
     ·rw[EU i c3];exact P0 (lo i hi c3) (sB (p + n1) j (Pt _) (by omega) (by omega))
     by_cases c4:i < p + n1 + m
     ·rcases vc i (by omega) c4 with ⟨u,u1,u2,e⟩ | ⟨u,u1,u2,e⟩
      ·rw[e];exact P0 (sA u (p + n1 - 1) (by omega) (by omega) (by omega)) (L8 j (by omega) (by omega))
      ·rw[e];exact sB u j u1 (by omega) (by omega)
     ·rw[Lk i (by omega)];exact sB i j (by omega) gg (by omega)
   have qq:=q (SortSt.mk' (kindOf ah) (back v (p + k) (arrOf ah)) (pendingOf ah) (gallopOf ah) (failedOf ah)) k1 k3 k4 (by rw[k2];exact pm) (by rw[k2];exact ss) (λt ht=>by
    show kas_item (back v (p + k) (arrOf ah)) t=_;rw[k2];rcases ht with ht | ht
    ·exact EU t (by omega)
    ·exact Lk t (by omega))
   have e:(failedOf ah).isNone=true:=by rw[k4];rfl
   show Q (failedOf ah).isNone _ s;rw[e];exact qq
  by_cases d:n1 - k<=m
  ·rw[if_pos d];refine Pr (AL T MM rfl λv ah si hv=>?_);exact fin v ah si.1 si.2.1 si.2.2.1 si.2.2.2 hv
  ·rw[if_neg d];refine Pr (Ao T MM rfl λv ah si hv=>?_);exact fin v ah si.1 si.2.1 si.2.2.1 si.2.2.2 hv
end
section
variable {O:KeyOrd} {ky:Keyed->O.α} {Mem:Keyed->Prop}
variable {prog:Program} {w:World} {A:Around} {E:Value->Shared->Prop} {κ:SortKind} {s:Shared} {a:Array Keyed}
def Rn (O:KeyOrd) (ky:Keyed->O.α) (b:Array Keyed):List (Nat×Nat×Nat)->Nat->Nat->Prop
 | [],lo,hi=>lo=hi
 | x::r,lo,hi=>x.1=lo/\1<=x.2.1/\Up O ky lo b x.2.1/\Rn O ky b r (lo + x.2.1) hi
def Rn.le {b:Array Keyed}:∀{l:List (Nat×Nat×Nat)} {lo hi:Nat},Rn O ky b l lo hi->lo + l.length<=hi
 | [],lo,hi,h=>by have h:lo=hi:=h;simp;omega
 | x::r,lo,hi,h=>by obtain⟨_,h2,_,h4⟩:=h;have:=Rn.le h4;simp only[PM];omega
def Rn.app {b:Array Keyed}:∀{l m:List (Nat×Nat×Nat)} {lo hi:Nat},Rn O ky b (l++m) lo hi↔∃k,Rn O ky b l lo k/\Rn O ky b m k hi
 | [],m,lo,hi=>⟨λh=>⟨lo,rfl,h⟩,λ⟨k,h1,h2⟩=>by have h1:lo=k:=h1;subst h1;exact h2⟩
 | x::r,m,lo,hi=>by
  constructor
  ·rintro⟨h1,h2,h3,h4⟩;obtain⟨k,k1,k2⟩:=Rn.app.mp h4;exact⟨k,⟨h1,h2,h3,k1⟩,k2⟩
  ·rintro⟨k,⟨h1,h2,h3,h4⟩,k2⟩;exact⟨h1,h2,h3,Rn.app.mpr ⟨k,h4,k2⟩⟩
def Rn.congr {b c:Array Keyed}:∀{l:List (Nat×Nat×Nat)} {lo hi:Nat},Rn O ky b l lo hi->(∀t,lo<=t->t < hi->kas_item c t=kas_item b t)->Rn O ky c l lo hi
 | [],lo,hi,h,_=>h
 | x::r,lo,hi,⟨h1,h2,h3,h4⟩,e=>by have hl:=Rn.le h4;refine⟨h1,h2,λi j hi gg hj=>?_,Rn.congr h4 λt a b=>e t (by omega) b⟩;rw[e i (by omega) (by omega),e j (by omega) (by omega)];exact h3 i j hi gg hj
structure Ru (O:KeyOrd) (ky:Keyed->O.α) (κ:SortKind) (a:Array Keyed) (lo:Nat) (st:SortSt):Prop where
 k:kindOf st=κ
 f:failedOf st=none
 pm:(arrOf st).toList.Perm a.toList
 rn:Rn O ky (arrOf st) (pendingOf st).toList 0 lo
def Ru.size {lo:Nat} {st:SortSt} (h:Ru O ky κ a lo st):(arrOf st).size=a.size:=by have:=h.pm.length_eq;simpa using this
def Ru.mem {lo:Nat} {st:SortSt} (h:Ru O ky κ a lo st) (hb:∀x∈a.toList,Mem x) {i:Nat} (hi:i < (arrOf st).size):Mem (kas_item (arrOf st) i):=by refine hb _ (h.pm.mem_iff.mp ?_);unfold kas_item;simp[Array.getD,hi]
def Ck {α:Type} {l:List α} {i:Nat} (h:i + 1 < l.length):∃l1 x y l2,l=l1++x::y::l2/\l1.length=i:=by refine⟨l.take i,l[i],l[i + 1],l.drop (i + 2),?_,by rw[List.length_take];omega⟩;rw[<-List.drop_eq_getElem_cons h,<-List.drop_eq_getElem_cons (by omega),List.take_append_drop]
def ra {P:Array (Nat×Nat×Nat)} {l1 l2:List (Nat×Nat×Nat)} {x y v:Nat×Nat×Nat} {i:Nat} (h:P.toList=l1++x::y::l2) (hi:l1.length=i):((P.setIfInBounds i v).eraseIdxIfInBounds (i + 1)).toList=l1++v::l2:=by
 have ib:P.size=l1.length + (l2.length + 2):=by have:=congrArg List.length h;simp at this;omega
 have e1:(P.setIfInBounds i v).toList=l1++v::y::l2:=by rw[Array.toList_setIfInBounds,h,<-hi,List.set_append_right _ _ (Pt _)];simp
 unfold Array.eraseIdxIfInBounds;rw[dif_pos (by rw[Array.size_setIfInBounds];omega),Array.toList_eraseIdx,e1,<-hi];rw[List.eraseIdx_append_of_length_le (by omega)];simp
def o8 (T:Tells prog w A κ s O ky Mem) (hb:∀x∈a.toList,Mem x) {lo i:Nat} {st:SortSt} (h:Ru O ky κ a lo st) (n0:lo<=a.size) (hi:i + 1 < (pendingOf st).size) {Q:Bool->SortSt->Shared->Prop}
  (q:∀ah,Ru O ky κ a lo ah->(pendingOf ah).size + 1=(pendingOf st).size->(∀t,lo<=t->kas_item (arrOf ah) t=kas_item (arrOf st) t)->Q true ah s):kasC (model prog w) A E (Hb i) Q st s:=by
 obtain⟨l1,x,y,l2,hl,hlen⟩:=Ck (l:=(pendingOf st).toList) (i:=i) (by simpa using hi);have ib:=h.size;have rn:=h.rn;rw[hl] at rn;obtain⟨p,r1,r2⟩:=Rn.app.mp rn;obtain⟨xp,xn,xw⟩:=x;obtain⟨yp,yn,yw⟩:=y;obtain⟨e1,x1,x2,e2,y1,y2,r3⟩:=r2;have e1:xp=p:=e1;have e2:yp=p + xn:=e2;subst e1 e2;have h3:=r3.le;simp only at x1 x2 y1 y2 r3 h3;have eP:∀j,(pendingOf st)[j]?=(l1++(xp,xn,xw)::(xp + xn,yn,yw)::l2)[j]?:=λj=>by rw[<-hl,Array.getElem?_toList]
 have g1:(pendingOf st)[i]?=some (xp,xn,xw):=by rw[eP,Qg (by omega),show i - l1.length=0 by omega];rfl
 have g2:(pendingOf st)[i + 1]?=some (xp + xn,yn,yw):=by rw[eP,Qg (by omega),show i + 1 - l1.length=1 by omega];rfl
 have Nd:st=SortSt.mk' κ (arrOf st) (pendingOf st) (gallopOf st) none:=by have e:st=SortSt.mk' (kindOf st) (arrOf st) (pendingOf st) (gallopOf st) (failedOf st):=rfl;rw[h.k,h.f] at e;exact e
 have z:=LV (E:=E) T (a:=arrOf st) (P:=pendingOf st) (g:=gallopOf st) g1 g2 (by omega) x1 y1 (λi hi=>h.mem hb hi) (λi j a b c=>x2 i j a b c) (λi j a b c=>y2 i j a b c) (Q:=Q) λah k1 k2 k3 k4 k5 k6=>?_
 ·rw[<-Nd] at z;exact z
 ·have ee:=ra (v:=(xp,xn + yn,xw)) hl hlen;refine q ah ⟨k1,k3,k4.trans h.pm,?_⟩ ?_ λt ht=>k6 t (.inr (by omega))
  ·rw[k2,ee];refine Rn.app.mpr ⟨xp,r1.congr λt _ ht=>k6 t (.inl ht),rfl,by show 1<=xn + yn;omega,k5,?_⟩;have:Rn O ky (arrOf ah) l2 (xp + xn + yn) lo:=r3.congr λt ht _=>k6 t (.inr ht)
   rw[Nat.add_assoc] at this;exact this
  ·rw[k2,<-PP,ee,<-PP,hl];simp;omega
def CO (T:Tells prog w A κ s O ky Mem) (hb:∀x∈a.toList,Mem x) {lo size pw:Nat} {st:SortSt} (h:Ru O ky κ a lo st) (n0:lo<=a.size) (hp:1<=(pendingOf st).size) {Q:Option Unit×Unit->SortSt->Shared->Prop}
  (q:∀ah,Ru O ky κ a lo ah->1<=(pendingOf ah).size->(∀t,lo<=t->kas_item (arrOf ah) t=kas_item (arrOf st) t)->Q (none,()) ah s):kasC (model prog w) A E (JD size pw) Q st s:=by
 unfold JD;refine dm (λ_ c ah=>c=(none,())/\Ru O ky κ a lo ah/\1<=(pendingOf ah).size/\∀t,lo<=t->kas_item (arrOf ah) t=kas_item (arrOf st) t) ⟨rfl,h,hp,λ_ _=>rfl⟩ (λx c ah _ _ hI=>?_) (λc ah hI=>?_)
 ·obtain⟨rfl,h',lH,he⟩:=hI;refine Pr (kasC_get ?_);by_cases c1:(pendingOf ah).size > 1
  ·rw[if_pos c1];have:(pendingOf ah)[(pendingOf ah).size - 2]?=some (pendingOf ah)[(pendingOf ah).size - 2]:=by simp
   rw[this];dsimp only;by_cases c2:(pendingOf ah)[(pendingOf ah).size - 2].2.2<=pw
   ·rw[if_pos c2];exact Pw ⟨rfl,q _ h' lH he⟩
   ·rw[if_neg c2];refine Pr (o8 T hb h' n0 (by omega) λdB h2 s2 e2=>?_);rw[if_neg (by simp)];exact Pw ⟨rfl,rfl,h2,by omega,λt ht=>(e2 t ht).trans (he t ht)⟩
  ·rw[if_neg c1];exact Pw ⟨rfl,q _ h' lH he⟩
 ·obtain⟨rfl,h',lH,he⟩:=hI;exact q _ h' lH he
def Rn.Lc {b:Array Keyed} {l:List (Nat×Nat×Nat)} {x y:Nat×Nat×Nat} {lo hi:Nat} (h:Rn O ky b (l++[x]) lo hi) (e1:y.1=x.1) (e2:y.2.1=x.2.1):Rn O ky b (l++[y]) lo hi:=by obtain⟨k,k1,h1,h2,h3,h4⟩:=Rn.app.mp h;exact Rn.app.mpr ⟨k,k1,e1.trans h1,by rw[e2];exact h2,by rw[e2];exact h3,by rw[e2];exact h4⟩
def snoc {α:Type} {P:Array α} (h:1<=P.size):∃l x,P.toList=l++[x]/\P.back?=some x:=by
 have jA:P.toList≠[]:=λz=>by have:=congrArg List.length z;simp at this;rw[this] at h;simp at h
 refine⟨P.toList.dropLast,P.toList.getLast jA,(List.dropLast_concat_getLast jA).symm,?_⟩;rw[<-Array.getLast?_toList,List.getLast?_eq_some_getLast jA]
def jc {α:Type} (f:α->α):∀(l:List α) (x:α),(l++[x]).modify l.length f=l++[f x]
 | [],x=>rfl
 | y::l,x=>by show y::(l++[x]).modify l.length f=y::(l++[f x]);rw[jc f l x]
def wG (T:Tells prog w A κ s O ky Mem) (hb:∀x∈a.toList,Mem x) {size lo n:Nat} {st:SortSt} (h:Ru O ky κ a lo st) (n0:lo<=a.size) (hn:1<=n) (hu:Up O ky lo (arrOf st) n) (h0:1<=(pendingOf st).size\/lo=0) {Q:ForInStep (Option Unit×Nat)->SortSt->Shared->Prop}
  (q:∀ah,Ru O ky κ a (lo + n) ah->1<=(pendingOf ah).size->Q (.yield (none,lo + n)) ah s):kasC (model prog w) A E (Jl size lo n) Q st s:=by
 unfold Jl;refine Pr (kasC_get ?_);by_cases hp:1<=(pendingOf st).size
 ·obtain⟨l,x,hl,Nf⟩:=snoc hp;rw[Nf];obtain⟨s1,n1,w1⟩:=x;dsimp only;refine Pr (CO T hb h n0 hp λdB h2 p2 e2=>?_);dsimp only;obtain⟨l2,x2,cX,OX⟩:=snoc p2;have OE:(pendingOf dB).size=l2.length + 1:=by have:=congrArg List.length cX;simp at this;omega
  refine Pr (kasC_modify (Pr (kasC_modify (Pw (q _ ⟨h2.k,h2.f,h2.pm,?_⟩ ?_)))))
  ·show Rn O ky (arrOf dB) (((pendingOf dB).modify ((pendingOf dB).size - 1) _).push (lo,n,0)).toList 0 (lo + n);rw[Array.toList_push,Array.toList_modify,cX,OE];have em:(l2++[x2]).modify (l2.length + 1 - 1) (λ(x:Nat×Nat×Nat)=>(x.1,x.2.1,power' size (2 * s1 + n1) (2 * s1 + n1 + n1 + n) size))=l2++[(x2.1,x2.2.1,power' size (2 * s1 + n1) (2 * s1 + n1 + n1 + n) size)]:=by rw[Nat.add_sub_cancel];exact jc _ _ _
   rw[show (λ(x:Nat×Nat×Nat)=>match x with | (st,len,_)=>(st,len,power' size (2 * s1 + n1) (2 * s1 + n1 + n1 + n) size))=λ(x:Nat×Nat×Nat)=>(x.1,x.2.1,power' size (2 * s1 + n1) (2 * s1 + n1 + n1 + n) size) from rfl,em];have rn:=h2.rn;rw[cX] at rn;refine Rn.app.mpr ⟨lo,rn.Lc rfl rfl,rfl,hn,λi j hi gg hj=>?_,rfl⟩;rw[e2 i hi,e2 j (by omega)];exact hu i j hi gg hj
  ·show 1<=(((pendingOf dB).modify ((pendingOf dB).size - 1) _).push (lo,n,0)).size;rw[Ql];omega
 ·have hz:(pendingOf st).size=0:=by omega
  have e:(pendingOf st).back?=none:=by rw[Array.back?_eq_none_iff];exact Array.eq_empty_of_size_eq_zero hz
  rw[e];have Kx:lo=0:=h0.resolve_left hp;subst Kx;refine Pr (kasC_modify (Pw (q _ ⟨h.k,h.f,h.pm,?_⟩ ?_)))
  ·show Rn O ky (arrOf st) ((pendingOf st).push (0,n,0)).toList 0 (0 + n);rw[Array.toList_push,Array.eq_empty_of_size_eq_zero hz];exact⟨rfl,hn,hu,rfl⟩
  ·show 1<=((pendingOf st).push (0,n,0)).size;rw[Ql];omega
def Cn (T:Tells prog w A κ s O ky Mem) (hb:∀x∈a.toList,Mem x) {mr lo:Nat} {st:SortSt} (h:Ru O ky κ a lo st) (n0:lo < a.size) (hm:1<=mr) (h0:1<=(pendingOf st).size\/lo=0) {Q:ForInStep (Option Unit×Nat)->SortSt->Shared->Prop}
  (q:∀ah n,1<=n->lo + n<=a.size->Ru O ky κ a (lo + n) ah->1<=(pendingOf ah).size->Q (.yield (none,lo + n)) ah s):kasC (model prog w) A E (Ib a.size mr lo) Q st s:=by
 unfold Ib;rw[if_neg (by omega)];have ib:=h.size;have lX:∀x∈(arrOf st).toList,Mem x:=λx hx=>hb x (h.pm.mem_iff.mp hx)
 have b0:Bs κ (pendingOf st) lo (arrOf st) st:=⟨h.k,h.f,rfl,List.Perm.refl _,λ_ _=>rfl⟩;have Mb:∀{ah:SortSt},Bs κ (pendingOf st) lo (arrOf st) ah->Ru O ky κ a lo ah:=λb=>⟨b.k,b.f,b.pm.trans h.pm,by rw[b.p];exact h.rn.congr λt _ ht=>b.lw t ht⟩
 refine Pr (FA T lX b0 (m:=a.size - lo) (by omega) (by omega) λah k b' k1 k2 ku=>?_);dsimp only;by_cases c:k < mr
 ·rw[if_pos c];refine Pr (kasC_lift (wpAny_rule ?_));refine Pr (Hv T lX b' (n:=min (a.size - lo) mr) (by omega) k1 (by omega) ku λdB b2 u2=>?_);rw[if_neg (by simp)];exact wG T hb (Mb b2) (by omega) (by omega) u2 (by rw[b2.p];exact h0) λEX h3 p3=>q EX _ (by omega) (by omega) h3 p3
 ·rw[if_neg c];exact wG T hb (Mb b') (by omega) (by omega) ku (by rw[b'.p];exact h0) λEX h3 p3=>q EX _ (by omega) (by omega) h3 p3
def Hm {P:Array (Nat×Nat×Nat)} (h:1 < P.size):ix P + 1 < P.size:=by grind [ix]
def D9 (T:Tells prog w A κ s O ky Mem) (hb:∀x∈a.toList,Mem x) {st:SortSt} (h:Ru O ky κ a a.size st) {Q:Option Unit×Unit->SortSt->Shared->Prop}
  (q:∀ah,Ru O ky κ a a.size ah->(pendingOf ah).size<=1->Q (none,()) ah s):kasC (model prog w) A E (Jh a.size) Q st s:=by
 unfold Jh;have hle:=h.rn.le;simp at hle;refine dm (λx c ah=>c=(none,())/\Ru O ky κ a a.size ah/\(pendingOf ah).size<=max 1 (a.size - x)) ⟨rfl,h,by omega⟩ (λx c ah _ hx hI=>?_) (λc ah hI=>?_)
 ·obtain⟨rfl,h',hp⟩:=hI;refine Pr (kasC_get ?_);by_cases c1:(pendingOf ah).size<=1
  ·rw[if_pos c1];exact Pw ⟨rfl,q _ h' c1⟩
  ·rw[if_neg c1];refine Pr (o8 T hb h' (Pt _) (Hm (by omega)) λdB h2 s2 _=>?_);rw[if_neg (by simp)];exact Pw ⟨rfl,rfl,h2,by omega⟩
 ·obtain⟨rfl,h',hp⟩:=hI;exact q _ h' (by omega)
def kc:∀(f n r:Nat),1<=n->1<=minRun' f n r
 | 0,n,r,h=>by
  have e:minRun' 0 n r=n + r:=by kernel_rfl
  rw[e];omega
 | f + 1,n,r,h=>by
  rw[minRun'_succ];split
  ·omega
  ·exact kc f (n / 2) _ (by omega)
def EF (T:Tells prog w A κ s O ky Mem) (hb:∀x∈a.toList,Mem x) (h2:2<=a.size) {g:Nat} {Q:Unit->SortSt->Shared->Prop}
  (q:∀ah:SortSt,failedOf ah=none->(arrOf ah).toList.Perm a.toList->g6 O ky (arrOf ah).toList->Q () ah s):kasC (model prog w) A E sortRuns' Q (SortSt.mk' κ a #[] g none) s:=by
 rw[Gk];unfold sR;refine Pr (kasC_get ?_);have MH:=kc a.size a.size 0 (by omega);show kasC _ _ _ (do
  let r<-forIn [:a.size] ((none,0):Option Unit×Nat) λ_ r=>Ib a.size (minRun' a.size a.size 0) r.2
  match r.1 with
  | some v=>pure v
  | none=>do
   let r<-Jh a.size
   match r.1 with
   | some v=>pure v
   | none=>pure ()) _ _ _
 generalize minRun' a.size a.size 0=mr at MH ⊢;refine Pr (bB (Q:=λr ah s'=>s=s'/\r.1=none/\Ru O ky κ a a.size ah) (dm (λx c ah=>∃lo,c=(none,lo)/\x<=lo/\lo<=a.size/\Ru O ky κ a lo ah/\(1<=(pendingOf ah).size\/lo=0)) ⟨0,rfl,Pt _,by omega,⟨rfl,rfl,List.Perm.refl _,rfl⟩,.inr rfl⟩ (λx c ah _ hx hI=>?_) (λc ah hI=>?_)) (λr ah s' hI=>?_))
 ·obtain⟨lo,rfl,N5,n0,h,h0⟩:=hI;by_cases c:lo < a.size
  ·exact Cn T hb h c MH h0 λdB n n1 n2 h2 p2=>⟨rfl,lo + n,rfl,by omega,n2,h2,.inl p2⟩
  ·have e:lo=a.size:=by omega
   subst e;unfold Ib;rw[if_pos (Pt _)];exact Pw ⟨rfl,rfl,rfl,h⟩
 ·obtain⟨lo,rfl,N5,n0,h,h0⟩:=hI;have e:lo=a.size:=by omega
  subst e;exact⟨rfl,rfl,h⟩
 ·obtain⟨rfl,e,h⟩:=hI;obtain⟨r1,r2⟩:=r;cases e;refine Pr (D9 T hb h λdB g1 g2=>Pw (q dB g1.f g1.pm ?_));have rn:=g1.rn
  match hl:(pendingOf dB).toList,rn with
  | [],rn=>have rn:0=a.size:=rn;omega
  | [x],rn=>obtain⟨_,_,u,e⟩:=rn;have e:0 + x.2.1=a.size:=e;exact Up.i0 (g1.size.trans (by omega)) u
  | x::y::r,_=>exfalso;have:=congrArg List.length hl;simp at this;omega
end
end MxTim
end
section
namespace Mx
open PySem PySem.W PySem.Spec PyProof.Rows L2 PySem.SeqAt MxSort
def pf {α β:Type} {f:α->β} {l l':List β} (h:l.Perm l'):∀r:List α,l=r.map f->∃p:List α,p.Perm r/\l'=p.map f:=by
 induction h with
 | nil=>intro r e;exact⟨r,List.Perm.refl _,e⟩
 | cons x h ih=>
  intro r e;cases r with
  | nil=>cases e
  | cons y r=>rw[Qh] at e;injection e with e1 e2;obtain⟨p,p1,p2⟩:=ih r e2;exact⟨y::p,p1.cons y,by rw[Qh,e1,p2]⟩
 | swap x y l=>
  intro r e;cases r with
  | nil=>cases e
  | cons a r=>
   cases r with
   | nil=>rw[Qh] at e;injection e with e1 e2;cases e2
   | cons b r=>rw[Qh,Qh] at e;injection e with e1 e2;injection e2 with e3 e4;exact⟨b::a::r,List.Perm.swap a b r,by rw[Qh,Qh,e1,e3,e4]⟩
 | trans h1 h2 ih1 ih2=>intro r e;obtain⟨p,p1,p2⟩:=ih1 r e;obtain⟨q,q1,q2⟩:=ih2 p p2;exact⟨q,q1.trans p1,q2⟩
section
variable {prog:Program} {w:World} {A:Around} {E:Value->Shared->Prop} {s:Shared}
def Ew {O:KeyOrd} (vs:List Value) (key:Nat->O.α):Prop:=∀i j,i < vs.length->j < vs.length->vs.getD i Value.none=vs.getD j Value.none->key i=key j
open Classical in
noncomputable def CZ {O:KeyOrd} (vs:List Value) (key:Nat->O.α) (k:Keyed):O.α:=if h:∃i,i < vs.length/\vs.getD i Value.none=k.1 then key (Classical.choose h) else key 0
def jG {O:KeyOrd} {vs:List Value} {key:Nat->O.α} (hi:Ew vs key) {i:Nat} (h:i < vs.length) (v:Value):CZ vs key (vs.getD i Value.none,v)=key i:=by unfold CZ;have ex:∃j,j < vs.length/\vs.getD j Value.none=((vs.getD i Value.none,v):Keyed).1:=⟨i,h,rfl⟩;rw[dif_pos ex];have z:=Classical.choose_spec ex;exact hi _ _ z.1 h z.2
def ph (vs:List Value):(vs.toArray.zip vs.toArray).toList=(List.range vs.length).map λi=>(vs.getD i Value.none,vs.getD i Value.none):=by
 refine List.ext_getElem (by simp) λi h1 h2=>?_
 simp at h1;simp[h1]
def DL {κ:SortKind} {vs:List Value} {O:KeyOrd} {key:Nat->O.α} (T:Tells O key (kas_ask prog w A κ vs) vs.length s) (hi:Ew vs key) (h2:2<=vs.length) (Oc:vs.length < 1000000) {Q:SortSt->Shared->Prop}
  (hG:∀(p:Array Nat) (ah:SortSt),Ord vs.length p->Up key p vs.length->(arrOf ah).map (·.2)=(p.toList.map λi=>vs.getD i Value.none).toArray->failedOf ah=none->Q ah s):
  wpAny (model prog w) A ((sortRuns').run (SortSt.mk' κ (vs.toArray.zip vs.toArray) #[] 7 none)) (λr s'=>Q r.2 s') E s:=by
 have hz:(vs.toArray.zip vs.toArray).size=vs.length:=by simp
 have T':MxTim.Tells prog w A κ s O (CZ vs key) (λk=>∃i,i < vs.length/\k=(vs.getD i Value.none,vs.getD i Value.none)):=by rintro x y ⟨i,B1,rfl⟩ ⟨j,zt,rfl⟩ C hC;rw[jG hi B1,jG hi zt] at hC;exact T i j B1 zt C hC
 have run:=MxTim.EF (E:=E) T' (a:=vs.toArray.zip vs.toArray) (λx hx=>by
   rw[ph] at hx;obtain⟨i,i1,i2⟩:=P9.mp hx;exact⟨i,Qk.mp i1,i2.symm⟩) (by omega) (g:=7) (Q:=λ_ ah s'=>Q ah s') (λah f pm i0=>?_)
 ·exact run
 ·rw[ph] at pm;obtain⟨p,p1,p2⟩:=pf pm.symm (List.range vs.length) rfl;have hl:p.length=vs.length:=by rw[p1.length_eq,List.length_range]
  have cz:∀i∈p,i < vs.length:=λi hi=>Qk.mp (p1.mem_iff.mp hi)
  refine hG p.toArray ah (by unfold MxSort.Ord;exact p1) (λi j gg hj=>?_) ?_ f
  ·by_cases e:i=j
   ·subst e;exact KeyOrd.kle_refl _
   ·unfold MxTim.g6 at i0;rw[p2,List.pairwise_map,List.pairwise_iff_getElem] at i0;have z:=i0 i j (by omega) (by omega) (by omega);unfold MxTim.le at z;rw[jG hi (cz _ (List.getElem_mem _)),jG hi (cz _ (List.getElem_mem _))] at z;unfold qZ;rw[show p.toArray.getD i 0=p[i] by simp[Array.getD,show i < p.length by omega],show p.toArray.getD j 0=p[j] by simp[Array.getD,show j < p.length by omega]];exact z
  ·apply Array.toList_inj.mp;rw[Array.toList_map,p2,List.map_map];rfl
def yP {a:Addr} {vs:List Value} {n:Nat} {P:PySem.Fin->Shared->Prop} (ho:s.heap.get? a=some (seqObj "list" vs.toArray n)) (OJ:vs.length < 1000000) {O:KeyOrd} {key:Nat->O.α}
  (hk:2<=vs.length->∀h',(∀b o,b≠a->s.heap.get? b=some o->h'.get? b=some o)->∃κ:SortKind,(∀(Q:SortKind->Shared->Prop) (E:Value->Shared->Prop),Q κ {s with heap:=h'}->wpAny (model prog w) A (keyKind' vs.toArray) Q E {s with heap:=h'})/\
   Tells O key (kas_ask prog w A κ vs) vs.length {s with heap:=h'}/\Ew vs key)
  (h:∀(p:Array Nat) (h':Heap) (e:Nat),Ord vs.length p->Up key p vs.length->(∀b o,b≠a->s.heap.get? b=some o->h'.get? b=some o)->h'.get? a=some (seqObj "list" (p.toList.map λi=>vs.getD i Value.none).toArray e)->
   P (.done (.ret .none)) {s with heap:=h'}):wpAny (model prog w) A (Builtin.«list.sort» ⟨[.ref a],[]⟩) P E s:=by
 have ha:a < s.heap.objs.size:=Py ho;have tF:vs.length<=sizeLine:=by rw[sizeLine_eq];omega
 rw[list_sort_plain];refine Pi (listItems_at ho rfl (Pi (listUpdate_at ho rfl ?_ (by rw[Pn];exact tF) (Nat.zero_le _))));obtain⟨e1,zv⟩:∃e1,(s.heap.update a (Obj.mapSeq λ_=>(#[]:Array Value))).get? a=some (seqObj "list" #[] e1):=⟨_,get?_update_seq ho λ_=>#[]⟩;refine Pi (seqEpoch_at zv rfl (Pi (wpAny_newTuple ?_ tF)));refine Pi (wpAny_newList (wpAny_holding ?_) (Nat.zero_le _));show wpAny (model prog w) A _ P E {s with heap:=((s.heap.update a (Obj.mapSeq λ_=>(#[]:Array Value))).push (seqObj "tuple" vs.toArray 0)).push (seqObj "list" #[] 0)};generalize hh:((s.heap.update a (Obj.mapSeq λ_=>(#[]:Array Value))).push (seqObj "tuple" vs.toArray 0)).push (seqObj "list" #[] 0)=h1;have k1:∀b o,b≠a->s.heap.get? b=some o->h1.get? b=some o:=λb o hb e=>by rw[<-hh];exact Pk _ (Pk _ ((P1 s.heap _ (Ne.symm hb)).trans e))
 have Jy:h1.get? a=some (seqObj "list" #[] e1):=by rw[<-hh];exact Pk _ (Pk _ zv)
 dsimp only;have fin:∀(ah:SortSt) (p:Array Nat),Ord vs.length p->Up key p vs.length->(arrOf ah).map (·.2)=(p.toList.map λi=>vs.getD i Value.none).toArray->failedOf ah=none->
   wpAny (model prog w) A (do
    let touched:=(<-seqEpoch a) != e1
    Builtin.List.listUpdate (.ref a) λ_=>(arrOf ah).map (·.2)
    if let some e:=failedOf ah then rule "list.sort.comparison-raised";throw e
    if touched then rule "list.sort.modified";raiseError "ValueError" "list modified during sort"
    ret .none) P E {s with heap:=h1}:=λah p hp hu DW hf=>by
  refine Pi (seqEpoch_at (s:={s with heap:=h1}) Jy rfl ?_);have ib:(p.toList.map λi=>vs.getD i Value.none).toArray.size=vs.length:=by rw[Pn,Px,PP,hp.size]
  rw[DW];refine Pi (listUpdate_at (s:={s with heap:=h1}) Jy rfl ?_ (Nat.zero_le _) (by rw[ib];omega));rw[hf];simp only[bne_self_eq_false,Bool.false_eq_true,if_false];obtain⟨c2,uX⟩:∃c2,(h1.update a (Obj.mapSeq λ_=>(p.toList.map λi=>vs.getD i Value.none).toArray)).get? a=some (seqObj "list" (p.toList.map λi=>vs.getD i Value.none).toArray c2):=⟨_,get?_update_seq Jy λ_=>_⟩;exact Pl (h p _ c2 hp hu (λb o hb e=>(P1 h1 _ (Ne.symm hb)).trans (k1 b o hb e)) uX)
 by_cases h2:2<=vs.length
 ·have kW:¬vs.toArray.size < 2:=by rw[Pn];omega
  rw[if_neg kW,if_neg kW];obtain⟨κ,NH,T,hi⟩:=hk h2 h1 k1;refine Pi (NH _ _ ?_);refine Pi (wpAny_mono (DL (s:={s with heap:=h1}) (Q:=λah s'=>s'={s with heap:=h1}/\∃p:Array Nat,Ord vs.length p/\Up key p vs.length/\(arrOf ah).map (·.2)=(p.toList.map λi=>vs.getD i Value.none).toArray/\failedOf ah=none) T hi h2 OJ
   (λp ah hp hu ho hf=>⟨rfl,p,hp,hu,ho,hf⟩)) ?_ λ_ _ e=>e)
  rintro⟨⟨⟩,ah⟩ s' ⟨rfl,p,hp,hu,DW,hf⟩;exact fin ah p hp hu DW hf
 ·have kW:vs.toArray.size < 2:=by rw[Pn];omega
  rw[if_pos kW,if_pos kW];refine Pi (Pl ?_);rw[StateT.run_pure];refine Pi (Pl ?_);refine fin (SortSt.mk' general' (vs.toArray.zip vs.toArray) #[] 7 none) (List.range vs.length).toArray (by unfold MxSort.Ord;simp) (λi j gg hj=>?_) ?_ rfl
  ·rw[show i=j by omega];exact KeyOrd.kle_refl _
  ·apply Array.toList_inj.mp;show (((vs.toArray.zip vs.toArray)).map (·.2)).toList=_
   match vs,h2 with
   | [],_=>simp
   | [v],_=>simp
   | _::_::_,h2=>exact absurd (by simp) h2
end
end Mx
end
section
namespace Mx
open PySem PySem.W PySem.Spec PyProof.Rows L2
def kT {ks:List Str} {us IV:List Value} (r:aw (ks.map V.str) us) (p:IV.Perm us):∃c7:List Str,c7.Perm ks/\aw (c7.map V.str) IV:=by
 have e:us=(us.map λv=>((0:Int),v)).map (·.2):=by rw[List.map_map];simp[Function.comp_def]
 have e':IV=(IV.map λv=>((0:Int),v)).map (·.2):=by rw[List.map_map];simp[Function.comp_def]
 rw[e] at r;rw[e'];exact iU (p.map _) r
def jY {α:Type} (es:Array α) (d:α):(List.range es.size).map (λj=>es.getD j d)=es.toList:=by
 refine List.ext_getElem (by simp) λi h1 h2=>?_
 simp at h1;simp[Array.getD,h1]
section
variable {prog:Program} {w:World} {A:Around} {E:Value->Shared->Prop} {s:Shared}
def zO {S:Addr} {ks:List Str} {Q:Value->Shared->Prop} (hS:cD prog w s.heap S ks)
  (h:∀(h':Heap) (d':_) (I T:Addr) (es:Array (Int×Value)) (ep:Nat) (t:SetTable) (vs:List Value) (c7:List Str),zA w I S es ep t vs T 0 h'->I≠S->I≠T->I < h'.objs.size->S < h'.objs.size->T < h'.objs.size->s.heap.objs.size<=I->(T=S\/s.heap.objs.size<=T)->(∀b o,s.heap.get? b=some o->h'.get? b=some o)->c7.Perm ks->aw (c7.map V.str) vs->Q (.ref I) {s with heap:=h',drawn:=d'}):
  wpAny (model prog w) A (pyIter (.ref S)) Q E s:=by
 obtain⟨es,ep,t,ho,eS,hv,BK,hb,hf,zf,gG⟩:=hS;have hT:s.TypeIs (.ref S) "set":=⟨_,ho,rfl⟩;have jh:S < s.heap.objs.size:=Py ho;refine wpAny_pyIter_slot hT PySem.F.slot_set_iter (wpAny_call_entry PySem.F.slot_set_iter hT F.jN ?_ (PySem.F.args_set_iter_1 _));show wpAny _ _ (Builtin.Frozenset.sizeOf S >>=_) _ _ s;refine Pi ?_;unfold Builtin.Frozenset.sizeOf;refine Pi (wpAny_setEntries_of ho rfl hf (Pl ?_));refine Pi ?_;unfold setDrawn;refine Pi (wpAny_setState_of ho rfl hf ?_);dsimp only;refine Pi (c9 (Pl ?_));show wpAny _ _ (if ((!xZ w&&(!t.plain&&decide (es.size > 1)))=true) then _ else _) _ _ s;by_cases zb:xZ w=true
 ·rw[if_neg (by rw[zb];simp)];refine Pi (Pl ?_);refine Pi (wpAny_setEpoch_of ho rfl hf ?_);show wpAny _ _ (newFields "set_iterator" [rawInt 0,rawInt 0,.ref S,rawInt es.size,rawInt ep] >>=_) _ _ s;unfold newFields;refine Pi (wpAny_newObj_type ?_);refine Pl ⟨_,rfl,"set_iterator",_,⟨_,Pv _ rfl,rfl⟩,F.ay.lookup,?_⟩;obtain⟨c7,p1,p2⟩:=kT hv ((mC (w.params.setOrder S ep) es).map (·.2));have hI:Bv (s.heap.push {cls:= .type "set_iterator",data:= .fields #[rawInt 0,rawInt (0:Nat),.ref S,rawInt es.size,rawInt ep]}) s.heap.objs.size (rawInt 0) 0 S es.size ep:=Pv _ rfl;refine h _ s.drawn s.heap.objs.size S es ep t ((pickOrder (w.params.setOrder S ep) es).toList.map (·.2)) c7 ⟨Pk _ ho,hf,?_,rawInt 0,hI,.inl ⟨zb,rfl,rfl⟩⟩ (Nat.ne_of_gt jh) (Nat.ne_of_gt jh) ?_ ?_ ?_ (Pt _) (.inl rfl) (λb o e=>Pk _ e) p1 p2
  ·rw[Px,(mC _ es).length_eq,PP]
  ·rw[P4];exact Nat.lt_succ_self _
  ·rw[P4];exact Nat.lt_succ_of_lt jh
  ·rw[P4];exact Nat.lt_succ_of_lt jh
 ·have BM:xZ w=false:=by simpa using zb
  by_cases h1:1 < es.size
  ·have Hf:=gG (by omega);rw[if_pos (by rw[BM,Hf,P3 h1];rfl)];refine Pi (iA es.size (List.range es.size) (by simp) λπ d hπ=>?_);refine Pi (m:=newTuple _) (wpAny_newTuple ?_ (by
    rw[Px,hπ.length_eq,List.length_range];exact fits_of_scanBound hb))
   generalize hh1:s.heap.push {cls:= .type "tuple",data:= .seq (π.map λ(i:Nat)=>rawInt (i:Int)).toArray}=iJ;have k1:∀b o,s.heap.get? b=some o->iJ.get? b=some o:=λb o e=>by rw[<-hh1];exact Pk _ e
   have z1:iJ.objs.size=s.heap.objs.size + 1:=by rw[<-hh1,P4]
   have t1:iJ.get? s.heap.objs.size=some {cls:= .type "tuple",dict:=none,data:= .seq (π.map λ(i:Nat)=>rawInt (i:Int)).toArray 0,slots:=#[]}:=by rw[<-hh1];exact Pv _ rfl
   refine Pi (wpAny_setEpoch_of (s:={s with heap:=iJ,drawn:=d}) (k1 _ _ ho) rfl hf ?_);show wpAny _ _ (newFields "set_iterator" [.ref s.heap.objs.size,rawInt 0,.ref S,rawInt es.size,rawInt ep] >>=_) _ _ _;unfold newFields;refine Pi (wpAny_newObj_type ?_);refine Pl ⟨_,rfl,"set_iterator",_,⟨_,Pv _ rfl,rfl⟩,F.ay.lookup,?_⟩;have hI:Bv (iJ.push {cls:= .type "set_iterator",data:= .fields #[.ref s.heap.objs.size,rawInt (0:Nat),.ref S,rawInt es.size,rawInt ep]}) iJ.objs.size (.ref s.heap.objs.size) 0 S es.size ep:=Pv _ rfl;have pm:(π.map λj=>(es.getD j (0,.none)).2).Perm (es.toList.map (·.2)):=by rw[<-jY es (0,.none),List.map_map];exact hπ.map _
   obtain⟨c7,p1,p2⟩:=kT hv pm;refine h _ d iJ.objs.size s.heap.objs.size es ep t (π.map λj=>(es.getD j (0,.none)).2) c7 ⟨Pk _ (k1 _ _ ho),hf,?_,.ref s.heap.objs.size,hI,.inr (.inr ⟨BM,h1,rfl,π,Pk _ t1,?_,λj hj=>?_,rfl⟩)⟩ (λe=>?_) (λe=>?_) ?_ ?_ ?_ ?_ (.inr (Pt _)) (λb o e=>Pk _ (k1 b o e)) p1 p2
   ·rw[Px,hπ.length_eq,List.length_range]
   ·rw[hπ.length_eq,List.length_range]
   ·exact Qk.mp (hπ.mem_iff.mp hj)
   ·rw[z1] at e;exact Nat.ne_of_gt (Nat.lt_succ_of_lt jh) e
   ·rw[z1] at e;exact Nat.succ_ne_self _ e
   ·rw[P4];exact Nat.lt_succ_self _
   ·rw[P4,z1];exact Nat.lt_succ_of_lt (Nat.lt_succ_of_lt jh)
   ·rw[P4,z1];exact Nat.lt_succ_of_lt (Nat.lt_succ_self _)
   ·rw[z1];exact Nat.le_succ _
  ·rw[if_neg (by rw[PY h1];simp)];refine Pi (Pl ?_);refine Pi (wpAny_setEpoch_of ho rfl hf ?_);show wpAny _ _ (newFields "set_iterator" [rawInt 0,rawInt 0,.ref S,rawInt es.size,rawInt ep] >>=_) _ _ s;unfold newFields;refine Pi (wpAny_newObj_type ?_);refine Pl ⟨_,rfl,"set_iterator",_,⟨_,Pv _ rfl,rfl⟩,F.ay.lookup,?_⟩;have hI:Bv (s.heap.push {cls:= .type "set_iterator",data:= .fields #[rawInt 0,rawInt (0:Nat),.ref S,rawInt es.size,rawInt ep]}) s.heap.objs.size (rawInt (0:Nat)) 0 S es.size ep:=Pv _ rfl;refine h _ s.drawn s.heap.objs.size S es ep t (es.toList.map (·.2)) ks ⟨Pk _ ho,hf,?_,rawInt (0:Nat),hI,.inr (.inl ⟨BM,by rw[zf,BM];rfl,by omega,rfl,0,rfl,λ_=>rfl,λz=>by omega⟩)⟩ (Nat.ne_of_gt jh) (Nat.ne_of_gt jh) ?_ ?_ ?_ (Pt _) (.inl rfl) (λb o e=>Pk _ e) (List.Perm.refl _) hv
   ·rw[Px,PP]
   ·rw[P4];exact Nat.lt_succ_self _
   ·rw[P4];exact Nat.lt_succ_of_lt jh
   ·rw[P4];exact Nat.lt_succ_of_lt jh
namespace F
def zM:typeLookup (.type "set") "__len__"=pure (some (.builtin "set.__len__")):=by rw[typeLookup_type,builtinLookup_eq_fast];kernel_rfl
end F
def qH {S:Addr} {ks:List Str} {Q:List Value->Shared->Prop} (hh:A.handled=none) (hS:cD prog w s.heap S ks)
  (hQ:∀(h':Heap) d' tk (vs:List Value) (c7:List Str),(∀b o,s.heap.get? b=some o->h'.get? b=some o)->c7.Perm ks->aw (c7.map V.str) vs->Q vs {s with heap:=h',drawn:=d',toks:=tk}):wpAny (model prog w) A (collect (.ref S)) Q E s:=by
 obtain⟨o0,OR⟩:∃o,s.heap.get? S=some o:=by obtain⟨es,ep,t,ho,_⟩:=hS;exact⟨_,ho⟩
 have jh:S < s.heap.objs.size:=Py OR;unfold collect;refine Pi (wpAny_runValue (codeAny_builtin PySem.F.entry_proto_collect ?_));rw[Around.under_plainId PySem.F.plain_proto_collect _];show wpAny _ A.in1 (newList [] >>=λl=>again (.builtin "list.__iadd__" ⟨[l,.ref S],[]⟩)) _ _ s;refine Pi (wpAny_newObj_type ?_);refine Pl ⟨plainId_quiet PySem.F.plain_list_iadd _,codeAny_builtin PySem.F.entry_list_iadd ?_⟩;rw[Around.under_plainId PySem.F.plain_list_iadd _];generalize hh1:s.heap.push {cls:= .type "list",data:= .seq ([]:List Value).toArray}=h1;have k1:∀b o,s.heap.get? b=some o->h1.get? b=some o:=λb o e=>by rw[<-hh1];exact Pk _ e
 have z1:h1.objs.size=s.heap.objs.size + 1:=by rw[<-hh1,P4]
 have t1:h1.get? s.heap.objs.size=some (seqObj "list" #[] 0):=by rw[<-hh1];exact Pv _ rfl
 have EH:cD prog w h1 S ks:=hS.at λo e=>k1 _ o e
 have IH:∀{h:Heap} {d:_},(∀b o,h1.get? b=some o->h.get? b=some o)->Shared.TypeIs {s with heap:=h,drawn:=d} (.ref S) "set":=λkk=>by obtain⟨es,ep,t,ho,_⟩:=EH;exact⟨_,kk _ _ ho,rfl⟩
 have Iv:s.heap.objs.size≠S:=Nat.ne_of_gt jh;have Kj:Builtin.List.listSameRef (.ref s.heap.objs.size) (.ref S)=false:=by simp[Builtin.List.listSameRef,Iv]
 show wpAny _ A.in1 (Builtin.List.listExtendWith (.ref s.heap.objs.size) (.ref S) (.ref s.heap.objs.size)) _ _ _;unfold Builtin.List.listExtendWith;refine Pi (wpAny_typeOf (s:={s with heap:=h1}) (IH (d:=s.drawn) λb o e=>e) ?_);rw[if_neg (by rw[Kj];decide)];refine Pi (zO (s:={s with heap:=h1}) EH λh2 d2 I T es ep t vs c7 st Bm GM MC Je hT2 hIn j7 kk p1 p2=>?_);refine Pi (wpAny_holding ?_);unfold Builtin.List.listLengthHint;refine Pi (wpAny_specialOf (s:={s with heap:=h2,drawn:=d2}) (IH kk) F.zM ?_)
 (generalize Kt:("set.__len__":String)=id0;(fail_if_success (clear Kt id0));wp_delta;rw[show splitId id0=some ("set","__len__") from by subst Kt;decide +kernel];subst Kt)
 refine Pi (wpAny_isInstance (b:=true) (IH kk) (by rw[isSubtype_type];kernel_rfl) ?_);rw[if_neg (by simp)];refine Pi (m:=typeOf (.ref S)) (wpAny_typeOf (IH kk) ?_);refine Pl ?_;rw[if_pos (by decide +kernel)];refine Pi (wpAny_rule (Pi ?_));unfold Builtin.List.listTouch;have t2:h2.get? s.heap.objs.size=some (seqObj "list" #[] 0):=kk _ _ t1;refine Pi (listUpdate_at (s:={s with heap:=h2,drawn:=d2}) t2 rfl ?_ (by decide) (by decide));obtain⟨e3,t3⟩:∃e,(h2.update s.heap.objs.size (Obj.mapSeq λx=>x.push .none)).get? s.heap.objs.size=some (seqObj "list" #[.none] e):=⟨_,get?_update_seq t2 λx=>x.push .none⟩;refine listUpdate_at (s:={s with heap:=h2.update s.heap.objs.size (Obj.mapSeq λx=>x.push .none),drawn:=d2}) t3 rfl ?_ (by decide) (by decide);obtain⟨e4,t4⟩:∃e,((h2.update s.heap.objs.size (Obj.mapSeq λx=>x.push .none)).update s.heap.objs.size (Obj.mapSeq λx=>x.pop)).get? s.heap.objs.size=some (seqObj "list" #[] e):=⟨_,get?_update_seq t3 λx=>x.pop⟩;generalize hh4:(h2.update s.heap.objs.size (Obj.mapSeq λx=>x.push .none)).update s.heap.objs.size (Obj.mapSeq λx=>x.pop)=h4 at t4 ⊢;have k4:∀b o,b≠s.heap.objs.size->h2.get? b=some o->h4.get? b=some o:=λb o hb e=>by rw[<-hh4];exact(P1 _ _ (Ne.symm hb)).trans ((P1 _ _ (Ne.symm hb)).trans e)
 have LC:I≠s.heap.objs.size:=λe=>by rw[e,z1] at hIn;exact Nat.not_succ_le_self _ hIn
 have Kz:T≠s.heap.objs.size:=λe=>by
  rcases j7 with q | q
  ·exact Iv (e.symm.trans q)
  ·rw[e,z1] at q;exact Nat.not_succ_le_self _ q
 have Mk:s.heap.objs.size∉[I,S,T]:=by simp only[PC,PD,or_false,not_or];exact⟨LC.symm,Iv,Kz.symm⟩
 have Gu:zA w I S es ep t vs T 0 h4:=st.keep λb hb o e=>k4 b o (λq=>Mk (q▸hb)) e
 have NR:vs.length<=sizeLine:=by
  obtain⟨_,_,hl,_⟩:=st;obtain⟨cQ,Jm,t',oy,_,_,_,lX,_⟩:=EH;have q:es=cQ:=by have:=Gu.1;have q2:=k4 S _ Iv.symm (kk _ _ oy);unfold yG at this;rw[this] at q2;cases q2;rfl
  rw[hl,q];exact fits_of_scanBound lX
 have W:=(vt (prog:=prog) (w:=w) (A:=A.in1) hh I S T Bm GM es ep t vs).toS;refine Pl ⟨plainId_quiet PySem.F.plain_extend_loop _,codeAny_extend_loopS W NR _ Mk _ vs.length 0 _ _ _ rfl (Nat.zero_le _) Gu t4 (ItemsOf.nil _) λs' dM c' hm jM hacc=>?_⟩;show wpAny _ A (load s.heap.objs.size >>=_) _ _ s';refine Pi (wpAny_load jM (Pl ?_));obtain⟨h',g',d',LQ,Fq⟩:=s';have eg:g'=s.gens:=hm.gens;have ed:d'=d2:=hm.drawn;have eo:Fq=s.os:=hm.os;subst eg;subst ed;subst eo;have Gx:dM.toList=vs:=by
  refine List.ext_getElem (by rw[PP];exact hacc.1) λi q1 q2=>?_
  have:vs[i]?=some dM[i]:=hacc.2 i dM[i] (by simp);rw[PX q2] at this;rw[Array.getElem_toList];exact(Option.some.inj this).symm
 show Q dM.toList _;rw[Gx];refine hQ h' d' LQ vs c7 (λb o e=>?_) p1 p2;have hb:=Py e;have zb:b≠s.heap.objs.size:=P5 hb;have BM:b≠I:=λq=>by subst q;have:=PQ hb (Pz (by rw[z1];exact Nat.le_succ _) hIn);exact Nat.lt_irrefl _ this
 exact hm.heap b o (by simp only[PC,PD,or_false,not_or];exact⟨zb,BM⟩) (k4 b o zb (kk b o (k1 b o e)))
end
end Mx
end
section
namespace Mx
open PySem PySem.W PySem.Spec PyProof.Rows L2 PySem.SeqAt MxSort
inductive SK where
 | tt | ts | ti | s | i
 deriving DecidableEq
def SK.ok:SK->D->Prop
 | .tt,d=>∃f r,d= .tup (.tup f::r)
 | .ts,d=>∃f r,d= .tup (.str f::r)
 | .ti,d=>∃f r,d= .tup (.int f::r)
 | .s,d=>∃x,d= .str x
 | .i,d=>∃x,d= .int x
def SK.κ:SK->SortKind
 | .tt=>tuples' false
 | .ts=>tuples' true
 | .ti=>tuples' true
 | .s=>oneType'
 | .i=>oneType'
def SK.f:SK->String
 | .tt=>"tuple"
 | .ts=>"str"
 | .s=>"str"
 | _=>"int"
section
variable {P:Program} {w:World} {H:Hp} {prog:Program} {s:Shared} {A:Around}
def Bz {b:Bool} {n m:Nat} {Q:Bool->Shared->Prop} {v wv:Value} {us vs:List Value} {d e:D} {ds es:List D} (z:Zp A s (v::us) (wv::vs) (d::ds) (e::es))
  (hs:b=true->∀{E:Value->Shared->Prop},wpAny (model prog w) A (oneLt' true v wv) (λr s'=>r=D.lt d e/\s'=s) E s)
  (hlen:ds.length + m=es.length + n) (q:Q (D.eO (d::ds) (e::es)) s):KatLex prog w A b (decide (n < m)) Q ((v::us).zip (wv::vs)) 0 s:=by
 cases z with
 | cons he hl z'=>
  rw[List.zip_cons_cons];rw[D.dc] at q;refine kat_cons (he prog w _ _ ?_);by_cases hde:d=e
  ·rw[(D.cZ d e).mpr hde];rw[if_pos hde] at q;exact kat_yes (Ar z' 1 (by omega) hlen q)
  ·rw[show D.gh d e=false by rw[D.hJ];exact PY hde];rw[if_neg hde] at q;refine kat_no ?_;cases b with
   | false=>rw[show (false&&0==0)=false by rfl];exact kat_one v wv (hl hde prog w _ _ q)
   | true=>rw[show (true&&0==0)=true by rfl];exact wpAny_mono (hs rfl) (λr s' ⟨e1,e2⟩=>by subst e1 e2;exact q) λ_ _ x=>x
def nE (hok:eh P w H s.heap) {n:Nat} (hu:A.units + n < cLine) {b:Bool} {d0 e0:D} {dr er:List D} {x y:V} {u v:Value} (hd:D.dep (.tup (d0::dr))<=n + 1) (hl:D.et (.tup (d0::dr)) (.tup (e0::er)))
  (hs:b=true->(∃p q,d0= .str p/\e0= .str q)\/∃p q,d0= .int p/\e0= .int q) (hx:DV H x (.tup (d0::dr))) (hy:DV H y (.tup (e0::er))) (rx:RelV x u) (ry:RelV y v) {Q:Bool->Shared->Prop} {E:Value->Shared->Prop}
  (q:Q (D.lt (.tup (d0::dr)) (.tup (e0::er))) s):wpAny (model prog w) A (keyLt' (tuples' b) u v) Q E s:=by
 obtain⟨a,xs,q1,e1,e2⟩:=hx.ag;subst q1;cases rx;obtain⟨b',ys,q1,f1,f2⟩:=hy.ag;subst q1;cases ry;obtain⟨its,r1,o,ho,hc,k,An⟩:=ax hok e1;obtain⟨aJ,r2,o2,ow,uX,k2,rF⟩:=ax hok f1;obtain⟨x0,xr,rfl,E1,L9⟩:=e2.cons_inv;obtain⟨y0,yr,rfl,ML,NO⟩:=f2.cons_inv;cases r1 with
 | cons r10 r1r=>
  cases r2 with
  | cons r20 r2r=>
   rename_i u0 ur v0 vr;have rO:D.cC (d0::dr)<=n:=by unfold D.dep at hd;omega
   have Aq:D.gq (d0::dr) (e0::er):=by unfold D.et at hl;exact hl
   have zz:Zp A s (u0::ur) (v0::vr) (d0::dr) (e0::er):=vT hok hu (λd e x y u v hd2 cX Aa hy2 rx2 ry2=>AY hok n d e x y u v A hd2 hu cX Aa hy2 rx2 ry2) rO Aq e2 f2 (.cons r10 r1r) (.cons r20 r2r);refine kat_lt ho An ow rF ?_;have l1:(u0::ur).toArray.size=(d0::dr).length:=by rw[Pn,PM,PM,<-r1r.length,L9.length]
   have l2:(v0::vr).toArray.size=(e0::er).length:=by rw[Pn,PM,PM,<-r2r.length,NO.length]
   have q':Q (D.eO (d0::dr) (e0::er)) s:=by have z:=q;unfold D.lt at z;exact z
   refine Bz zz (λhb=>?_) (by rw[l1,l2];simp only[PM];omega) q';intro E';rcases hs hb with ⟨p,q2,rfl,rfl⟩ | ⟨p,q2,rfl,rfl⟩
   ·have z1:=E1.str_inv;have z2:=ML.str_inv;subst z1 z2;obtain⟨t,rfl⟩:=r10;obtain⟨t',rfl⟩:=r20;exact oneLt_str ⟨by unfold D.lt;rfl,rfl⟩
   ·have z1:=E1.int_inv;have z2:=ML.int_inv;subst z1 z2;obtain⟨t,rfl⟩:=r10;obtain⟨t',rfl⟩:=r20;exact oneLt_int ⟨by unfold D.lt;rfl,rfl⟩
def mh (x y:Value):keyLt' oneType' x y=oneLt' true x y:=rfl
def Ba (hok:eh P w H s.heap) {n:Nat} (hu:A.units + n < cLine) (k:SK) {d e:D} {x y:V} {u v:Value} (hd:D.dep d<=n + 1) (hl:D.et d e) (fd:k.ok d) (fe:k.ok e) (hx:DV H x d) (hy:DV H y e) (rx:RelV x u) (ry:RelV y v) {Q:Bool->Shared->Prop} {E:Value->Shared->Prop}
  (q:Q (D.lt d e) s):wpAny (model prog w) A (keyLt' k.κ u v) Q E s:=by
 cases k with
 | tt=>obtain⟨f,r,rfl⟩:=fd;obtain⟨f',r',rfl⟩:=fe;exact nE (b:=false) hok hu hd hl (λz=>nomatch z) hx hy rx ry q
 | ts=>obtain⟨f,r,rfl⟩:=fd;obtain⟨f',r',rfl⟩:=fe;exact nE hok hu hd hl (λ_=> .inl ⟨_,_,rfl,rfl⟩) hx hy rx ry q
 | ti=>obtain⟨f,r,rfl⟩:=fd;obtain⟨f',r',rfl⟩:=fe;exact nE hok hu hd hl (λ_=> .inr ⟨_,_,rfl,rfl⟩) hx hy rx ry q
 | s=>obtain⟨f,rfl⟩:=fd;obtain⟨f',rfl⟩:=fe;have z1:=hx.str_inv;have z2:=hy.str_inv;subst z1 z2;obtain⟨t,rfl⟩:=rx;obtain⟨t',rfl⟩:=ry;show wpAny _ _ (keyLt' oneType' _ _) _ _ _;rw[mh];unfold D.lt at q;exact oneLt_str q
 | i=>obtain⟨f,rfl⟩:=fd;obtain⟨f',rfl⟩:=fe;have z1:=hx.int_inv;have z2:=hy.int_inv;subst z1 z2;obtain⟨t,rfl⟩:=rx;obtain⟨t',rfl⟩:=ry;show wpAny _ _ (keyLt' oneType' _ _) _ _ _;rw[mh];unfold D.lt at q;exact oneLt_int q
def uF (hok:eh P w H s.heap) {k:SK} (hk:k= .tt\/k= .ts\/k= .ti):∀{xs:List V} {us:List Value} {ds:List D},aX H xs ds->aw xs us->(∀d∈ds,k.ok d)->
  ∃fs,KatTups s.heap us fs/\fs.length=us.length/\∀v∈fs,Looks (model prog w) s.heap (typeOf v) (.type k.f)
 | [],us,ds,_,r,_=>by cases r;exact⟨[],KatTups.nil,rfl,λv hv=>absurd hv (by simp)⟩
 | x::xs,us,ds,h,r,hf=>by
  cases r with
  | cons r0 rr=>
   cases ds with
   | nil=>unfold aX at h;exact h.elim
   | cons d ds=>
    unfold aX at h;obtain⟨fs,t,l,lk⟩:=uF hok hk h.2 rr λd hd=>hf d (Pq _ hd)
    have sh:∃d0 dr,d= .tup (d0::dr)/\((k= .ts/\∃p,d0= .str p)\/(k= .ti/\∃p,d0= .int p)\/(k= .tt/\∃p,d0= .tup p)):=by
     have z:=hf d Pu;rcases hk with rfl | rfl | rfl
     ·obtain⟨f,r,rfl⟩:=z;exact⟨_,_,rfl,.inr (.inr ⟨rfl,_,rfl⟩)⟩
     ·obtain⟨f,r,rfl⟩:=z;exact⟨_,_,rfl,.inl ⟨rfl,_,rfl⟩⟩
     ·obtain⟨f,r,rfl⟩:=z;exact⟨_,_,rfl,.inr (.inl ⟨rfl,_,rfl⟩)⟩
    obtain⟨d0,dr,rfl,zu⟩:=sh;obtain⟨a,ys,q1,e1,e2⟩:=h.1.ag;subst q1;cases r0;obtain⟨its,r1,o,ho,hc,kk,An⟩:=ax hok e1;obtain⟨x0,xr,rfl,E1,L9⟩:=e2.cons_inv;cases r1 with
    | cons r10 r1r=>
     rename_i u0 ur;refine⟨u0::fs,KatTups.cons ho hc An (by simp) t,by simp[l],λv hv=>?_⟩;rcases PC.mp hv with rfl | hv
     ·rcases zu with ⟨hb,p,rfl⟩ | ⟨hb,p,rfl⟩ | ⟨hb,p,rfl⟩
      ·have z1:=E1.str_inv;subst z1;obtain⟨t',rfl⟩:=r10;rw[hb];exact Looks.of_pure rfl
      ·have z1:=E1.int_inv;subst z1;obtain⟨t',rfl⟩:=r10;rw[hb];exact Looks.of_pure rfl
      ·obtain⟨a2,y2,q2,g1,g2⟩:=E1.ag;subst q2;cases r10;obtain⟨aJ,_,o2,ow,uX,_⟩:=ax hok g1;rw[hb];show Looks (model prog w) _ _ (Value.type "tuple");rw[<-uX];exact(Looks.ld ow).andThen .now
     ·exact lk v hv
def gY:∀{xs:List V} {us:List Value} {ds:List D},aX H xs ds->aw xs us->(∀d∈ds,SK.s.ok d)->∃ss,StrsAre us ss
 | [],us,ds,_,r,_=>by cases r;exact⟨[],.nil⟩
 | x::xs,us,ds,h,r,hf=>by
  cases r with
  | cons r0 rr=>
   cases ds with
   | nil=>unfold aX at h;exact h.elim
   | cons d ds=>
    unfold aX at h;obtain⟨ss,q⟩:=gY h.2 rr λd hd=>hf d (Pq _ hd)
    obtain⟨y,rfl⟩:=hf d Pu;have z1:=h.1.str_inv;subst z1;obtain⟨t,rfl⟩:=r0;exact⟨y::ss,.cons y t q⟩
def eD:∀{xs:List V} {us:List Value} {ds:List D},aX H xs ds->aw xs us->(∀d∈ds,SK.i.ok d)->∃ss,IntsAre us ss
 | [],us,ds,_,r,_=>by cases r;exact⟨[],.nil⟩
 | x::xs,us,ds,h,r,hf=>by
  cases r with
  | cons r0 rr=>
   cases ds with
   | nil=>unfold aX at h;exact h.elim
   | cons d ds=>
    unfold aX at h;obtain⟨ss,q⟩:=eD h.2 rr λd hd=>hf d (Pq _ hd)
    obtain⟨y,rfl⟩:=hf d Pu;have z1:=h.1.int_inv;subst z1;obtain⟨t,rfl⟩:=r0;exact⟨y::ss,.cons y t q⟩
def Ig (hok:eh P w H s.heap) (k:SK) {xs:List V} {us:List Value} {ds:List D} (hd:aX H xs ds) (r:aw xs us) (hf:∀d∈ds,k.ok d) (h2:2<=us.length) {Q:SortKind->Shared->Prop} {E:Value->Shared->Prop} (q:Q k.κ s):
  wpAny (model prog w) A (keyKind' us.toArray) Q E s:=by
 have tup:k= .tt\/k= .ts\/k= .ti->wpAny (model prog w) A (keyKind' us.toArray) Q E s:=λhk=>by obtain⟨fs,t,l,lk⟩:=uF (prog:=prog) hok hk hd r hf;refine kat_kind t (by omega) lk (by rcases hk with rfl | rfl | rfl <;> rfl) ?_;rcases hk with rfl | rfl | rfl <;> exact q
 cases k with
 | tt=>exact tup (.inl rfl)
 | ts=>exact tup (.inr (.inl rfl))
 | ti=>exact tup (.inr (.inr rfl))
 | s=>
  obtain⟨ss,hs⟩:=gY hd r hf
  match us,h2,hs with
  | v1::v2::vs,_,hs=>rw[keyKind_strs hs];exact Pl q
 | i=>
  obtain⟨ss,hs⟩:=eD hd r hf
  match us,h2,hs with
  | v1::v2::vs,_,hs=>rw[keyKind_ints hs];exact Pl q
end
def kU (ds:List D):Prop:=ds.length < 1000000/\(2<=ds.length->D.cC ds<=100/\(∃k:SK,∀d∈ds,k.ok d)/\∀d∈ds,∀e∈ds,D.et d e)
section
variable {X:Cx} {pins:List (Addr×Obj)} {σ:L2.St} {H:Hp}
def mD {s:Shared} {A:Around} {Q:PySem.Fin->Shared->Prop} {E:Value->Shared->Prop} (hu:A.units + 148 < cLine) (I:Inv X pins σ H s) {ys:List V} {its:List Value} {ds:List D} (rv:aw ys its) (oA:aX H ys ds) (hc:kU ds)
  (q:∀(l:Addr) (zs:List V) (es:List D) (s':Shared),H l=none->aX H zs es->ia ds es->Inv X pins σ (upd H l (.lst zs)) s'->Q (.done (.ret (.ref l))) s'):
  wpAny (model X.prog X.w) A (do let l<-newList its;let _<-holding [l] (call (.builtin "list.sort") [l] []);ret l) Q E s:=by
 obtain⟨hlen,hc⟩:=hc;have hl:=rv.length;have cX:=oA.length;have tF:its.length<=sizeLine:=by rw[sizeLine_eq];omega
 refine Pi (wpAny_newList ?_ (by simpa using tF));have Iy:(s.heap.push (seqObj "list" its.toArray 0)).get? s.heap.objs.size=some (seqObj "list" its.toArray 0):=Pv _ rfl;show wpAny _ _ _ _ _ {s with heap:=s.heap.push (seqObj "list" its.toArray 0)};have ne:∀b o,s.heap.get? b=some o->b≠s.heap.objs.size:=λb o e=>P5 (Py e)
 refine Pi (wpAny_holding (wpAny_call_entry slot_list_sort (s:={s with heap:=s.heap.push (seqObj "list" its.toArray 0)}) ⟨_,Iy,rfl⟩ entry_list_sort
  (yP (s:={s with heap:=s.heap.push (seqObj "list" its.toArray 0)}) (O:=FK) (key:=λi=>ds.getD i (.int 0)) Iy (by omega) (λh2 h' kk=>?_) λp h' e hp IJ kk hD=>?_) (args_list_sort _)))
 ·obtain⟨A4,⟨k,hf⟩,uL⟩:=hc (by omega);have Bf:eh X.prog X.w H h':=I.hok.kept λb o e=>kk b o (ne b o e) (Pk _ e)
  refine⟨k.κ,λQ' E' q'=>Ig (s:={s with heap:=h'}) Bf k oA rv hf (by omega) q',λi j hi hj C hC=>?_,λi j hi hj eij=>?_⟩
  ·obtain⟨di,Hd,IR⟩:=oA.get (i:=i) (x:=ys[i]'(by omega)) (by simp);obtain⟨dj,Jb,LU⟩:=oA.get (i:=j) (x:=ys[j]'(by omega)) (by simp);obtain⟨ui,K5,LM⟩:=rv.get (i:=i) (x:=ys[i]'(by omega)) (by simp);obtain⟨uj,Jo,Ln⟩:=rv.get (i:=j) (x:=ys[j]'(by omega)) (by simp);unfold kas_ask;rw[show its.getD i Value.none=ui by simp[K5],show its.getD j Value.none=uj by simp[Jo]];have ki:ds.getD i (.int 0)=di:=by simp[Hd]
   have kj:ds.getD j (.int 0)=dj:=by simp[Jb]
   have mi:di∈ds:=List.mem_of_getElem? Hd;have mj:dj∈ds:=List.mem_of_getElem? Jb;refine Ba (s:={s with heap:=h'}) Bf (n:=100) (by show A.units + 1 + 100 < cLine;omega) k (Pz (nc Hd) (by omega)) (uL di mi dj mj) (hf di mi) (hf dj mj) IR LU LM Ln ?_;have L5:C (D.lt (ds.getD i (.int 0)) (ds.getD j (.int 0))) {s with heap:=h'}:=hC;rw[ki,kj] at L5;exact L5
  ·obtain⟨di,Hd,IR⟩:=oA.get (i:=i) (x:=ys[i]'(by omega)) (by simp);obtain⟨dj,Jb,LU⟩:=oA.get (i:=j) (x:=ys[j]'(by omega)) (by simp);obtain⟨ui,K5,LM⟩:=rv.get (i:=i) (x:=ys[i]'(by omega)) (by simp);obtain⟨uj,Jo,Ln⟩:=rv.get (i:=j) (x:=ys[j]'(by omega)) (by simp);rw[show its.getD i Value.none=ui by simp[K5],show its.getD j Value.none=uj by simp[Jo]] at eij;subst eij;have ki:ds.getD i (.int 0)=di:=by simp[Hd]
   have kj:ds.getD j (.int 0)=dj:=by simp[Jb]
   show ds.getD i (.int 0)=ds.getD j (.int 0);rw[ki,kj];rw[LM.inj Ln] at IR;exact IR.inj LU
 ·refine⟨_,rfl,Pl ?_⟩;have lH:p.toList.Perm (List.range its.length):=hp;have vL:∀i∈p.toList,i < ys.length:=λi hi=>by have:=Qk.mp (lH.mem_iff.mp hi);omega
  have new:bO X.prog X.w (upd H s.heap.objs.size (.lst (p.toList.map λi=>ys.getD i .bo))) h' s.heap.objs.size (.lst (p.toList.map λi=>ys.getD i .bo)):=
   ⟨by rw[Px,lH.length_eq,List.length_range];rw[sizeLine_eq];omega,_,e,pQ rv vL,hD⟩
  have I2:=I.laid (t':=s.toks) (a:=s.heap.objs.size) (λb o q=>kk b o (ne b o q) (Pk _ q)) (Pt _) new;refine q _ _ (p.toList.map λi=>ds.getD i (.int 0)) _ (I.hok.fresh (Pt _)) (oA.map vL) ⟨?_,?_⟩ I2
  ·have e1:=lH.map (λi=>ds.getD i (.int 0));rw[show its.length=ds.length by omega] at e1;rw[kQ] at e1;exact e1
  ·have Kn:∀i j,i<=j->j < its.length->D.lt (ds.getD (p.getD j 0) (.int 0)) (ds.getD (p.getD i 0) (.int 0))=false:=IJ;have ib:p.toList.length=its.length:=by rw[lH.length_eq,List.length_range]
   rw[List.pairwise_map,List.pairwise_iff_getElem];intro i j hi hj gg;have:=Kn i j (by omega) (by omega);rw[show p.getD i 0=p.toList[i] by simp at hi;simp[Array.getD,hi],show p.getD j 0=p.toList[j] by simp at hj;simp[Array.getD,hj]] at this;exact this
end
def C9 (K:PySem.W.Frag):List V->Hp->VK->Prop:=λxs H Q=>∃a ys ds,xs=[.ref a]/\(c6 K H a ys\/ek K H a ys)/\aX H ys ds/\kU ds/\∀l zs es,H l=none->aX H zs es->ia ds es->Q (.ref l) (upd H l (.lst zs))
def mM {X:Cx} (hu:X.A.units + 150 < cLine):eG X (.builtin "sorted") (C9 X.K):=by
 intro pins s σ H xs us Q I r h;obtain⟨a,ys,ds,rfl,hq,oA,hc,q⟩:=h;obtain⟨u,rfl,ru⟩:=r.one;cases ru;have sh:∃(its:List Value) (T:String) (o:Obj) (n:Nat),aw ys its/\(T="list"\/T="tuple")/\s.heap.get? a=some o/\o.cls= .type T/\o.data= .seq its.toArray n:=by
  rcases hq with hq | hq
  ·obtain⟨its,rv,⟨o,n,ho,hc,_,hd⟩,_⟩:=I.list hq;exact⟨its,"list",o,n,rv,.inl rfl,ho,hc,hd⟩
  ·obtain⟨its,rv,⟨o,ho,hc,n,hd⟩,_⟩:=I.tuple hq;exact⟨its,"tuple",o,n,rv,.inr rfl,ho,hc,hd⟩
 obtain⟨its,T,o,n,rv,hT,ho,uM,hd⟩:=sh;have tF:its.length<=sizeLine:=by rw[sizeLine_eq,<-rv.length,oA.length];have:=hc.1;omega
 refine Calls.call_function_entry kind_sorted plain_sorted entry_sorted (args_sorted1 _) ?_;unfold Builtin.«sorted»;refine Pi (m:=checkCount "sorted" 1 1 _) (Pl (Pi (wpAny_collect_seq a hT ho uM hd (λh1 k1=>?_) (by rw[Pn];exact tF))));have I1:Inv X pins σ H {s with heap:=h1}:=I.kept (t':=s.toks) k1;exact mD (A:=X.A.in1) (by show X.A.units + 1 + 148 < cLine;omega) I1 rv oA hc λl zs es s' hl hz hso I2=>⟨_,rfl,.ref l,_,I2,rfl,q l zs es hl hz hso⟩
def oG {H:Hp}:∀ks:List Str,aX H (ks.map V.str) (ks.map D.str)
 | []=>aX.nil
 | k::ks=>aX.cons DV.str (oG ks)
def l9:∀ks:List Str,D.cC (ks.map D.str)<=0
 | []=>by show D.cC []<=0;unfold D.cC;exact Pt _
 | k::ks=>by
  have:=l9 ks;show D.cC (D.str k::ks.map D.str)<=0;unfold D.cC;have e:D.dep (D.str k)=0:=by unfold D.dep;rfl
  omega
def rH {X:Cx} (hu:X.A.units + 150 < cLine) (hc:X.calm=true) {pins:List (Addr×Obj)} {s:Shared} {σ:L2.St} {H:Hp} {S:Addr} {ks:List Str} {Q:VK} (I:Inv X pins σ H s) (hS:cD X.prog X.w s.heap S ks) (hlen:ks.length < 1000000)
  (q:∀l zs es,H l=none->aX H zs es->ia (ks.map D.str) es->Q (.ref l) (upd H l (.lst zs))):wpAny (model X.prog X.w) X.A (call (.builtin "sorted") [.ref S]) (EP X pins σ Q) X.xe s:=by
 refine Calls.call_function_entry kind_sorted plain_sorted entry_sorted (args_sorted1 _) ?_;unfold Builtin.«sorted»;refine Pi (m:=checkCount "sorted" 1 1 _) (Pl (Pi (qH (I.ok.hd hc) hS λh' d' tk vs c7 kk p1 p2=>?_)));have I1:Inv X pins σ H {s with heap:=h',drawn:=d',toks:=tk}:=by
  refine I.step (g':=s.gens) (ch:=[]) (λb hb=>by cases hb) (λb o _ _ _ e _=>kk b o e) (λb o _ _ _ e _=>⟨o.slots,kk b o e⟩)
   (λb o _ e n=>n) (λb o _ e=>⟨o,kk b o e⟩) (λb zs e=>e) (λb o u e=>e) (λb ps e=>⟨#[],by rw[e];simp⟩) (λm hm=>?_) (λb u q=>?_) I.bare
  ·obtain⟨o,cQ,ep,ho,rr⟩:=hm;exact⟨o,cQ,ep,kk _ o ho,rr⟩
  ·exact(I.hok b u q).iR (λc v _ z=>kk c v z) (λc z=>z) λc zs z=>z
 have oA:aX H (c7.map V.str) (c7.map D.str):=oG c7;refine mD (A:=X.A.in1) (by show X.A.units + 1 + 148 < cLine;omega) I1 p2 oA ⟨by rw[Px,p1.length_eq];exact hlen,λ_=>⟨?_,⟨.s,λd hd=>?_⟩,λd hd e he=>?_⟩⟩ λl zs es s' hl hz hso I2=>⟨_,rfl,.ref l,_,I2,rfl,q l zs es hl hz ⟨hso.1.trans (p1.map _),hso.2⟩⟩
 ·exact Pz (l9 c7) (Nat.zero_le _)
 ·obtain⟨x,_,rfl⟩:=P9.mp hd;exact⟨x,rfl⟩
 ·obtain⟨x,_,rfl⟩:=P9.mp hd;obtain⟨y,_,rfl⟩:=P9.mp he;unfold D.et;trivial
end Mx
end
section
namespace Mx
open PySem PySem.W PySem.Spec PyProof.Rows L2
abbrev q9 (h:Heap) (z TI TO p:Addr) (b:Bool):Prop:=
 h.get? z=some {cls:= .type "zip",dict:=none,data:= .fields #[rawInt p,.bool b,.bool false,.ref TI,.ref TO],slots:=#[]}
section
variable {prog:Program} {w:World} {A:Around} {E:Value->Shared->Prop} {s:Shared}
def wZ {M:Model} {a:Addr} {r:Option Obj} {Q:Option Obj->Shared->Prop} (h:s.heap.get? a=r) (q:Q r s):wpAny M A (loadIfAlive a) Q E s:=λΓ p _=>by show Sem.wp M Γ (.loadIfAlive a .pure) _ _ p s;rw[Sem.wp_loadIfAlive,h];exact q
def qi {z TI TO p:Addr} {fb:Bool} {o:Obj} {Q:Bool->Shared->Prop} (hz:q9 s.heap z TI TO p fb) (hp:s.heap.get? p=some o) (h:∀h',q9 h' z TI TO p true->Heap.SameBut z s.heap h'->Q false {s with heap:=h'}):
  wpAny (model prog w) A (Builtin.SmallTypes.ownedTupleIsFree (.ref z)) Q E s:=by
 unfold Builtin.SmallTypes.ownedTupleIsFree;refine Pi (wpAny_field hz rfl (x:=rawInt p) rfl ?_);show wpAny _ _ (loadIfAlive ((p:Nat):Int).toNat >>=_) _ _ s;rw[Int.toNat_natCast];refine Pi (wZ (r:=some o) hp ?_);show wpAny _ _ (if false=true then _ else _) _ _ s;rw[if_neg (by simp)];refine Pi (wpAny_field hz rfl (x:= .bool fb) rfl ?_);cases fb with
 | false=>show wpAny _ _ (setField (.ref z) 1 (.bool true) >>=_) _ _ s;exact Pi (P7 hz (by simp) λh' z' e'=>Pl (h h' z' e'))
 | true=>
  show wpAny _ _ (pure false) _ _ s;have e:s={s with heap:=s.heap}:=by cases s;rfl
  rw[e];exact Pl (h s.heap hz (Heap.SameBut.refl z s.heap))
def u4 {b1 b2:Bool} {z TI TO i1 i2 l1 l2 p:Addr} {k1 k2:Nat} {xs ys:Array Value} {x y:Value} {fb:Bool} {o:Obj} {Q:Option Value->Shared->Prop} (D:iI z TI TO i1 i2) (O1:bG z TO i1 i2 l1) (O2:bG z TO i1 i2 l2)
  (hz:q9 s.heap z TI TO p fb) (hp:s.heap.get? p=some o) (Cv:IsPair s.heap TI (.ref i1) (.ref i2)) (h1:a8 b1 s.heap i1 l1 k1) (h2:a8 b2 s.heap i2 l2 k2) (cy:b9 b1 s.heap l1 xs) (cX:b9 b2 s.heap l2 ys) (hx:xs[k1]?=some x) (hy:ys[k2]?=some y)
  (hQ:∀h',q9 h' z TI TO p true->a8 b1 h' i1 l1 (k1 + 1)->a8 b2 h' i2 l2 (k2 + 1)->IsPair h' s.heap.objs.size x y->
   (∀c o,c≠z->c≠i1->c≠i2->s.heap.get? c=some o->h'.get? c=some o)->Q (some (.ref s.heap.objs.size)) {s with heap:=h'}):wpAny (model prog w) A (pyNext (.ref z)) Q E s:=by
 have hT:s.TypeIs (.ref z) "zip":=⟨_,hz,rfl⟩;unfold pyNext;refine Pi (wpAny_attempt (wpAny_callSpecial?_slot (name:=Str.ofString "__next__") hT F.slot_zip_next (wpAny_call_entry F.slot_zip_next hT F.entry_zip_next ?_ (F.args_zip_next_1 _))));refine(show wpAny _ _ (field (.ref z) 2 >>=_) _ _ _ from Pi (wpAny_field hz rfl (x:= .bool false) rfl (show wpAny _ _ (field (.ref z) 3 >>=_) _ _ _ from Pi (wpAny_field hz rfl (x:= .ref TI) rfl (Pi (wpAny_seqItems Cv rfl (show wpAny _ _ (Builtin.SmallTypes.ownedTupleIsFree (.ref z) >>=_) _ _ _ from Pi ?_)))))));refine qi hz hp λg1 z1 e1=>?_
 rw[if_neg (by simp)];dsimp only;rw[<-Array.forIn_toList];simp only[List.forIn_cons,List.forIn_nil];refine Pi (Pi (Pi (wpAny_holding (show wpAny _ _ (Builtin.SmallTypes.nextOf (.ref i1) >>=_) _ _ _ from Pi (bT (h1.at λo q=>e1.extBut _ o D.i1z q) (cy.at λo q=>e1.extBut _ o O1.z q) hx λg2 j1 e2=>Pl ?_)))));refine Pl ?_;refine Pi (Pi (wpAny_holding (show wpAny _ _ (Builtin.SmallTypes.nextOf (.ref i2) >>=_) _ _ _ from Pi (bT (h2.at λo q=>e2.extBut _ o D.i12.symm (e1.extBut _ o D.i2z q)) (cX.at λo q=>e2.extBut _ o O2.a (e1.extBut _ o O2.z q)) hy λg3 j2 e3=>Pl ?_))));refine Pl (Pl ?_);have sz:g3.objs.size=s.heap.objs.size:=by rw[e3.1,e2.1,e1.1]
 have z3:q9 g3 z TI TO p true:=e3.extBut _ _ D.i2z.symm (e2.extBut _ _ D.i1z.symm z1);have old:∀c o,c≠z->c≠i1->c≠i2->s.heap.get? c=some o->g3.get? c=some o:=λc o c1 c3 c4 q=>e3.extBut _ _ c4 (e2.extBut _ _ c3 (e1.extBut _ _ c1 q))
 show wpAny _ _ (newTuple [x,y] >>=_) _ _ _;refine Pi (wpAny_newTuple ?_);refine Pl ⟨_,rfl,Pl ?_⟩;show Q (some (.ref g3.objs.size)) {s with heap:=g3.push {cls:= .type "tuple",data:= .seq #[x,y]}};rw[sz];refine hQ _ (Pk _ z3) (j1.at λo q=>Pk _ (e3.extBut _ o D.i12 q)) (j2.at λo q=>Pk _ q) ?_ λc o c1 c2 c3 q=>Pk _ (old c o c1 c2 c3 q)
 have:=Pv g3 (o:={cls:= .type "tuple",data:= .seq #[x,y]}) rfl;rw[sz] at this;exact this
def xQ {b1 b2:Bool} {z TI TO i1 i2 l1 l2 p:Addr} {k1 k2:Nat} {xs ys:Array Value} {fb:Bool} {o:Obj} {Q:Option Value->Shared->Prop} (hh:A.handled=none) (D:iI z TI TO i1 i2) (O1:bG z TO i1 i2 l1) (O2:bG z TO i1 i2 l2)
  (hz:q9 s.heap z TI TO p fb) (hp:s.heap.get? p=some o) (Cv:IsPair s.heap TI (.ref i1) (.ref i2)) (h1:a8 b1 s.heap i1 l1 k1) (h2:a8 b2 s.heap i2 l2 k2) (cy:b9 b1 s.heap l1 xs) (cX:b9 b2 s.heap l2 ys) (oH:xs[k1]?=none\/ys[k2]?=none)
  (hQ:∀h',(∀c o,c≠z->c≠i1->c≠i2->s.heap.get? c=some o->h'.get? c=some o)->Q none {s with heap:=h'}):wpAny (model prog w) A (pyNext (.ref z)) Q E s:=by
 have hT:s.TypeIs (.ref z) "zip":=⟨_,hz,rfl⟩;have stop:∀(h':Heap) (e:Addr),(∀c o,c≠z->c≠i1->c≠i2->s.heap.get? c=some o->h'.get? c=some o)->(∃o,h'.get? e=some o/\o.cls= .type "StopIteration")->wpAny (model prog w) A (isInstance (.ref e) (.type "StopIteration")) (λr s'=>r=true/\Q none s') E {s with heap:=h'}:=λh' e kk he=>by obtain⟨o,ho,hc⟩:=he;exact wpAny_isInstance (T:="StopIteration") (b:=true) ⟨o,ho,hc⟩ isSubtype_stop ⟨rfl,hQ _ kk⟩
 unfold pyNext;refine Pi (wpAny_attempt (wpAny_callSpecial?_slot (name:=Str.ofString "__next__") hT F.slot_zip_next (wpAny_call_entry F.slot_zip_next hT F.entry_zip_next ?_ (F.args_zip_next_1 _))));refine(show wpAny _ _ (field (.ref z) 2 >>=_) _ _ _ from Pi (wpAny_field hz rfl (x:= .bool false) rfl (show wpAny _ _ (field (.ref z) 3 >>=_) _ _ _ from Pi (wpAny_field hz rfl (x:= .ref TI) rfl (Pi (wpAny_seqItems Cv rfl (show wpAny _ _ (Builtin.SmallTypes.ownedTupleIsFree (.ref z) >>=_) _ _ _ from Pi ?_)))))));refine qi hz hp λg1 z1 e1=>?_
 rw[if_neg (by simp)];dsimp only;rw[<-Array.forIn_toList];simp only[List.forIn_cons,List.forIn_nil];cases hx:xs[k1]? with
 | none=>refine Pi (Pi (Pi (wpAny_holding (show wpAny _ _ (Builtin.SmallTypes.nextOf (.ref i1) >>=_) _ _ _ from Pi (d5 hh (h1.at λo q=>e1.extBut _ o D.i1z q) (cy.at λo q=>e1.extBut _ o O1.z q) hx λg2 e e2 he=>?_)))));refine Pi (wpAny_mono (stop g2 e (λc o c1 c3 _ x=>e2 _ _ c3 (e1.extBut _ _ c1 x)) he) (λr s' q=>?_) λ_ _ q=>q);obtain⟨rfl,q⟩:=q;exact Pl q
 | some x=>
  have hy:ys[k2]?=none:=by rcases oH with h | h;rw[hx] at h;cases h;exact h
  refine Pi (Pi (Pi (wpAny_holding (show wpAny _ _ (Builtin.SmallTypes.nextOf (.ref i1) >>=_) _ _ _ from Pi (bT (h1.at λo q=>e1.extBut _ o D.i1z q) (cy.at λo q=>e1.extBut _ o O1.z q) hx λg2 j1 e2=>Pl ?_)))));refine Pl ?_;refine Pi (Pi (wpAny_holding (show wpAny _ _ (Builtin.SmallTypes.nextOf (.ref i2) >>=_) _ _ _ from Pi (d5 hh (h2.at λo q=>e2.extBut _ o D.i12.symm (e1.extBut _ o D.i2z q)) (cX.at λo q=>e2.extBut _ o O2.a (e1.extBut _ o O2.z q)) hy λg3 e e3 he=>?_))));refine Pi (wpAny_mono (stop g3 e (λc o c1 c3 c4 x=>e3 _ _ c4 (e2.extBut _ _ c3 (e1.extBut _ _ c1 x))) he) (λr s' q=>?_) λ_ _ q=>q);obtain⟨rfl,q⟩:=q;exact Pl q
end
def EL (b1 b2:Bool) (S z TI TO i1 i2 l1 l2:Addr) (i:Nat) (h:Heap):Prop:=
 IsPair h TI (.ref i1) (.ref i2)/\a8 b1 h i1 l1 i/\a8 b2 h i2 l2 i/\
 ((IsZip h z TI TO .none/\∃a b,IsPair h TO a b)\/∃p fb o,q9 h z TI TO p fb/\h.get? p=some o/\p∉[z,TO,i1,i2,S]/\∃oT,h.get? TO=some oT)
def EL.keep {b1 b2:Bool} {S z TI TO i1 i2 l1 l2:Addr} {i:Nat} {h h':Heap} (st:EL b1 b2 S z TI TO i1 i2 l1 l2 i h) (hS:S∉[z,TI,TO,i1,i2]) (kk:∀b o,b≠S->h.get? b=some o->h'.get? b=some o):EL b1 b2 S z TI TO i1 i2 l1 l2 i h':=by
 simp only[PC,PD,or_false,not_or] at hS;obtain⟨n1,n2,n3,n4,n5⟩:=hS;obtain⟨s1,s2,s3,s4⟩:=st;refine⟨kk _ _ (Ne.symm n2) s1,s2.at λo e=>kk _ o (Ne.symm n4) e,s3.at λo e=>kk _ o (Ne.symm n5) e,?_⟩;rcases s4 with ⟨z1,a,b,t1⟩ | ⟨p,fb,o,z1,p1,p2,oT,Gy⟩
 ·exact .inl ⟨kk _ _ (Ne.symm n1) z1,a,b,kk _ _ (Ne.symm n3) t1⟩
 ·refine .inr ⟨p,fb,o,kk _ _ (Ne.symm n1) z1,kk _ _ (λe=>p2 (by simp[e])) p1,p2,oT,kk _ _ (Ne.symm n3) Gy⟩
section
variable {prog:Program} {w:World} {A:Around} {E:Value->Shared->Prop} {s:Shared}
def Ag {b1 b2:Bool} {S z TI TO i1 i2 l1 l2:Addr} {i:Nat} {xs ys:Array Value} {x y:Value} {Q:Option Value->Shared->Prop} (D:iI z TI TO i1 i2) (O1:bG z TO i1 i2 l1) (O2:bG z TO i1 i2 l2) (hS:∃o,s.heap.get? S=some o)
  (st:EL b1 b2 S z TI TO i1 i2 l1 l2 i s.heap) (cy:b9 b1 s.heap l1 xs) (cX:b9 b2 s.heap l2 ys) (hx:xs[i]?=some x) (hy:ys[i]?=some y)
  (hQ:∀h',EL b1 b2 S z TI TO i1 i2 l1 l2 (i + 1) h'->IsPair h' s.heap.objs.size x y->(∀c o,c∉[z,TO,i1,i2]->s.heap.get? c=some o->h'.get? c=some o)->Q (some (.ref s.heap.objs.size)) {s with heap:=h'}):wpAny (model prog w) A (pyNext (.ref z)) Q E s:=by
 obtain⟨s1,s2,s3,s4⟩:=st;have nw:∀{b:Addr} {o:Obj},s.heap.get? b=some o->s.heap.objs.size≠b:=λe q=>Nat.lt_irrefl _ (q▸Py e)
 obtain⟨oS,hS⟩:=hS;obtain⟨o1,zv,_⟩:=s2.obj;obtain⟨o2,ow,_⟩:=s3.obj;rcases s4 with ⟨z1,a,b,t1⟩ | ⟨p,fb,o,z1,p1,p2,oT,Gy⟩
 ·refine lW D O1 O2 z1 s1 t1 s2 s3 cy cX hx hy λh' a1 a2 a3 a4 a5 a6=>hQ h' ⟨a6 _ _ D.TIz D.TITO D.TIi1 D.TIi2 s1,a3,a4,.inr ⟨s.heap.objs.size,false,_,a1,a5,?_,_,a2⟩⟩ a5 λc o hc e=>?_
  ·simp only[PC,PD,or_false,not_or];exact⟨nw z1,nw t1,nw zv,nw ow,nw hS⟩
  ·simp only[PC,PD,or_false,not_or] at hc;exact a6 c o hc.1 hc.2.1 hc.2.2.1 hc.2.2.2 e
 ·refine u4 D O1 O2 z1 p1 s1 s2 s3 cy cX hx hy λh' a1 a3 a4 a5 a6=>hQ h' ⟨a6 _ _ D.TIz D.TIi1 D.TIi2 s1,a3,a4,.inr ⟨p,true,o,a1,?_,p2,oT,a6 _ _ D.TOz D.TOi1 D.TOi2 Gy⟩⟩ a5 λc o hc e=>?_
  ·simp only[PC,PD,or_false,not_or] at p2;exact a6 p o p2.1 p2.2.2.1 p2.2.2.2.1 p1
  ·simp only[PC,PD,or_false,not_or] at hc;exact a6 c o hc.1 hc.2.2.1 hc.2.2.2 e
def CS {b1 b2:Bool} {S z TI TO i1 i2 l1 l2:Addr} {i:Nat} {xs ys:Array Value} {Q:Option Value->Shared->Prop} (hh:A.handled=none) (D:iI z TI TO i1 i2) (O1:bG z TO i1 i2 l1) (O2:bG z TO i1 i2 l2)
  (st:EL b1 b2 S z TI TO i1 i2 l1 l2 i s.heap) (cy:b9 b1 s.heap l1 xs) (cX:b9 b2 s.heap l2 ys) (oH:xs[i]?=none\/ys[i]?=none)
  (hQ:∀h',(∀c o,c∉[z,TO,i1,i2]->s.heap.get? c=some o->h'.get? c=some o)->Q none {s with heap:=h'}):wpAny (model prog w) A (pyNext (.ref z)) Q E s:=by
 obtain⟨s1,s2,s3,s4⟩:=st;rcases s4 with ⟨z1,a,b,t1⟩ | ⟨p,fb,o,z1,p1,p2,_⟩
 ·refine oM hh D O1 O2 z1 s1 t1 s2 s3 cy cX oH λh' a6=>hQ h' λc o hc e=>?_
  simp only[PC,PD,or_false,not_or] at hc;exact a6 c o hc.1 hc.2.1 hc.2.2.1 hc.2.2.2 e
 ·refine xQ hh D O1 O2 z1 p1 s1 s2 s3 cy cX oH λh' a6=>hQ h' λc o hc e=>?_
  simp only[PC,PD,or_false,not_or] at hc;exact a6 c o hc.1 hc.2.2.1 hc.2.2.2 e
end
section
variable {X:Cx} {pins:List (Addr×Obj)} {σ:L2.St} {b1 b2:Bool} {S z TI TO i1 i2 l1 l2:Addr} {xs ys:List V} {H0:Hp}
def Zd (xs ys:List V) (H:Hp) (ps:List Addr):Prop:=∀(j:Nat) (x y:V) (p:Addr),xs[j]?=some x->ys[j]?=some y->ps[j]?=some p->H p=some (.tup [x,y])
def xG {A:Around} {R:Result->Shared->Prop} {res:Value} (hh:A.in1.handled=none) (ap:iI z TI TO i1 i2) (pP:S∉[z,TI,TO,i1,i2]) (dN:xs.length<=sizeLine) (Nk:H0 S=none) (cy:H0 l1=some (ij b1 xs)) (cX:H0 l2=some (ij b2 ys)):
  ∀(k i:Nat) (s:Shared) (H:Hp) (ps:List Addr),min xs.length ys.length - i=k->i<=min xs.length ys.length->Inv X pins σ H s->(∀b∈[z,TI,TO,i1,i2],fW X pins H b)->EL b1 b2 S z TI TO i1 i2 l1 l2 i s.heap->
   H S=some (.lst (ps.map V.ref))->ps.length=i->Zd xs ys H ps->bu H0 H->
   (∀s' H' ps',Inv X pins σ H' s'->H' S=some (.lst (ps'.map V.ref))->ps'.length=min xs.length ys.length->Zd xs ys H' ps'->bu H0 H'->R (.ok (.ret res)) s')->
   codeAny (model X.prog X.w) A (.builtin "list.extend.loop" ⟨[.ref S,.ref z,res],[]⟩) R s:=by
 intro k
 induction k with
 | zero=>
  intro i s H ps hk hi I hf st hS vH hz td hR;have e1:=td _ _ cy;have e2:=td _ _ cX;obtain⟨cG,r1,p1⟩:=bj I e1;obtain⟨aJ,r2,p2⟩:=bj I e2;have ne:∀{l:Addr} {o:HO},H l=some o->∀b∈[z,TI,TO,i1,i2],l≠b:=λ {l o} hl b hb e=>by subst e;rw[(hf l hb).1] at hl;cases hl
  have off:∀{l:Addr} {o:HO},H l=some o->bG z TO i1 i2 l:=λ {l o} hl=>⟨ne hl z (by simp),ne hl TO (by simp),ne hl i1 (by simp),ne hl i2 (by simp)⟩
  have q1:=r1.length;have q2:=r2.length;refine codeAny_builtin PySem.F.entry_extend_loop ?_;rw[Around.under_plainId PySem.F.plain_extend_loop _];show wpAny _ A.in1 (pyNext (.ref z) >>=_) _ _ s;refine Pi (CS hh ap (off e1) (off e2) st p1 p2 (by simp;omega) λh' kk=>?_);refine Pl (hR _ H ps ?_ hS (by omega) hz td);have oo:∀b u,H b=some u->b∉[z,TI,TO,i1,i2]:=λb u e hb=>by rw[(hf b hb).1] at e;cases e
  have jr:∀b o,b∉[z,TI,TO,i1,i2]->s.heap.get? b=some o->h'.get? b=some o:=λb o hb e=>by simp only[PC,PD,or_false,not_or] at hb;exact kk b o (by simp only[PC,PD,or_false,not_or];exact⟨hb.1,hb.2.2.1,hb.2.2.2.1,hb.2.2.2.2⟩) e
  refine I.step (g':=s.gens) (d':=s.drawn) (t':=s.toks) (h':=h') (ch:=[z,TI,TO,i1,i2]) (λb hb=>⟨(hf b hb).2.2.2.1,(hf b hb).2.1,(hf b hb).2.2.2.2.1,(hf b hb).2.2.2.2.2⟩) (λb o _ _ hb e _=>jr b o hb e) (λb o _ _ hb e _=>⟨o.slots,jr b o hb e⟩)
   (λb o hb e n=>n) (λb o hb e=>⟨o,jr b o hb e⟩) (λb zs e=>e) (λb o u e=>e) (λb ps e=>⟨#[],by rw[e];simp⟩) (λm hm=>?_) (λb u e=>?_) I.bare
  ·obtain⟨o,cQ,ep,ho,rr⟩:=hm;exact⟨o,cQ,ep,jr _ o (λhb=>(hf _ hb).2.1 rfl) ho,rr⟩
  ·refine(I.hok b u e).iR (λc v hc q=>jr c v ?_ q) (λc q=>q) λc zs q=>q
   rcases hc with rfl | hc
   ·exact oo c u e
   ·exact oo c _ hc
 | succ k ih=>
  intro i s H ps hk hi I hf st hS vH hz td hR;have e1:=td _ _ cy;have e2:=td _ _ cX;obtain⟨cG,r1,p1⟩:=bj I e1;obtain⟨aJ,r2,p2⟩:=bj I e2;have LO:i < xs.length:=by omega
  have J3:i < ys.length:=by omega
  obtain⟨x,hx⟩:∃x,xs[i]?=some x:=⟨xs[i],by simp[LO]⟩;obtain⟨y,hy⟩:∃y,ys[i]?=some y:=⟨ys[i],by simp[J3]⟩;obtain⟨u1,sV,Ia⟩:=r1.get hx;obtain⟨u2,K2,LB⟩:=r2.get hy;have ne:∀{l:Addr} {o:HO},H l=some o->∀b∈[z,TI,TO,i1,i2],l≠b:=λ {l o} hl b hb e=>by subst e;rw[(hf l hb).1] at hl;cases hl
  have off:∀{l:Addr} {o:HO},H l=some o->bG z TO i1 i2 l:=λ {l o} hl=>⟨ne hl z (by simp),ne hl TO (by simp),ne hl i1 (by simp),ne hl i2 (by simp)⟩
  obtain⟨_,vU,nS,rS,Ll⟩:=I.hok S _ hS;refine codeAny_builtin PySem.F.entry_extend_loop ?_;rw[Around.under_plainId PySem.F.plain_extend_loop _];show wpAny _ A.in1 (pyNext (.ref z) >>=_) _ _ s;refine Pi (Ag ap (off e1) (off e2) ⟨_,Ll⟩ st p1 p2 (by simpa using sV) (by simpa using K2) λh' ah hp kk=>?_);have oo:∀b u,H b=some u->b∉[z,TI,TO,i1,i2]:=λb u e hb=>by rw[(hf b hb).1] at e;cases e
  have jr:∀b o,b∉[z,TI,TO,i1,i2]->s.heap.get? b=some o->h'.get? b=some o:=λb o hb e=>by simp only[PC,PD,or_false,not_or] at hb;exact kk b o (by simp only[PC,PD,or_false,not_or];exact⟨hb.1,hb.2.2.1,hb.2.2.2.1,hb.2.2.2.2⟩) e
  have lt:∀{b:Addr} {o:Obj},s.heap.get? b=some o->b≠s.heap.objs.size:=λe=>P5 (Py e)
  have j7:H s.heap.objs.size=none:=I.fresh;have Ml:S≠s.heap.objs.size:=lt Ll;have I2:Inv X pins σ (upd H s.heap.objs.size (.tup [x,y])) {s with heap:=h',toks:=s.toks}:=by
   refine I.step (g':=s.gens) (d':=s.drawn) (ch:=[z,TI,TO,i1,i2]) (λb hb=>⟨(hf b hb).2.2.2.1,(hf b hb).2.1,(hf b hb).2.2.2.2.1,(hf b hb).2.2.2.2.2⟩) (λb o _ _ hb e _=>jr b o hb e) (λb o _ _ hb e _=>⟨o.slots,jr b o hb e⟩)
    (λb o hb e n=>by rw[ao (lt e)];exact n) (λb o hb e=>⟨o,jr b o hb e⟩) (λb zs e=>by rw[ao (au e j7)];exact e) (λb o u e=>by rw[ao (au e j7)];exact e)
    (λb ps e=>⟨#[],by rw[ao (au e j7),e];simp⟩) (λm hm=>?_) (λb u e=>?_) I.bare
   ·obtain⟨o,cQ,ep,ho,rr⟩:=hm;exact⟨o,cQ,ep,jr _ o (λhb=>(hf _ hb).2.1 rfl) ho,rr⟩
   ·by_cases hb:b=s.heap.objs.size
    ·subst hb;rw[az] at e;cases e;exact⟨by show 2<=sizeLine;decide,[u1,u2],.cons Ia (.cons LB .nil),_,hp,rfl,0,rfl⟩
    ·rw[ao hb] at e;refine(I.hok b u e).iR (λc v hc q=>jr c v ?_ q) (λc q=>by rw[ao (au q j7)];exact q) λc zs q=>by rw[ao (au q j7)];exact q
     rcases hc with rfl | hc
     ·exact oo c u e
     ·exact oo c _ hc
  have jM:h'.get? S=some {cls:= .type "list",data:= .seq vU.toArray nS}:=jr S _ (oo S _ hS) Ll;have E9:vU.length=i:=by have:=rS.length;rw[Px] at this;omega
  show wpAny _ A.in1 (updateSeq S (·.push (.ref s.heap.objs.size)) >>=_) _ _ _;refine Pi (wpAny_updateSeq jM rfl (Pl ⟨plainId_quiet PySem.F.plain_extend_loop _,?_⟩) (by simp;omega) (by show (vU.toArray.push _).size<=sizeLine + 1;rw[Ql];simp;omega));have Je:upd H s.heap.objs.size (.tup [x,y]) S=some (.lst (ps.map V.ref)):=by rw[ao Ml];exact hS
  have kS:∀b u,b≠S->h'.get? b=some u->(h'.update S (Obj.mapSeq (·.push (.ref s.heap.objs.size)))).get? b=some u:=λb u hb e=>(P1 _ _ (Ne.symm hb)).trans e
  obtain⟨c,M7⟩:∃c,(h'.update S (Obj.mapSeq (·.push (.ref s.heap.objs.size)))).get? S=some {cls:= .type "list",data:= .seq (vU.toArray.push (.ref s.heap.objs.size)) c}:=⟨_,get?_update_seq jM λa=>a.push _⟩;have e3:(ps++[s.heap.objs.size]).map V.ref=ps.map V.ref++[.ref s.heap.objs.size]:=by simp
  have I3:Inv X pins σ (upd (upd H s.heap.objs.size (.tup [x,y])) S (.lst ((ps++[s.heap.objs.size]).map V.ref))) {s with heap:=h'.update S (Obj.mapSeq (·.push (.ref s.heap.objs.size))),toks:=s.toks}:=by
   refine I2.write (t':=s.toks) (e:=S) (by rw[Je];trivial) (.inl rfl) kS ⟨_,M7⟩ ⟨by simp;omega,vU++[.ref s.heap.objs.size],c,?_,?_⟩
   ·rw[e3];exact rS.append (.cons rfl .nil)
   ·rw[M7];simp
  have old:∀b o,H0 b=some o->upd (upd H s.heap.objs.size (.tup [x,y])) S (.lst ((ps++[s.heap.objs.size]).map V.ref)) b=some o:=λb o e=>by rw[ao (au e Nk),ao (au (td b o e) j7)];exact td b o e
  refine ih (i + 1) _ _ (ps++[s.heap.objs.size]) (by omega) (by omega) I3 (λb hb=>?_) (ah.keep pP λb o hb e=>kS b o hb e) az (by simp;omega) (λj x' y' p' h1 h2 h3=>?_) old hR
  ·obtain⟨f1,f2⟩:=hf b hb;have xS:b≠S:=λe=>pP (e▸hb)
   have Jt:∃o,s.heap.get? b=some o:=by
    obtain⟨s1,s2,s3,s4⟩:=st;obtain⟨o1,zv,_⟩:=s2.obj;obtain⟨o2,ow,_⟩:=s3.obj;simp only[PC,PD,or_false] at hb;rcases hb with rfl | rfl | rfl | rfl | rfl
    ·rcases s4 with ⟨z1,_⟩ | ⟨p,fb,o,z1,_⟩
     ·exact⟨_,z1⟩
     ·exact⟨_,z1⟩
    ·exact⟨_,s1⟩
    ·rcases s4 with ⟨_,_,_,t1⟩ | ⟨_,_,_,_,_,_,oT,Gy⟩
     ·exact⟨_,t1⟩
     ·exact⟨_,Gy⟩
    ·exact⟨_,zv⟩
    ·exact⟨_,ow⟩
   obtain⟨o,Jt⟩:=Jt;exact⟨by rw[ao xS,ao (lt Jt)];exact f1,f2⟩
  ·by_cases hj:j < ps.length
   ·rw[Qf hj] at h3;have q:=hz j x' y' p' h1 h2 h3;rw[ao (λe=>?_),ao (au q j7)]
    ·exact q
    ·subst e;rw[hS] at q;cases q
   ·rw[Qg (by omega)] at h3;have yk:j=ps.length:=by have:=(Pp.mp h3).1;simp at this;omega
    subst yk;rw[vH] at h1 h2;rw[hx] at h1;rw[hy] at h2;cases h1;cases h2;simp at h3;subst h3;rw[ao (Ne.symm Ml)];exact az
def Ls (ta:TA):TE:=λσ H Q=>ta σ H λvs H1=>∃b1 b2 l1 l2 xs ys,vs=[.ref l1,.ref l2]/\H1 l1=some (ij b1 xs)/\H1 l2=some (ij b2 ys)/\xs.length<=sizeLine/\
 ∀n ps H2,H1 n=none->bu H1 H2->H2 n=some (.lst (ps.map V.ref))->ps.length=min xs.length ys.length->Zd xs ys H2 ps->Q (.ref n) H2
def uJ:typeLookup (.type "zip") "__len__"=pure none:=by rw[typeLookup_type,builtinLookup_eq_fast];kernel_rfl
def qC:typeLookup (.type "zip") "__length_hint__"=pure none:=by rw[typeLookup_type,builtinLookup_eq_fast];kernel_rfl
def r8 {a b:Expr} {ta:TA} {p p2 pos fA:Pos} (hc:X.calm=true) (hg:Gl X "list") (hm:X.mg "list"=none) (oV:Gl X "zip") (zk:X.mg "zip"=none) (ha:PA X [a,b] ta)
  (hs:starEach [a,b] X.env=[(false,eval a X.env),(false,eval b X.env)]) (se:starEach [b] X.env=[(false,eval b X.env)]) (qD:starEach [.Call (.Name "zip" p2) [a,b] [] fA] X.env=[(false,eval (.Call (.Name "zip" p2) [a,b] [] fA) X.env)]:=by rfl):
  PE X (.Call (.Name "list" p) [.Call (.Name "zip" p2) [a,b] [] fA] [] pos) (Ls ta):=by
 intro pins s σ H Q I h;refine wpAny_Call_Name_kw (dz I hg hm PyProof.Rows.boot_list ?_ (by decide) (by decide));refine PyProof.Rows.callWith_type1 ?_ (by rw[qD];rfl) (by rfl);rw[qD];show wpAny _ _ (spliced ((false,eval (.Call (.Name "zip" p2) [a,b] [] fA) X.env)::backTo pos [])) _ _ s;refine Calls.spliced_cons ?_;refine Call_ (dz I oV zk boot_zip (PyProof.Rows.callWith_type1 (bw (ha fA pins s σ H _ I h) λus s1 ⟨vs,H1,I1,r1,q1⟩=>?_) (by rw[hs,se]) (by rw[se];rfl)));obtain⟨b1,b2,l1,l2,xs,ys,e,e1,e2,dN,q⟩:=q1;subst e;obtain⟨u,v,rfl,ru,rv⟩:=r1.two;cases ru;cases rv;obtain⟨cG,_,p1⟩:=bj I1 e1;obtain⟨aJ,_,Nm⟩:=bj I1 e2;refine lT p1 Nm λh' g1 g2 g3 g4 g5 kk=>?_
 have I2:Inv X pins σ H1 {s1 with heap:=h'}:=I1.kept (t':=s1.toks) kk;refine Calls.spliced_nil ?_;generalize hN:s1.heap.objs.size=N at g1 g2 g3 g4 g5 ⊢;have ap:iI (N + 4) (N + 2) (N + 3) N (N + 1):=by
  refine⟨?_,?_,?_,?_,?_,?_,?_,?_,?_,?_⟩
  iterate 10 (first | (apply P5;omega) | (apply Nat.ne_of_gt;omega))
 refine callType_codes (s:={s1 with heap:=h'}) (Q₁:=λobj s₁=>obj= .ref h'.objs.size/\s₁={s1 with heap:=h'.push {cls:= .type "list",data:= .seq #[]}}) PySem.F.called_list (PySem.F.typeCall_list_1 _) PySem.F.entry_list_init
  (code_list_new _ ⟨rfl,rfl⟩) λobj s₁ h₁=>?_
 obtain⟨rfl,rfl⟩:=h₁;generalize hS:h'.objs.size=S;have Nt:N + 4 < S:=by rw[<-hS];exact Py g1
 generalize hh2:h'.push {cls:= .type "list",data:= .seq #[]}=h2;have k2:∀b o,h'.get? b=some o->h2.get? b=some o:=λb o e=>by rw[<-hh2];exact Pk _ e
 have t2:h2.get? S=some (seqObj "list" #[] 0):=by rw[<-hh2,<-hS];exact Pv _ rfl
 have JN:∀b o,h'.get? b=some o->b≠S:=λb o e=>by rw[<-hS];exact P5 (Py e)
 refine⟨⟨_,t2,rfl⟩,PySem.F.args_list_init_2 _ _,?_⟩;show wpAny _ _ (do let old<-Builtin.List.listItems (.ref S);Builtin.List.listUpdate (.ref S) (λ_=>#[]);letGo old.toList.reverse;Builtin.List.listExtendWith (.ref S) (.ref (N + 4)) .none) _ _ _;refine Pi (listItems_at (s:={s1 with heap:=h2}) t2 rfl (Pi (listUpdate_at (s:={s1 with heap:=h2}) t2 rfl ?_ (by decide) (by decide))));obtain⟨c3,t3⟩:∃c,(h2.update S (Obj.mapSeq λ_=>(#[]:Array Value))).get? S=some (seqObj "list" #[] c):=⟨_,get?_update_seq t2 λ_=>#[]⟩;generalize Im:h2.update S (Obj.mapSeq λ_=>(#[]:Array Value))=h3 at t3 ⊢;have k3:∀b o,h'.get? b=some o->h3.get? b=some o:=λb o e=>by rw[<-Im];exact(P1 _ _ (Ne.symm (JN b o e))).trans (k2 b o e)
 refine Pi (wpAny_letGo ?_);have hT:∀{tk:Nat},Shared.TypeIs {s1 with heap:=h3,toks:=tk} (.ref (N + 4)) "zip":=⟨_,k3 _ _ g1,rfl⟩;have Kj:Builtin.List.listSameRef (.ref S) (.ref (N + 4))=false:=by simp[Builtin.List.listSameRef];exact Nat.ne_of_gt Nt
 unfold Builtin.List.listExtendWith;refine Pi (wpAny_typeOf (s:={s1 with heap:=h3}) hT ?_);rw[if_neg (by rw[Kj];decide)];refine Pi (wpAny_pyIter_zip (s:={s1 with heap:=h3}) (k3 _ _ g1) ?_);refine Pi (wpAny_holding ?_);unfold Builtin.List.listLengthHint;refine Pi (wpAny_specialOf (s:={s1 with heap:=h3}) hT uJ ?_);show wpAny _ _ (specialOf (Value.ref (N + 4)) (Str.ofString "__length_hint__") >>=_) _ _ _;refine Pi (wpAny_specialOf (s:={s1 with heap:=h3}) hT qC ?_);refine Pl ?_;rw[if_pos (by decide)];refine Pi (wpAny_rule (Pi ?_));unfold Builtin.List.listTouch;refine Pi (listUpdate_at (s:={s1 with heap:=h3}) t3 rfl ?_ (by decide) (by decide));obtain⟨c4,t4⟩:∃c,(h3.update S (Obj.mapSeq λx=>x.push .none)).get? S=some (seqObj "list" #[.none] c):=⟨_,get?_update_seq t3 λx=>x.push .none⟩;generalize hh4:h3.update S (Obj.mapSeq λx=>x.push .none)=h4 at t4 ⊢;refine listUpdate_at (s:={s1 with heap:=h4}) t4 rfl ?_ (by decide) (by decide);obtain⟨c5,t5⟩:∃c,(h4.update S (Obj.mapSeq λx=>x.pop)).get? S=some (seqObj "list" #[] c):=⟨_,get?_update_seq t4 λx=>x.pop⟩;generalize hh5:h4.update S (Obj.mapSeq λx=>x.pop)=h5 at t5 ⊢;have k5:∀b o,h'.get? b=some o->h5.get? b=some o:=λb o e=>by rw[<-hh5,<-hh4];exact(P1 _ _ (Ne.symm (JN b o e))).trans ((P1 _ _ (Ne.symm (JN b o e))).trans (k3 b o e))
 have EH:H1 S=none:=I2.hok.fresh (by rw[<-hS];exact Pt _);have I5:Inv X pins σ (upd H1 S (.lst [])) {s1 with heap:=h5,toks:=s1.toks}:=I2.laid (t':=s1.toks) (a:=S) k5 (by rw[<-hS];exact Pt _) ⟨by simp,[],c5,.nil,t5⟩;have iK:∀b∈[N + 4,N + 2,N + 3,N,N + 1],s1.heap.objs.size<=b:=λb hb=>by rw[hN];simp only[PC,PD,or_false] at hb;rcases hb with h | h | h | h | h <;> (rw[h];first | exact Nat.le_add_right _ _ | exact Pt _)
 have E9:∀b∈[N + 4,N + 2,N + 3,N,N + 1],b≠S:=λb hb=>by simp only[PC,PD,or_false] at hb;rcases hb with h | h | h | h | h <;> (rw[h];apply P5;omega)
 refine Pl ⟨plainId_quiet PySem.F.plain_extend_loop _,xG (H0:=H1) (A:=X.A.in1) (I1.ok.hd hc) ap (λhmem=>E9 _ hmem rfl) dN EH e1 e2 _ 0 _ _ [] rfl (Nat.zero_le _) I5 (λb hb=>?_)
  ⟨k5 _ _ g2,g4.at λo e=>k5 _ o e,g5.at λo e=>k5 _ o e,.inl ⟨k5 _ _ g1,_,_,k5 _ _ g3⟩⟩ az rfl (λj x y p' _ _ h3=>by simp at h3) (cw EH _) λs' H' ps' I' jM Aq MZ hsm'=>⟨rfl,.ref S,H',I',rfl,q S ps' H' EH hsm' jM Aq MZ⟩⟩
 exact I1.pA (iK b hb) (by rw[ao (E9 b hb)];exact I1.hok.fresh (iK b hb))
end
def tV (ns:List Int):∀j,preSum (λi=>ns.getD i 0) j=(ns.take j).sum
 | 0=>by simp[preSum]
 | j + 1=>by
  rw[preSum,tV ns j];by_cases h:j < ns.length
  ·have e:ns.take (j + 1)=ns.take j++[ns[j]]:=by rw[List.take_append_getElem h]
   rw[e,List.sum_append];simp[h]
  ·rw[List.take_of_length_le (by omega),List.take_of_length_le (by omega)];simp[show ns.length<=j by omega]
def int_at {ns:List Int} {its:List Value} (r:aw (ns.map V.int) its) {i:Nat} {v:Value} (h:its[i]?=some v):∃t,v= .int (ns.getD i 0) t:=by
 have hl:=r.length;have hi:i < ns.length:=by have:=(Pp.mp h).1;simp at hl;omega
 obtain⟨u,hu,ru⟩:=r.get (i:=i) (x:=V.int (ns.getD i 0)) (by simp[hi]);rw[h] at hu;cases hu;exact ru
section
variable {X:Cx}
def xM {prog:Program} {w:World} {A:Around} {E:Value->Shared->Prop} {s:Shared} {l:Addr} {items:Array Value} {Q:Value->Shared->Prop} (hl:s.heap.IsList l items)
  (h:∀s2:Shared,s2={s with heap:=s.heap.push {cls:= .type "list_iterator",data:= .fields #[.ref l,.int 0 0]}}->(s2.heap.IsListIter s.heap.objs.size l 0/\s2.heap.IsList l items)->(∀b∈[s.heap.objs.size,l],b < s2.heap.objs.size)->l≠s.heap.objs.size->
   (∀(b:Addr) (o:Obj),s.heap.get? b=some o->b∉[s.heap.objs.size]/\s2.heap.get? b=some o)->Q (.ref s.heap.objs.size) s2):wpAny (model prog w) A (pyIter (.ref l)) Q E s:=by
 have lt:l < s.heap.objs.size:=by obtain⟨_,e,_⟩:=hl;exact Py e
 refine wpAny_pyIter_list hl (h _ rfl ⟨⟨_,Pv _ rfl,rfl,rfl⟩,hl.push _⟩ (λb hb=>?_) (P5 lt) λb o e=>⟨?_,Pk _ e⟩)
 ·show b < (s.heap.push _).objs.size;rw[P4];simp only[PC,PD,or_false] at hb;have lt':l < s.heap.objs.size:=lt;rcases hb with rfl | rfl
  ·exact Nat.lt_succ_self _
  ·exact Nat.lt_succ_of_lt lt'
 ·intro hb;have:=Py e;rw[P8.mp hb] at this;exact Nat.lt_irrefl _ this
def Ka (K:PySem.W.Frag):List V->Hp->VK->Prop:=λxs H Q=>∃(l:Addr) (ns:List Int),xs=[.ref l]/\c6 K H l (ns.map V.int)/\Q (.int ns.sum) H
def xH (hc:X.calm=true):eG X (.builtin "sum") (Ka X.K):=by
 intro pins s σ H xs us Q I r h;obtain⟨l,ns,rfl,hq,q⟩:=h;obtain⟨u,rfl,ru⟩:=r.one;cases ru;obtain⟨its,rv,pl,hz⟩:=I.list hq;have hl:its.length=ns.length:=by rw[<-rv.length];simp
 refine call_sum_walkG (xM pl.isList λs2 e st fp ne old=>?_);refine⟨_,_,_,_,_,_,λi=>ns.getD i 0,rfl,Walks.list (A:=X.A.in1) (I.ok.hd hc) _ l ne its.toArray,st,fp,λi v hv=>?_,λh' tk t' hk=>?_⟩
 ·have JE:its.toArray[i]?=some v:=hv;exact int_at rv (by simpa using JE)
 ·subst e;refine⟨.int _,H,I.kept λb o e=>hk b o (old b o e).1 (old b o e).2,⟨t',rfl⟩,?_⟩;rw[show its.toArray.size=ns.length by simp[hl],tV,List.take_length];exact q
end
def gn {i:Nat} {v:V} {σ:L2.St} {H:Hp} {k:L2.St->Hp->Prop} (h:k (σ.set i (some v)) H):dU i v σ H k:=h
end Mx
end
section
namespace Mx
open PySem PySem.W PySem.Spec PyProof.Rows L2 HT
open PySem.AutoSeq1 (wpAny_loadPart')
def tuple_addW0 (l b:Addr) (items fD:Array Value) (n n2:Nat) (dd zw:Option Addr) (sl vI:Array (Option Value)) (NK:items.isEmpty=true):
  Meets (Builtin.«tuple.__add__» ⟨[.ref l,.ref b],[]⟩) (λ_ R s=>s.heap.get? l=some {cls:= .type "tuple",dict:=dd,data:= .seq items n,slots:=sl}/\s.heap.get? b=some {cls:= .type "tuple",dict:=zw,data:= .seq fD n2,slots:=vI}/\R (.ok (.ret (Value.ref b))) s):=
 .of_wp λprog w A R s h=>by
  obtain⟨hp,g,d,tk,os⟩:=s;obtain⟨hl,hb,h⟩:=h;have f2:=sub_tuple_tuple
  wp_walk using wpAny_loadPart' hl,wpAny_loadPart' hb
  exact⟨_,rfl,h⟩
def xf {α:Type} (pre:List α) (x:α):ox (pre++[x]).length (-1)=some pre.length:=by unfold ox;rw[if_neg (by decide),if_pos (by simp;omega)];simp;omega
def oW {α:Type} (pre:List α) (x:α):kX (pre++[x]) (-1)=some x:=by unfold kX;rw[xf];simp
end Mx
end
section
namespace Mx
open PySem PySem.W PySem.Spec PyProof.Rows L2
def LL (K:PySem.W.Frag):List V->Hp->VK->Prop:=λxs H Q=>∃(l:Addr) (ns:List Int),xs=[.ref l]/\c6 K H l (ns.map V.int)/\ns≠[]/\∀m,m∈ns->(∀a∈ns,m<=a)->Q (.int m) H
def EW {X:Cx} (hc:X.calm=true):eG X (.builtin "min") (LL X.K):=by
 intro pins s σ H xs us Q I r h;obtain⟨l,ns,rfl,hq,jA,q⟩:=h;obtain⟨u,rfl,ru⟩:=r.one;cases ru;obtain⟨its,rv,pl,hz⟩:=I.list hq;have i1:IntsAre its ns:=intsAre_of rv;have xc:=i1.numsOf;have Br:=i1.allInts;have hl:=pl.isList;obtain⟨xs,zU⟩:=Br.items;have kW:numsOf (intItems xs).toList=ns:=by rw[<-zU];exact xc
 rw[nums_intItems] at kW;rw[zU] at hl;have hlen:ns.length=xs.size:=by rw[<-kW,Px,PP]
 have Ad:0 < xs.size:=by rw[<-hlen];exact List.length_pos_iff.mpr jA
 refine min_intList (I.ok.hd hc) hl Ad λv h' tk hv hk=>?_
 obtain⟨t,rfl⟩:=intItems_at hv;obtain⟨h1,h2⟩:=argBest_lt (numAt xs) (xs.size - 1);refine⟨.int _,H,I.kept hk,⟨t,rfl⟩,q _ ?_ λa ha=>?_⟩
 ·rw[numAt_eq,kW];exact getD_mem (by omega)
 ·obtain⟨j,hj,rfl⟩:=mem_getD ha;rw[<-kW,<-numAt_eq];exact h2 j (by omega)
def KJ (K:PySem.W.Frag):List V->Hp->VK->Prop:=λxs H Q=>∃(l:Addr) (ns:List Int),xs=[.ref l]/\c6 K H l (ns.map V.int)/\ns≠[]/\∀m,m∈ns->(∀a∈ns,a<=m)->Q (.int m) H
def uO {X:Cx} (hc:X.calm=true):eG X (.builtin "max") (KJ X.K):=by
 intro pins s σ H xs us Q I r h;obtain⟨l,ns,rfl,hq,jA,q⟩:=h;obtain⟨u,rfl,ru⟩:=r.one;cases ru;obtain⟨its,rv,pl,hz⟩:=I.list hq;have i1:IntsAre its ns:=intsAre_of rv;have xc:=i1.numsOf;have Br:=i1.allInts;have hl:=pl.isList;obtain⟨xs,zU⟩:=Br.items;have kW:numsOf (intItems xs).toList=ns:=by rw[<-zU];exact xc
 rw[nums_intItems] at kW;rw[zU] at hl;have hlen:ns.length=xs.size:=by rw[<-kW,Px,PP]
 have Ad:0 < xs.size:=by rw[<-hlen];exact List.length_pos_iff.mpr jA
 refine max_intList (I.ok.hd hc) hl Ad λv h' tk hv hk=>?_
 obtain⟨t,rfl⟩:=intItems_at hv;obtain⟨h1,h2⟩:=argBest_gt (numAt xs) (xs.size - 1);refine⟨.int _,H,I.kept hk,⟨t,rfl⟩,q _ ?_ λa ha=>?_⟩
 ·rw[numAt_eq,kW];exact getD_mem (by omega)
 ·obtain⟨j,hj,rfl⟩:=mem_getD ha;rw[<-kW,<-numAt_eq];exact h2 j (by omega)
end Mx
end
section
namespace L2
open PySem PySem.Spec PyProof.Rows
def dG (e:Expr) (d:Nat) (it acc:Value) (env:Env) (target:Expr) (ifs:List Expr) (p:Pos) (body:Sem Unit):Sem PySem.Fin:=do
 standAt p
 match<-pyNext it with
 | none=>pure (.done .next)
 | some v=>
  letOwnedTupleGo target it v
  assign target env v
  let mut ok:=true
  for c in ifs do
   if ok then ok<-isTrue c env (eval c env)
  if ok then body
  again (.compLoop e d it acc env)
def nB {prog:Program} {w:World} {A:Around} {R:Result->Shared->Prop} {s:Shared} {elt target:Expr} {gens:List Comprehension} {scope:Scope} {pos:Pos} {d:Nat} {ifs:List Expr} {p:Pos} {it acc:Value} {env:Env} {body:Sem Unit} (heq:compTurn (.ListComp elt gens scope pos) d it acc env=dG (.ListComp elt gens scope pos) d it acc env target ifs p body) {EE:Value->Shared->Prop}
  (F2:∀x s',EE x s'->notedBy (model prog w) A env (λx s'=>R (.error x) s') x s') (I:Nat->Shared->Prop)
  (turn:∀n s,I n s->wpAny (model prog w) A (pyNext it) (λr s₁=>match r with
   | none=>R (.ok .next) s₁
   | some v=>wpAny (model prog w) A (letOwnedTupleGo target it v) (λ_ s₁'=>wpAny (model prog w) A (assign target env v) (λ_ s₂=>
     wpAny (model prog w) A (forIn ifs true λc r=>if r=true then do let ok<-isTrue c env (eval c env);pure (ForInStep.yield ok) else pure (ForInStep.yield r)) (λok s₃=>
      if ok=true then wpAny (model prog w) A body (λ_ s₄=>∃m,m < n/\I m s₄) EE s₃
      else∃m,m < n/\I m s₃) EE s₂) EE s₁') EE s₁) EE s)
  (n:Nat) (h:I n s):codeAny (model prog w) A (.compLoop (.ListComp elt gens scope pos) d it acc env) R s:=by
 refine codeAny_loop rfl I (λn s hI=>?_) n h;show wpAny _ A ((compTurn (.ListComp elt gens scope pos) d it acc env).onRaise (λx=>do noteFrame x env;theTreesLotGoes x)) _ _ s;refine wpAny_noted ?_;rw[heq];unfold dG;refine Pi (wpAny_standAt (Pi (wpAny_mono (turn n s hI) (λr s₁ h₁=>?_) F2)));cases r with
 | none=>exact Pl h₁
 | some v=>
  refine Pi (wpAny_mono h₁ (λ_ s₁' h₁'=>?_) F2);refine Pi (wpAny_mono h₁' (λ_ s₂ h₂=>Pi (wpAny_mono h₂ (λok s₃ h₃=>?_) F2)) F2);cases ok with
  | false=>exact Pl ⟨rfl,h₃⟩
  | true=>exact Pi (wpAny_mono h₃ (λ_ s₄ h₄=>Pl ⟨rfl,h₄⟩) F2)
def gF (elt:Expr) (acc:Value) (env:Env):Sem Unit:=do let _<-call (.builtin "list.append") [acc,<-eval elt env]
def nextOf (e:Expr) (d:Nat) (iter:Expr) (acc:Value) (env:Env):Sem Unit:=do
 let x<-eval iter env
 standAt iter.pos
 let x<-foldedSetIterable iter env x
 let _<-runOwn (.compStart e d (<-holding [x] (pyIter x)) acc env) env
def p9 (elt target iter:Expr) (ifs:List Expr) (scope:Scope) (pos:Pos) (it acc:Value) (env:Env):
  compTurn (.ListComp elt [⟨target,iter,ifs,0⟩] scope pos) 0 it acc env=dG (.ListComp elt [⟨target,iter,ifs,0⟩] scope pos) 0 it acc env target ifs iter.pos (gF elt acc env):=by rfl
def o7 (elt target iter bc bM:Expr) (ifs ck:List Expr) (scope:Scope) (pos:Pos) (it acc:Value) (env:Env):
  compTurn (.ListComp elt [⟨target,iter,ifs,0⟩,⟨bc,bM,ck,0⟩] scope pos) 0 it acc env=
   dG (.ListComp elt [⟨target,iter,ifs,0⟩,⟨bc,bM,ck,0⟩] scope pos) 0 it acc env target ifs iter.pos (nextOf (.ListComp elt [⟨target,iter,ifs,0⟩,⟨bc,bM,ck,0⟩] scope pos) 1 bM acc env):=by
 unfold dG nextOf;simp only[bind_assoc,pure_bind];rfl
def A0 (elt target iter bc bM:Expr) (ifs ck:List Expr) (scope:Scope) (pos:Pos) (it acc:Value) (env:Env):
  compTurn (.ListComp elt [⟨target,iter,ifs,0⟩,⟨bc,bM,ck,0⟩] scope pos) 1 it acc env=
   dG (.ListComp elt [⟨target,iter,ifs,0⟩,⟨bc,bM,ck,0⟩] scope pos) 1 it acc env bc ck bM.pos (gF elt acc env):=by rfl
def Le (σ σ2:St):Prop:=σ2.length=σ.length/\∀(j:Nat) (v:V),σ[j]?=some (some v)->σ2[j]?=some (some v)
def Le.refl (σ:St):Le σ σ:=⟨rfl,λ_ _ h=>h⟩
def GL (σ0:St) (g:TG):Prop:=∀x σ H (Q:St->Hp->Prop),Le σ0 σ->g x σ H Q->g x σ H λσ2 H2=>Le σ0 σ2/\Q σ2 H2
def Gr (σ0:St) (g:xR):Prop:=∀x σ H (Q:St->Hp->Prop),Le σ0 σ->g x σ H Q->g x σ H λσ2 H2=>Le σ0 σ2/\Q σ2 H2
def Le.set {k:Nat} {σ0 σ:St} {v:Option V} (h:σ0[k]?=some none) (q:Le σ0 σ):Le σ0 (σ.set k v):=⟨by simpa using q.1,λj w hj=>by
 rw[PL (by rintro rfl;rw[h] at hj;cases hj)];exact q.2 j w hj⟩
def zN {σ0:St} {k:Nat} (h:σ0[k]?=some none):GL σ0 (dU k):=λx σ H Q p q=>⟨p.set h,q⟩
def zX {σ0:St}:Gr σ0 Cr:=λx σ H Q p q=>⟨q.1,p,q.2⟩
def wU {σ0:St} {k:Nat} {u:xR} (h:σ0[k]?=some none) (hu:Gr σ0 u):Gr σ0 (wm (dU k) u):=λx σ H Q p q=>by obtain⟨v,r,e,q⟩:=q;exact⟨v,r,e,hu r _ H Q (p.set h) q⟩
def Df {σ0:St} {K:PySem.W.Frag} {n:Nat} {u:xR} (hu:Gr σ0 u):GL σ0 (Cw K n u):=λx σ H Q p q=>by obtain⟨a,xs,e,h1,h2,q⟩:=q;exact⟨a,xs,e,h1,h2,hu xs σ H Q p q⟩
def Inv.le {X:Cx} {pins:List (Addr×Obj)} {σ σ2:St} {H:Hp} {s:Shared} (I:Inv X pins σ2 H s) (h:Le σ σ2):Inv X pins σ H s:=I.weak h.1.symm h.2
abbrev TB:=St->Hp->(Hp->Prop)->Prop
def PB (X:Cx) (body:Sem Unit) (tb:TB):Prop:=∀(pins:List (Addr×Obj)) (s:Shared) (σ:St) (H:Hp) (Q:Hp->Prop),Inv X pins σ H s->tb σ H Q->wpAny (model X.prog X.w) X.A body (λ_ s'=>∃H',Inv X pins σ H' s'/\Q H') X.xe s
def oN (J:It) (g:TG) (tt:TT) (tb:TB) (σ0:St) (F:Hp->Prop) (H1:Hp):Prop:=
 ∃W:Nat->Nat->Hp->Prop,(∃m,W 0 m H1)/\∀i m H,W i m H->
  (J.stop i H/\F H)\/(J.go i H/\∀x H',J.yld i H x H'->g x σ0 H' λσ2 H2=>tt σ2 H2 λb H3=>if b=true then tb σ2 H3 λH4=>∃m',m' < m/\W (i + 1) m' H4 else∃m',m' < m/\W (i + 1) m' H3)
section
variable {X:Cx} {g:TG} {tt:TT} {tb:TB}
def lQ (hc:X.calm=true) {elt target:Expr} {gens:List Comprehension} {scope:Scope} {pos:Pos} {d:Nat} {ifs:List Expr} {p:Pos} {acc:Value} {body:Sem Unit} {R:Result->Shared->Prop} {pins:List (Addr×Obj)} {σ0:St} {H0:Hp} {s0:Shared} {it:Addr} {fp:List Addr} {tn:Nat->Heap->Prop} {J:It} {F:Hp->Prop}
  (heq:compTurn (.ListComp elt gens scope pos) d (.ref it) acc X.env=dG (.ListComp elt gens scope pos) d (.ref it) acc X.env target ifs p body) (hx:∀x s',X.xe x s'->notedBy (model X.prog X.w) X.A X.env (λx s'=>R (.error x) s') x s')
  (hg:PG X target g) (iK:GL σ0 g) (ht:BX X ifs tt) (hb:PB X body tb) (I0:Inv X pins σ0 H0 s0) (T:Turn X.prog X.w X.K target J fp it tn) (cW:tn 0 s0.heap) (f0:∀b∈fp,fW X pins H0 b)
  (hW:oN J g tt tb σ0 F H0) (fin:∀s' H',Inv X pins σ0 H' s'->F H'->R (.ok .next) s'):codeAny (model X.prog X.w) X.A (.compLoop (.ListComp elt gens scope pos) d (.ref it) acc X.env) R s0:=by
 obtain⟨W,⟨m0,w0⟩,turn⟩:=hW;have nW:∀{H':Hp},(∀b∈fp,H' b=none)->∀b∈fp,fW X pins H' b:=λhn b hb=>⟨hn b hb,(f0 b hb).2⟩
 refine nB heq hx (λn s'=>∃i H',Inv X pins σ0 H' s'/\tn i s'.heap/\(∀b∈fp,H' b=none)/\W i n H') ?_ m0 ⟨0,H0,I0,cW,λb hb=>(f0 b hb).1,w0⟩;rintro n s4 ⟨i,H4,I4,Gu,M6,w4⟩;rcases turn i n H4 w4 with ⟨stop,qn⟩ | ⟨go,step⟩
 ·refine bw (T.done X rfl rfl rfl hc i pins s4 _ H4 X.xe I4 (nW M6) Gu stop) λr s5 ⟨hr,I5⟩=>?_
  subst hr;exact fin s5 H4 I5 qn
 ·refine bw (T.item X rfl rfl rfl hc i pins s4 _ H4 X.xe I4 (nW M6) Gu go) λr s5 ⟨u,hr,h5⟩=>?_
  subst hr;refine bw h5 λ_ s6 ⟨x,H6,I6,r6,y6,Lu,OP⟩=>?_
  have Nx:=I6.pinned (nW OP) (T.obj _ _ Lu);have again:∀{s7:Shared} {σ7:St} {H7:Hp} {m7:Nat},Inv X (pins++jV fp s6.heap) σ7 H7 s7->Le σ0 σ7->m7 < n->W (i + 1) m7 H7->
    ∃m,m < n/\∃i H',Inv X pins σ0 H' s7/\tn i s7.heap/\(∀b∈fp,H' b=none)/\W i m H':=λ {s7 σ7 H7 m7} I7 hσ hm w7=>by
   refine⟨m7,hm,i + 1,H7,I7.gQ.le hσ,T.keep _ _ _ Lu λb hb o e=>(I7.pin (b,o) (P6 _ (P6 _ (d8 hb e)))).1,λb hb=>?_,w7⟩;obtain⟨o,e,d⟩:=T.obj _ _ Lu b hb;exact(I7.pin (b,o) (P6 _ (P6 _ (d8 hb e)))).2.1
  refine bw (hg _ s6 _ H6 x u _ Nx r6 (iK x _ H6 _ (Le.refl _) (step x H6 y6))) λ_ s7 ⟨σ7,H7,I7,Ma,q7⟩=>?_
  refine bw (ht _ s7 σ7 H7 _ I7 q7) λb s8 ⟨H8,I8,q8⟩=>?_
  cases b with
  | false=>rw[if_neg (by simp)] at q8 ⊢;obtain⟨m',hm,w8⟩:=q8;exact again I8 Ma hm w8
  | true=>
   rw[if_pos rfl] at q8 ⊢;refine bw (hb _ s8 σ7 H8 _ I8 q8) λ_ s9 ⟨H9,I9,m',hm,w9⟩=>?_
   exact again I9 Ma hm w9
def ub (D:Addr) (te:TE):TB:=λσ H Q=>te σ H λv H4=>∃dM,H4 D=some (.lst dM)/\dM.length < sizeLine/\Q (upd H4 D (.lst (dM++[v])))
def jI {elt:Expr} {te:TE} {D:Addr} (he:PE X elt te):PB X (gF elt (.ref D) X.env) (ub D te):=by intro pins s σ H Q I h;unfold gF;refine Pi (bw (he pins s σ H _ I h) λy s9 ⟨v,H9,I9,r9,dM,ON,hz,q⟩=>?_);refine Pi (bw (mz _ s9 σ H9 (.ref D) [v] (.ref D) [y] (λ_ H'=>H'=upd H9 D (.lst (dM++[v]))) I9 rfl (.cons r9 .nil) ⟨D,dM,v,rfl,rfl,ON,hz,rfl⟩) λ_ s10 ⟨_,Pc,OG,_,OB⟩=>?_);subst OB;exact Pl ⟨_,OG,q⟩
def m9 {prog:Program} {w:World} {A:Around} {R:Result->Shared->Prop} {s:Shared} {elt target iter bc bM:Expr} {ifs ck:List Expr} {scope:Scope} {pos:Pos} {it acc:Value} {env:Env}
  (h0:codeAny (model prog w) A (.compLoop (.ListComp elt [⟨target,iter,ifs,0⟩,⟨bc,bM,ck,0⟩] scope pos) 1 it acc env) R s)
  (h:wpAny (model prog w) A (pyIter it) (λji s'=>codeAny (model prog w) A (.compLoop (.ListComp elt [⟨target,iter,ifs,0⟩,⟨bc,bM,ck,0⟩] scope pos) 1 ji acc env) R s')
   (notedBy (model prog w) A env λx s'=>R (.error x) s') s):
  codeAny (model prog w) A (.compStart (.ListComp elt [⟨target,iter,ifs,0⟩,⟨bc,bM,ck,0⟩] scope pos) 1 it acc env) R s:=by
 refine codeAny_of_tree ?_;show wpAny _ _ ((compStart (.ListComp elt [⟨target,iter,ifs,0⟩,⟨bc,bM,ck,0⟩] scope pos) 1 it acc env).onRaise (λx=>do noteFrame x env;standAt theWindowsPlace)) _ _ s;refine wpAny_notedAt ?_;unfold compStart;show wpAny _ _ (ask >>=_) _ _ s;refine Pi (wpAny_askSetting (wpAny_ite ?_));split
 ·first
   | exact Pi (Pl (Pl (And.intro rfl h0)))
   | exact Pl (And.intro rfl h0)
 ·first
   | exact Pi (wpAny_rule (Pi (wpAny_standAt (Pi (wpAny_mono h (λji s' h'=>Pl (And.intro rfl h')) λ_ _ x=>x)))))
   | (refine Pi (wpAny_rule ?_);show wpAny _ _ (standAt bM.pos >>=_) _ _ s;exact Pi (wpAny_standAt (Pi (wpAny_mono h (λji s' h'=>Pl (And.intro rfl h')) λ_ _ x=>x))))
def FH (wi:TI) (g:TG) (tt:TT) (tb:TB):TB:=λσ H Q=>GL σ g/\wi σ H λJ H1=>oN J g tt tb σ Q H1
def sU {elt target iter bc bM:Expr} {ifs ck:List Expr} {scope:Scope} {pos:Pos} {acc:Value} {wi:TI} {te:TB} (hc:X.calm=true) (hp:PassesOwn (model X.prog X.w) X.A X.env X.xe) (hi:PI X bc bM wi) (hg:PG X bc g) (ht:BX X ck tt) (he:PB X (gF elt acc X.env) te)
  (hs:∀x,foldedSetIterable bM X.env x=pure x:=by intro _;rfl):PB X (nextOf (.ListComp elt [⟨target,iter,ifs,0⟩,⟨bc,bM,ck,0⟩] scope pos) 1 bM acc X.env) (FH wi g tt te):=by
 intro pins s σ H Q I ⟨iK,h⟩;unfold nextOf;refine Pi (bw (hi pins s σ H _ I h) λx s₁ h₁=>?_);refine Pi (wpAny_standAt (Pi (wpAny_of_eq (hs x) (Pi (wpAny_holding (bw h₁ λot s₂ h₂=>?_))))));obtain⟨it,fp,tn,J,H2,e,I2,T,dB,f2,hW⟩:=h₂;subst e;have loop:codeAny (model X.prog X.w) X.A (.compLoop (.ListComp elt [⟨target,iter,ifs,0⟩,⟨bc,bM,ck,0⟩] scope pos) 1 (.ref it) acc X.env) (λr s'=>match r with | .ok f=>∃H',Inv X pins σ H' s'/\Q H' | .error e=>cameBackBy (model X.prog X.w) X.A X.env X.xe e s') s₂:=
  lQ hc (A0 ..) (λx s' q=>hp x s' q) hg iK ht he I2 T dB f2 hW λs' H' I' q=>⟨H',I',q⟩
 have run:wpAny (model X.prog X.w) X.A (runOwn (.compStart (.ListComp elt [⟨target,iter,ifs,0⟩,⟨bc,bM,ck,0⟩] scope pos) 1 (.ref it) acc X.env) X.env) (λ_ s'=>∃H',Inv X pins σ H' s'/\Q H') X.xe s₂:=
  wpAny_runOwn (m9 loop (T.self _ 0 _ _ _ dB loop))
 exact Pi (wpAny_mono run (λf s' q=>Pl q) λ_ _ z=>z)
end
def fN {x:Str} {c:Addr}:∀(names:List (Str×NameKind)) (n:Nat) (acc:List (Str×Addr)),(cellsFrom n names acc).lookup x=some c->(n<=c/\(x,NameKind.cell)∈names)\/acc.lookup x=some c
 | [],n,acc,h=> .inr h
 | (y,k)::r,n,acc,h=>by
  unfold cellsFrom at h;by_cases hk:(k==NameKind.cell)=true
  ·rw[if_pos hk] at h;rcases fN r (n + 1) _ h with ⟨h1,h2⟩ | h1
   ·exact .inl ⟨Pz (Nat.le_succ _) h1,Pq _ h2⟩
   ·rw[PZ] at h1;cases hb:x==y with
    | true=>
     rw[hb] at h1;cases h1;have:x=y:=by simpa using hb
     subst this;have:k=NameKind.cell:=by simpa using hk
     subst this;exact .inl ⟨Pt _,Pu⟩
    | false=>rw[hb] at h1;exact .inr h1
  ·rw[if_neg hk] at h;rcases fN r n _ h with ⟨h1,h2⟩ | h1
   ·exact .inl ⟨h1,Pq _ h2⟩
   ·exact .inr h1
def rf {x y:Str} {c:Addr}:∀(names:List (Str×NameKind)) (n:Nat) (acc:List (Str×Addr)),(∀x c,acc.lookup x=some c->c < n)->(∀x y c,acc.lookup x=some c->acc.lookup y=some c->x=y)->
  (cellsFrom n names acc).lookup x=some c->(cellsFrom n names acc).lookup y=some c->x=y
 | [],n,acc,h1,h2,hx,hy=>h2 x y c hx hy
 | (z,k)::r,n,acc,h1,h2,hx,hy=>by
  unfold cellsFrom at hx hy;by_cases hk:(k==NameKind.cell)=true
  ·rw[if_pos hk] at hx hy;refine rf r (n + 1) _ (λa b gu=>?_) (λa b e ha hb=>?_) hx hy
   ·rw[PZ] at gu;cases hq:a==z with
    | true=>rw[hq] at gu;cases gu;exact Nat.lt_succ_self _
    | false=>rw[hq] at gu;exact Nat.lt_succ_of_lt (h1 a b gu)
   ·rw[PZ] at ha hb;cases hq:a==z with
    | true=>
     rw[hq] at ha;cases ha;cases hq2:b==z with
     | true=>
      have e1:a=z:=by simpa using hq
      have e2:b=z:=by simpa using hq2
      rw[e1,e2]
     | false=>rw[hq2] at hb;exact absurd (h1 b _ hb) (Nat.lt_irrefl _)
    | false=>
     rw[hq] at ha;cases hq2:b==z with
     | true=>rw[hq2] at hb;cases hb;exact absurd (h1 a _ ha) (Nat.lt_irrefl _)
     | false=>rw[hq2] at hb;exact h2 a b e ha hb
  ·rw[if_neg hk] at hx hy;exact rf r n acc h1 h2 hx hy
def mK {x:Str} {c:Addr}:∀(names:List (Str×NameKind)) (n:Nat) (acc:List (Str×Addr)),(x,NameKind.cell)∉names->acc.lookup x=some c->(cellsFrom n names acc).lookup x=some c
 | [],n,acc,_,h=>h
 | (z,k)::r,n,acc,hn,h=>by
  unfold cellsFrom;by_cases hk:(k==NameKind.cell)=true
  ·rw[if_pos hk];refine mK r (n + 1) _ (λz'=>hn (Pq _ z')) ?_;rw[PZ];have:(x==z)=false:=by
    cases hq:x==z with
    | false=>rfl
    | true=>
     have e1:x=z:=by simpa using hq
     have e2:k=NameKind.cell:=by simpa using hk
     subst e1 e2;exact absurd Pu hn
   rw[this];exact h
  ·rw[if_neg hk];exact mK r n acc (λz'=>hn (Pq _ z')) h
def j4 {x:Str} {c:Addr}:∀(names:List (Str×NameKind)) (h:Heap) (acc:List (Str×Addr)),(∀x c,acc.lookup x=some c->∃v,h.IsCell c v)->(cellsFrom h.objs.size names acc).lookup x=some c->∃v,(pushCells h names).IsCell c v
 | [],h,acc,ha,hx=>ha x c hx
 | (z,k)::r,h,acc,ha,hx=>by
  unfold cellsFrom at hx;unfold pushCells;by_cases hk:(k==NameKind.cell)=true
  ·rw[if_pos hk] at hx ⊢;refine j4 r _ ((z,h.objs.size)::acc) (λa b gu=>?_) (by rw[P4];exact hx);rw[PZ] at gu;cases hq:a==z with
   | true=>rw[hq] at gu;cases gu;exact⟨none,_,Pv _ rfl,rfl⟩
   | false=>rw[hq] at gu;obtain⟨v,o,ho,hd⟩:=ha a b gu;exact⟨v,o,Pk _ ho,hd⟩
  ·rw[if_neg hk] at hx ⊢;exact j4 r h acc ha hx
def qc {M:Model} {A:Around} {E:Value->Shared->Prop} {s:Shared} {scope:Scope} {globals:Addr} {cl:List (Str×Addr)} {qual:Str} {out:Env} {Q:Env->Shared->Prop}
  (hQ:∀h',h'=pushCells (s.heap.push {cls:= .type "dict",data:= .dict #[]}) scope.names->Q (newEnv scope s.heap.objs.size globals (cellsFrom (s.heap.objs.size + 1) scope.names cl) qual none .none (some out) builtinsNs) {s with heap:=h'}):
  wpAny M A (newFunctionEnv scope globals cl [] qual none .none (some out)) Q E s:=by
 simp only[newFunctionEnv,Option.isSome_some,if_true];refine Pi (wpAny_alloc ?_);refine Pi (wpAny_layCells _ (λname kind cells=>by cases hkc:kind==NameKind.cell <;> simp[hkc]) _ _ _ _ ?_);rw[show ({s with heap:=s.heap.push {cls:= .type "dict",data:= .dict #[]}}:Shared).heap.objs.size=s.heap.objs.size + 1 from P4 ..];rw[List.forIn_nil];exact Pi (Pl (Pl (hQ _ rfl)))
def eR (X:Cx) (scope:Scope) (N':List Str) (C:Addr) (s:Shared) (H:Hp) (fp:List Addr) (xe:Value->Shared->Prop):Cx:=
 {X with N:=N',s₀:=s,H₀:=H,env:=compEnvC scope (cellsFrom (C + 1) scope.names (eN scope X.env)) C X.env,outer:=X.stack,stack:=X.stack,ex:=fp,fn:=λx=>scope.names.lookup x==some .cell,pn:=[],xe:=xe}
structure eF (X:Cx) (scope:Scope) (N':List Str) (cap:List (Option Nat)):Prop where
 kind:scope.kind= .function
 nd:∀y∈scope.names,scope.names.lookup y.1=some y.2
 free:∀y∈scope.names,y.2= .free->X.env.scope.names.lookup y.1=some .cell\/X.env.scope.names.lookup y.1=some .free
 AS:∀(j i:Nat),cap[j]?=some (some i)->∃x,N'[j]?=some x/\X.N[i]?=some x/\scope.names.lookup x=some .free
 len:cap.length=N'.length
section
variable {X:Cx} {scope:Scope} {N':List Str} {cap:List (Option Nat)} {pins:List (Addr×Obj)} {σ:St} {H:Hp} {s:Shared}
def eF.frees (B:eF X scope N' cap) (ok:X.Ok):∀y∈scope.names,y.2= .free->∃c,X.env.cells.lookup y.1=some c:=λy hy hf=>ok.has y.1 (B.free y hy hf)
def eF.up (B:eF X scope N' cap) (ok:X.Ok) {x:Str} {c:Addr} (h:(eN scope X.env).lookup x=some c):X.env.cells.lookup x=some c:=
 jb scope.names [] (B.frees ok) (λ_ z=>by simp at z) h
def eF.pY (B:eF X scope N' cap) {x:Str} (h:scope.names.lookup x=some .free):(x,NameKind.cell)∉scope.names:=λz=>by have:=B.nd _ z;rw[h] at this;cases this
def qJ {xe:Value->Shared->Prop} (B:eF X scope N' cap) (I:Inv X pins σ H s) {fp:List Addr} {tk:Nat} (hf:∀b∈fp,fW X pins H b) (cz:∀b∈fp,b < s.heap.objs.size):
  Inv (eR X scope N' s.heap.objs.size s H fp xe) [] (cO cap σ) H {s with heap:=pushCells (s.heap.push {cls:= .type "dict",data:= .dict #[]}) scope.names,toks:=tk}:=by
 have ok:=I.ok;have hz:(s.heap.push {cls:= .type "dict",data:= .dict #[]}).objs.size=s.heap.objs.size + 1:=P4 ..;have hk:∀b o,s.heap.get? b=some o->(pushCells (s.heap.push {cls:= .type "dict",data:= .dict #[]}) scope.names).get? b=some o:=λb o e=>pushCells_keeps _ _ _ _ (Pk _ e)
 have B3:(pushCells (s.heap.push {cls:= .type "dict",data:= .dict #[]}) scope.names).Ns s.heap.objs.size λ_=>none:=(Heap.Ns.new s.heap (.type "dict")).keeps (pushCells_keeps _ _)
 have Oe:∀x c,(eN scope X.env).lookup x=some c->c < s.heap.objs.size:=λx c h=>by obtain⟨v,z⟩:=I.cell x c (B.up ok h);exact z.lt
 have xI:∀x c,(cellsFrom (s.heap.objs.size + 1) scope.names (eN scope X.env)).lookup x=some c->(s.heap.objs.size + 1<=c/\(x,NameKind.cell)∈scope.names)\/X.env.cells.lookup x=some c:=λx c h=>(fN _ _ _ h).imp id (B.up ok)
 have qR:∀x,scope.names.lookup x=some .free->(compEnvC scope (cellsFrom (s.heap.objs.size + 1) scope.names (eN scope X.env)) s.heap.objs.size X.env).kindOf x=some .cell\/(compEnvC scope (cellsFrom (s.heap.objs.size + 1) scope.names (eN scope X.env)) s.heap.objs.size X.env).kindOf x=some .free:=λx hx=>by
  have q:=aT (env:=X.env) hx;by_cases hc:(NameKind.free==NameKind.free&&X.env.scope.kind== .function&&X.env.kindOf x==some .cell)=true
  ·rw[if_pos hc] at q;exact .inl q
  ·rw[if_neg hc] at q;exact .inr q
 refine⟨⟨ok.mod,?kind,ok.glob,ok.blt,Pt _,?inj,?has,?Du,ok.hd,ok.frames,.inl rfl,?F9,I.bs,Pz ok.B8 I.sz,?qw,?uW,I.stack,I.nO⟩,
  rfl,I.bare,Un.kept hk,⟨_,B3,?loc⟩,?cell,I.hok.fresh (Pt _),?dw,?pin,I.hok.kept hk,?len⟩
 case kind=>exact B.kind
 case inj=>exact λx y c h1 h2=>rf _ _ _ (λx c h=>Nat.lt_succ_of_lt (Oe x c h)) (λx y c h1 h2=>ok.inj x y c (B.up ok h1) (B.up ok h2)) h1 h2
 case has=>
  intro x hx;cases hl:scope.names.lookup x with
  | none=>
   have q:=bI (env:=X.env) hl;exact absurd hx (by
    have q':(compEnvC scope (cellsFrom (s.heap.objs.size + 1) scope.names (eN scope X.env)) s.heap.objs.size X.env).kindOf x=none:=q;show¬((compEnvC scope (cellsFrom (s.heap.objs.size + 1) scope.names (eN scope X.env)) s.heap.objs.size X.env).kindOf x=some .cell\/(compEnvC scope (cellsFrom (s.heap.objs.size + 1) scope.names (eN scope X.env)) s.heap.objs.size X.env).kindOf x=some .free);rw[q'];simp)
  | some k=>
   have q:(compEnvC scope (cellsFrom (s.heap.objs.size + 1) scope.names (eN scope X.env)) s.heap.objs.size X.env).kindOf x=some (if (k==NameKind.free&&X.env.scope.kind== .function&&X.env.kindOf x==some .cell) then NameKind.cell else k):=aT (env:=X.env) hl;have hm:=PySem.mem_of_lookup hl;by_cases CP:k= .free
   ·subst CP;obtain⟨c,uM⟩:=kD (env:=X.env) scope.names [] (.inl hm);exact⟨c,mK _ _ _ (B.pY hl) uM⟩
   ·have hb:(k==NameKind.free)=false:=by simpa using CP
    have rd:(compEnvC scope (cellsFrom (s.heap.objs.size + 1) scope.names (eN scope X.env)) s.heap.objs.size X.env).kindOf x=some .cell\/(compEnvC scope (cellsFrom (s.heap.objs.size + 1) scope.names (eN scope X.env)) s.heap.objs.size X.env).kindOf x=some .free:=hx;rw[q,hb] at rd;simp only[Bool.false_and,Bool.false_eq_true,if_false,Option.some.injEq] at rd;rcases rd with z | z
    ·subst z;exact Option.isSome_iff_exists.mp (PySem.W.cellsFrom_some scope.names _ _ (.inl hl))
    ·exact absurd z CP
 case Du=>
  intro x c xj h;have xj:(scope.names.lookup x==some .cell)=true:=xj;rcases fN _ _ _ h with ⟨h1,_⟩ | h1
  ·exact Pz (Nat.le_succ _) h1
  ·exfalso;have e:=PV xj;have:∀(l:List (Str×NameKind)) (cs:List (Str×Addr)),(∀c,cs.lookup x≠some c)->(∀y∈l,y.1=x->y.2≠ .free)->(mY X.env l cs).lookup x=none:=by
    intro l
    induction l with
    | nil=>
     intro cs Bn _;cases hq:cs.lookup x with
     | none=>exact hq
     | some c=>exact absurd hq (Bn c)
    | cons y l ih=>
     intro cs Bn hl;obtain⟨n,k⟩:=y;show (mY X.env l (if (k==NameKind.free)=true then(n,(X.env.cells.lookup n).getD 0)::cs else cs)).lookup x=none;refine ih _ (λc=>?_) λy hy=>hl y (Pq _ hy)
     by_cases hk:(k==NameKind.free)=true
     ·rw[if_pos hk,PZ];have:(x==n)=false:=by
       cases hq:x==n with
       | false=>rfl
       | true=>
        have e1:x=n:=by simpa using hq
        have e2:k=NameKind.free:=by simpa using hk
        exact absurd e2 (hl (n,k) Pu e1.symm)
      rw[this];exact Bn c
     ·rw[if_neg hk];exact Bn c
   have q:=this scope.names [] (λc z=>by simp at z) λy hy e1 e2=>by have:=B.nd y hy;rw[e1,e2,e] at this;cases this
   unfold eN at h1;rw[q] at h1;cases h1
 case F9=>
  intro b hb;refine⟨P5 (cz b hb),λx c e=>?_⟩;rcases xI x c e with ⟨h1,_⟩ | h1
  ·intro z;subst z;exact absurd (PQ (cz c hb) (Pz (Nat.le_succ _) h1)) (Nat.lt_irrefl _)
  ·exact(hf b hb).2.2.2.2.1 x c h1
 case qw=>
  intro b o e hb;rcases (hf b hb).2.2.2.1 with z | z
  ·exact ok.qw b o e z
  ·exact absurd (PQ (Py (ok.bs b o e).1) z) (Nat.lt_irrefl _)
 case uW=>
  intro b hb hs;rcases PC.mp (I.kg b hs) with z | z
  ·exact(hf b hb).2.1 z
  ·exact(hf b hb).2.2.1 z
 case loc=>
  intro j x v h1 h2 h3;have hj:∃i,cap[j]?=some (some i)/\(σ[i]?).join=some v:=by
   unfold cO at h2;rw[PN] at h2;cases hc:cap[j]? with
   | none=>rw[hc] at h2;cases h2
   | some o=>
    rw[hc] at h2;cases o with
    | none=>cases h2
    | some i=>exact⟨i,rfl,by simpa using h2⟩
  obtain⟨i,hc,hv⟩:=hj;obtain⟨x',e1,e2,e3⟩:=B.AS j i hc;have ex:x'=x:=by have JO:N'[j]?=some x:=h1;rw[JO] at e1;injection e1 with e1;exact e1.symm
  subst ex;have JE:σ[i]?=some (some v):=by
   cases q:σ[i]? with
   | none=>rw[q] at hv;cases hv
   | some o=>rw[q] at hv;cases o with
    | none=>cases hv
    | some z=>simp at hv;rw[hv]
  have Gw:=B.free _ (PySem.mem_of_lookup e3) rfl;obtain⟨m,hn,hl⟩:=I.loc;obtain⟨u,r,l⟩:=hl i x' v e2 JE (.inr Gw);refine⟨u,r,?_⟩;obtain⟨c,uM⟩:=kD (env:=X.env) scope.names [] (.inl (PySem.mem_of_lookup e3));have Mg:=B.up ok uM;rcases l with ⟨k,_⟩ | ⟨k,c',e,z⟩
  ·exfalso;have k':X.env.scope.names.lookup x'=some .local:=k;rcases Gw with q | q
   ·rw[k'] at q;cases q
   ·rw[k'] at q;cases q
  ·have N9:c'=c:=by rw[e] at Mg;injection Mg
   subst N9;exact .inr ⟨qR x' e3,c',mK _ _ _ (B.pY e3) uM,by obtain⟨o,ho,hd⟩:=z;exact⟨o,hk _ _ ho,hd⟩⟩
 case cell=>intro x c e;refine j4 scope.names (s.heap.push {cls:= .type "dict",data:= .dict #[]}) (eN scope X.env) (λa b gu=>?_) (by rw[hz];exact e);obtain⟨v,o,ho,hd⟩:=I.cell a b (B.up ok gu);exact⟨v,o,Pk _ ho,hd⟩
 case dw=>
  intro x c e;rcases xI x c e with ⟨h1,_⟩ | h1
  ·exact I.hok.fresh (Pz (Nat.le_succ _) h1)
  ·exact I.dw x c h1
 case pin=>intro p hp;cases hp
 case len=>show (cO cap σ).length=N'.length;unfold cO;rw[Px];exact B.len
def BL (X:Cx) (C:Addr) (x:Value) (s':Shared):Prop:=∃m,s'.heap.Ns C m/\∀h',Heap.SameBut C s'.heap h'->∀uR:Env,uR.locals=C->wpAny (model X.prog X.w) X.A (passOn "comprehension.variables-let-go" x uR:Sem Value) (λ_ _=>False) X.xe {s' with heap:=h'}
structure AW (X:Cx) (scope:Scope) (N':List Str) (xb:Addr->Shared->Hp->List Addr->Value->Shared->Prop):Prop where
 note:∀(pins:List (Addr×Obj)) (σ:St) (C:Addr) (s s1:Shared) (H H1:Hp) (fp:List Addr) x s',Inv X pins σ H1 s1->(∀b∈fp,fW X pins H1 b)->s1.heap.objs.size < C->s={s1 with heap:=s1.heap.push {cls:= .type "list",data:= .seq ([]:List Value).toArray},toks:=s1.toks}->H=upd H1 s1.heap.objs.size (.lst [])->C=s.heap.objs.size->
  xb C s H fp x s'->notedBy (model X.prog X.w) X.A (eR X scope N' C s H fp (xb C s H fp)).env (BL X C) x s'
variable {elt tg iter:Expr} {ifs:List Expr} {pos:Pos} {wi:TI} {g:TG} {tt:TT}
def lN {gens:List Comprehension} {xb:Addr->Shared->Hp->List Addr->Value->Shared->Prop} {pins:List (Addr×Obj)} {σ:St} {H2:Hp} {s2:Shared} {it:Addr} {fp:List Addr} {tn:Nat->Heap->Prop} {J:It} {F:Hp->Prop} {tb:Addr->TB} {body:Value->Env->Sem Unit} {p:Pos} {RR:Value->Addr->Result->Shared->Prop} (hc:X.calm=true) (B:eF X scope N' cap) (hX:AW X scope N' xb)
  (heq:∀ot acc env,compTurn (.ListComp elt (⟨tg,iter,ifs,0⟩::gens) scope pos) 0 ot acc env=dG (.ListComp elt (⟨tg,iter,ifs,0⟩::gens) scope pos) 0 ot acc env tg ifs p (body acc env))
  (iK:GL (cO cap σ) g) (hg:∀C s H fp,PG (eR X scope N' C s H fp (xb C s H fp)) tg g) (ht:∀C s H fp,BX (eR X scope N' C s H fp (xb C s H fp)) ifs tt) (hb:∀C s H fp D,PB (eR X scope N' C s H fp (xb C s H fp)) (body (.ref D) (eR X scope N' C s H fp (xb C s H fp)).env) (tb D))
  (I2:Inv X pins σ H2 s2) (T:Turn X.prog X.w X.K tg J fp it tn) (dB:tn 0 s2.heap) (f2:∀b∈fp,fW X pins H2 b) (hF:oN J g tt (tb s2.heap.objs.size) (cO cap σ) F (upd H2 s2.heap.objs.size (.lst [])))
  (NJ:∀C s' H' m,s2.heap.objs.size < C->Inv X pins σ H' s'->s'.heap.Ns C m->fW X pins H' C->F H'->RR (.ref s2.heap.objs.size) C (.ok .next) s') (L6:∀C x s',BL X C x s'->RR (.ref s2.heap.objs.size) C (.error x) s') {E:Value->Shared->Prop}:
  wpAny (model X.prog X.w) X.A (newList []) (λacc s₃=>wpAny (model X.prog X.w) X.A (newFunctionEnv scope X.env.globals (eN scope X.env) [] X.env.qual none .none (some X.env)) (λuR s₄=>
   codeAny (model X.prog X.w) X.A (.compStart (.ListComp elt (⟨tg,iter,ifs,0⟩::gens) scope pos) 0 (.ref it) acc {uR with scope:=relabel scope X.env}) (RR acc uR.locals) s₄) E s₃) E s2:=by
 refine wpAny_newObj_type (qc λh₁ hh₁=>?_);have I3:=I2.DE (ys:=[]) (its:=[]) (t':=s2.toks) .nil (Nat.zero_le _);dsimp only at hh₁ ⊢;have hC:(s2.heap.push {cls:= .type "list",data:= .seq ([]:List Value).toArray}).objs.size=s2.heap.objs.size + 1:=P4 ..;generalize hD:s2.heap.objs.size=D at *;have AX:∀b∈fp,b < D:=λb hb=>by obtain⟨o,e,_⟩:=T.obj 0 _ dB b hb;rw[<-hD];exact Py e
 have f3:∀b∈fp,fW X pins (upd H2 D (.lst [])) b:=λb hb=>⟨by rw[ao (P5 (AX b hb))];exact(f2 b hb).1,(f2 b hb).2⟩
 generalize hs3:({s2 with heap:=s2.heap.push {cls:= .type "list",data:= .seq ([]:List Value).toArray},toks:=s2.toks}:Shared)=s3 at I3;have xK:s3.heap=s2.heap.push {cls:= .type "list",data:= .seq ([]:List Value).toArray}:=by rw[<-hs3]
 have BA:s3.heap.objs.size=D + 1:=by rw[xK];exact hC
 have IB:=qJ (xe:=xb s3.heap.objs.size s3 (upd H2 D (.lst [])) fp) (tk:=s2.toks) B I3 f3 (λb hb=>by rw[BA];exact Nat.lt_succ_of_lt (AX b hb));have hk:∀b o,s3.heap.get? b=some o->(pushCells (s3.heap.push {cls:= .type "dict",data:= .dict #[]}) scope.names).get? b=some o:=λb o e=>pushCells_keeps _ _ _ _ (Pk _ e)
 rw[<-xK] at hh₁;rw[<-hh₁] at IB hk;have e4:({s3 with heap:=h₁,toks:=s2.toks}:Shared)={s2 with heap:=h₁}:=by rw[<-hs3]
 rw[e4] at IB;rw[hC];have nW:∀{H':Hp},(∀b∈fp,H' b=none)->∀b∈fp,fW (eR X scope N' s3.heap.objs.size s3 (upd H2 D (.lst [])) fp (xb s3.heap.objs.size s3 (upd H2 D (.lst [])) fp)) [] H' b:=λhn b hb=>
  ⟨hn b hb,by show b≠s3.heap.objs.size;rw[BA];exact P5 (Nat.lt_succ_of_lt (AX b hb)),λz=>(by
   rcases PC.mp (I3.kg b z) with q | q
   ·exact(f3 b hb).2.1 q
   ·exact(f3 b hb).2.2.1 q),.inl hb,(IB.ok.F9 b hb).2,λp hp=>absurd hp (by intro z;cases z)⟩
 have loop:∀s':Shared,s'={s2 with heap:=h₁}->codeAny (model X.prog X.w) X.A (.compLoop (.ListComp elt (⟨tg,iter,ifs,0⟩::gens) scope pos) 0 (.ref it) (.ref D) (eR X scope N' s3.heap.objs.size s3 (upd H2 D (.lst [])) fp (xb s3.heap.objs.size s3 (upd H2 D (.lst [])) fp)).env)
   (RR (.ref D) (D + 1)) s':=by
  rintro s' rfl;refine lQ (X:=eR X scope N' s3.heap.objs.size s3 (upd H2 D (.lst [])) fp (xb s3.heap.objs.size s3 (upd H2 D (.lst [])) fp)) hc (heq _ _ _) (λx s' q=>?_) (hg _ _ _ _) iK (ht _ _ _ _) (hb _ _ _ _ D) IB T (T.keep _ _ _ dB (λb hb o e=>hk b o (by rw[xK];exact Pk _ e))) (nW λb hb=>(f3 b hb).1) hF λs5 H5 I5 qn=>?_
  ·have z:=hX.note pins σ s3.heap.objs.size s3 s2 (upd H2 D (.lst [])) H2 fp x s' I2 f2 (by rw[BA,hD];exact Nat.lt_succ_self _) hs3.symm (by rw[hD]) rfl q;rw[BA] at z;exact wpAny_mono z (λ_ s'' w=>L6 (D + 1) x s'' w) λy s'' w=>L6 (D + 1) y s'' w
  ·obtain⟨m5,LH,_⟩:=I5.loc;have un:Un (eW X.stack) fp H2 H5 s2.heap s5.heap:=by
    have u1:Un (eW X.stack) fp H2 (upd H2 D (.lst [])) s2.heap s3.heap:=by rw[xK];exact Un.laid (λb u e=>Pk _ e) (by rw[hD];exact Pt _) (by rw[<-hD];exact I2.fresh)
    exact u1.trans I5.base
   have hI:Inv X pins σ H5 s5:=I2.yN (ch:=fp) (I5.os.trans (by show s3.os=s2.os;rw[<-hs3])) un I5.hok I5.bare λb hb=>⟨(f2 b hb).2.2.2.1,(f2 b hb).2.1,(f2 b hb).2.2.2.2.1,(f2 b hb).2.2.2.2.2⟩
   have x9:s5.heap.Ns (D + 1) m5:=by have q:s5.heap.Ns s3.heap.objs.size m5:=LH;rw[BA] at q;exact q
   have JW:H5 (D + 1)=none:=by have q:H5 s3.heap.objs.size=none:=I5.free;rw[BA] at q;exact q
   exact NJ (D + 1) s5 H5 m5 (Nat.lt_succ_self _) hI x9 (I2.pA (by rw[hD];exact Nat.le_succ _) JW) qn
 have Jx:({newEnv scope (D + 1) X.env.globals (cellsFrom (D + 1 + 1) scope.names (eN scope X.env)) X.env.qual none .none (some X.env) builtinsNs with scope:=relabel scope X.env}:Env)=(eR X scope N' s3.heap.objs.size s3 (upd H2 D (.lst [])) fp (xb s3.heap.objs.size s3 (upd H2 D (.lst [])) fp)).env:=by unfold eR;rw[BA];rfl
 have go:=codeAny_compStart_list (loop _ rfl) (T.self X.A 0 _ _ _ (T.keep _ _ _ dB (λb hb o e=>hk b o (by rw[xK];exact Pk _ e))) (loop _ rfl));rw[<-Jx] at go;exact go
end
def mV (cap:List (Option Nat)) (wi:TI) (g:TG) (tt:TT) (tb:Addr->TB):TE:=λσ H Q=>wi σ H λJ H1=>∀D,H1 D=none->GL (cO cap σ) g/\oN J g tt (tb D) (cO cap σ) (λH'=>Q (.ref D) H') (upd H1 D (.lst []))
section
variable {X:Cx} {scope:Scope} {N':List Str} {cap:List (Option Nat)} {elt tg iter:Expr} {ifs:List Expr} {gens:List Comprehension} {pos p:Pos} {wi:TI} {g:TG} {tt:TT} {tb:Addr->TB} {body:Value->Env->Sem Unit} {xb:Addr->Shared->Hp->List Addr->Value->Shared->Prop}
def pz (hc:X.calm=true) (B:eF X scope N' cap) (hX:AW X scope N' xb) (hi:PI X tg iter wi) (heq:∀ot acc env,compTurn (.ListComp elt (⟨tg,iter,ifs,0⟩::gens) scope pos) 0 ot acc env=dG (.ListComp elt (⟨tg,iter,ifs,0⟩::gens) scope pos) 0 ot acc env tg ifs p (body acc env))
  (hg:∀C s H fp,PG (eR X scope N' C s H fp (xb C s H fp)) tg g) (ht:∀C s H fp,BX (eR X scope N' C s H fp (xb C s H fp)) ifs tt) (hb:∀C s H fp D,PB (eR X scope N' C s H fp (xb C s H fp)) (body (.ref D) (eR X scope N' C s H fp (xb C s H fp)).env) (tb D))
  (hs:∀x,foldedSetIterable iter X.env x=pure x:=by intro _;rfl):PE X (.ListComp elt (⟨tg,iter,ifs,0⟩::gens) scope pos) (mV cap wi g tt tb):=by
 intro pins s σ H Q I h;rw[eval_ListComp];refine wpAny_comprehension_free (use:=none) rfl hs (gr (B.frees I.ok)) B.kind (λy hy e=>by rw[B.nd y hy,e]) (bw (hi pins s σ H _ I h) λx s₁ h₁=>bw h₁ λot s₂ h₂=>?_);obtain⟨it,fp,tn,J,H2,e,I2,T,dB,f2,hF⟩:=h₂;subst e;obtain⟨iK,hW⟩:=hF _ I2.fresh;refine lN (RR:=λacc C=>compPost (model X.prog X.w) X.A X.xe none (EP X pins σ Q) acc C) hc B hX heq iK hg ht hb I2 T dB f2 hW (λC s' H' m hC I' hn fC q=>?_) λC x s' z=>z
 refine⟨m,hn,λh' se=>⟨.ref _,H',I'.turned (t':=s'.toks) (λb o hb e=>(se.2 b hb).trans e) fC.1 fC.2.1 fC.2.2.2.1 fC.2.2.2.2.1 fC.2.2.2.2.2,rfl,q⟩⟩
def i9 {i:Nat} {x:Str} {pos' Ft:Pos} (hc:X.calm=true) (hN:X.N.Nodup) (B1:X.N[i]?=some x) (hx:X.env.kindOf x=some .local) (B:eF X scope N' cap) (hX:AW X scope N' xb) (hi:PI X tg iter wi) (heq:∀ot acc env,compTurn (.ListComp elt (⟨tg,iter,ifs,0⟩::gens) scope pos) 0 ot acc env=dG (.ListComp elt (⟨tg,iter,ifs,0⟩::gens) scope pos) 0 ot acc env tg ifs p (body acc env))
  (hg:∀C s H fp,PG (eR X scope N' C s H fp (xb C s H fp)) tg g) (ht:∀C s H fp,BX (eR X scope N' C s H fp (xb C s H fp)) ifs tt) (hb:∀C s H fp D,PB (eR X scope N' C s H fp (xb C s H fp)) (body (.ref D) (eR X scope N' C s H fp (xb C s H fp)).env) (tb D))
  (hs:∀x,foldedSetIterable iter X.env x=pure x:=by intro _;rfl)
  (Eo:swapsWith (.ListComp elt (⟨tg,iter,ifs,0⟩::gens) scope pos) (some (.Name x pos')) Ft.line X.env=pure true:=by rfl):
  PS X (.Assign [.Name x pos'] (.ListComp elt (⟨tg,iter,ifs,0⟩::gens) scope pos) Ft) (qr (mV cap wi g tt tb) (dU i)):=by
 intro pins s σ H D I h;rw[exec_Assign_Name_used _ _ _ _ Eo];refine Pi (wpAny_standAt (Pi ?_));show wpAny _ X.A (do let _<-comprehension (.ListComp elt (⟨tg,iter,ifs,0⟩::gens) scope pos) scope X.env _ (newList []) false (eval iter X.env) (some (assign (.Name x pos') X.env))) _ _ s;refine Pi (wpAny_mono (wpAny_comprehension_free (use:=some (assign (.Name x pos') X.env)) (Q:=λ_ s'=>SP X pins D .next s') rfl hs (gr (B.frees I.ok)) B.kind (λy hy e=>by rw[B.nd y hy,e]) (bw (hi pins s σ H _ I h) λx s₁ h₁=>bw h₁ λot s₂ h₂=>?_))
  (λ_ s' hq=>Pl (Pl hq)) λ_ _ e=>e)
 obtain⟨it,fp,tn,J,H2,e,I2,T,dB,f2,hF⟩:=h₂;subst e;obtain⟨iK,hW⟩:=hF _ I2.fresh;refine lN (RR:=λacc C=>compPost (model X.prog X.w) X.A X.xe (some (assign (.Name _ pos') X.env)) (λ_ s'=>SP X pins D .next s') acc C) hc B hX heq iK hg ht hb I2 T dB f2 hW (λC s' H' m hC I' hn fC q=>?_) λC x s' z=>z
 show wpAny _ X.A (assign (.Name _ pos') X.env (.ref _)) _ _ _;refine wpAny_assign_Name (lZ (v:= .ref _) I' hN B1 (.inl hx) rfl (λs3 I3 se=>?_) (.inr hx));obtain⟨a,sb,ha⟩:=se;have NA:C≠a:=by
  rcases ha with rfl | ha
  ·exact fC.2.1
  ·exact Ne.symm (fC.2.2.2.2.1 _ a ha)
 refine⟨m,hn.sameBut sb NA,λh' hsb'=>?_⟩;exact⟨_,H',I3.turned (t':=s3.toks) (λb o hb e=>(hsb'.2 b hb).trans e) fC.1 fC.2.1 fC.2.2.2.1 fC.2.2.2.2.1 fC.2.2.2.2.2,q⟩
end
def kR (o:Obj) (f:Array Value->Array Value):(o.mapFields f).dict=o.dict:=by obtain⟨c,d,dt,sl⟩:=o;cases dt <;> rfl
def cY (h:Heap) (a T:Addr):Prop:=∃o vs,h.get? a=some o/\o.data= .fields vs/\vs[1]?=some (.ref T)
structure je (N:Nat) (cls:Value) (a:Addr) (H:Hp) (h:Heap):Prop where
 ge:N<=a
 nH:H a=none
 obj:∃o vs,h.get? a=some o/\(o.cls=cls/\o.dict=none)/\o.data= .fields vs/\(vs[1]?=some .none\/∃T,vs[1]?=some (.ref T))
 tb:∀T,cY h a T->N<=T/\H T=none/\T≠a/\∃oT ts,h.get? T=some oT/\oT.data= .fields ts/\3 < ts.size
structure sj (fs:List Addr) (a:Addr) (h h':Heap):Prop where
 keep:∀b o,h.get? b=some o->b≠a->¬cY h a b->b∉fs->h'.get? b=some o
 slot:∀b o,h.get? b=some o->b≠a->¬cY h a b->∃sl,h'.get? b=some {o with slots:=sl}
 there:∀b o,h.get? b=some o->∃o',h'.get? b=some o'
 tb:∀T,cY h' a T->cY h a T\/h.get? T=none
def sj.trans {fs:List Addr} {a:Addr} {h h1 h2:Heap} (x:sj fs a h h1) (y:sj fs a h1 h2):sj fs a h h2 where
 keep:=λb o e n nt nf=>by
  have e1:=x.keep b o e n nt nf;exact y.keep b o e1 n (λz=>by
   rcases x.tb b z with q | q
   ·exact nt q
   ·rw[e] at q;cases q) nf
 slot:=λb o e n nt=>by
  obtain⟨sl,e1⟩:=x.slot b o e n nt;obtain⟨vI,e2⟩:=y.slot b _ e1 n (λz=>by
   rcases x.tb b z with q | q
   ·exact nt q
   ·rw[e] at q;cases q)
  exact⟨vI,e2⟩
 there:=λb o e=>by obtain⟨o1,e1⟩:=x.there b o e;exact y.there b o1 e1
 tb:=λT z=>by
  rcases y.tb T z with q | q
  ·exact x.tb T q
  ·right;cases hq:h.get? T with
   | none=>rfl
   | some o=>obtain⟨o',e'⟩:=x.there T o hq;rw[e'] at q;cases q
def sj.refl {fs:List Addr} {a:Addr} {h:Heap}:sj fs a h h:=⟨λ_ _ e _ _ _=>e,λ_ o e _ _=>⟨o.slots,e⟩,λ_ o e=>⟨o,e⟩,λ_ z=> .inl z⟩
section
variable {M:Model} {A:Around} {E:Value->Shared->Prop} {s:Shared} {N:Nat} {cls:Value} {a:Addr} {H:Hp} {base:Heap} {env fV:Env} {outer:List Env} {L:Addr}
def jg (e:Value) (h:env.frame=fV.frame):noteFrame e env=noteFrame e fV:=by unfold noteFrame PySem.frameOf;rw[h]
def oU (vw:A.frames=some (env::outer)) (hl:s.heap.FunFrames base (env::outer)) (hf:env.frame=some L) (F:je N cls a H s.heap) (fresh:∀b,s.heap.objs.size<=b->H b=none) {head:Value} {zP:Bool} {Q:Unit->Shared->Prop}
  (q:∀h',sj (eW (env::outer)) a s.heap h'->je N cls a H h'->(∃T,cY h' a T)->Q () {s with heap:=h'}):
  wpAny M A (do let x<-frameOf env;let pl<-entryPlaceOf L zP;let b<-EntryCells.newEntry head x .none (rawInt L) .none pl;setField (.ref a) 1 b) Q E s:=by
 obtain⟨oe,vs,he,qa,hd,h1⟩:=F.obj;have ib:1 < vs.size:=by rcases h1 with h1 | ⟨T,h1⟩ <;> exact(Array.getElem?_eq_some_iff.mp h1).1
 have JL:a∉eW (env::outer):=λhm=>by obtain⟨_,o,ho,Lf⟩:=hl.mem hm;rw[he] at ho;injection ho with ho;subst ho;exact Lf vs hd
 refine Pi (wpAny_frameOf_fun vw hl hf λh₁ hs₁=>?_);refine Pi (wpAny_entryPlaceOf λpl gG=>?_);unfold EntryCells.newEntry newFields;refine Pi (wpAny_newObj_type ?_ (gG.sizeOk5 _ _ _ _ _));have he₁:h₁.get? a=some oe:=(hs₁.2.1 a JL).trans he;generalize hT:({cls:= .type "traceback",dict:=none,data:= .fields ([head,.ref L,.none,rawInt L,.none]++(if pl.isEmpty then List.replicate 6 Value.none else pl)).toArray}:Obj)=oT;have Ol:oT.data= .fields ([head,.ref L,.none,rawInt L,.none]++(if pl.isEmpty then List.replicate 6 Value.none else pl)).toArray:=by rw[<-hT]
 have OW:oT.isFreed=false:=by rw[<-hT];rfl
 have he₂:=Pk (h:=h₁) oT he₁;refine wpAny_setField he₂ hd ib (q _ ?_ ?_ ?_)
 all_goals
  have hz:h₁.objs.size=s.heap.objs.size:=hs₁.1;have ME:h₁.objs.size≠a:=Nat.ne_of_gt (Py he₁);have hd₃:=Obj.data_mapFields hd (·.setIfInBounds 1 (Value.ref h₁.objs.size));have he₃:=Heap.get?_update_self (Obj.mapFields (·.setIfInBounds 1 (Value.ref h₁.objs.size))) he₂ (Obj.isFreed_of_fields hd₃);have hT₃:=(P1 (h₁.push oT) (Obj.mapFields (·.setIfInBounds 1 (Value.ref h₁.objs.size))) (Ne.symm ME)).trans (Pv h₁ OW);have kp:∀b o,b≠a->h₁.get? b=some o->((h₁.push oT).update a (Obj.mapFields (·.setIfInBounds 1 (Value.ref h₁.objs.size)))).get? b=some o:=λb o hb e=>
   (P1 _ _ (Ne.symm hb)).trans (Pk _ e)
  have L4:∀T,cY ((h₁.push oT).update a (Obj.mapFields (·.setIfInBounds 1 (Value.ref h₁.objs.size)))) a T->T=h₁.objs.size:=λT ⟨o,ws,z1,z2,z3⟩=>by rw[he₃] at z1;cases z1;rw[hd₃] at z2;cases z2;simp[ib] at z3;exact z3.symm
 ·refine⟨λb o e n nt nf=>kp b o n ((hs₁.2.1 b nf).trans e),λb o e n nt=>?_,λb o e=>?_,λT z=> .inr ?_⟩
  ·obtain⟨sl,e1⟩:=hs₁.2.2 b o e;exact⟨sl,kp b _ n e1⟩
  ·by_cases hb:b=a
   ·subst hb;exact⟨_,he₃⟩
   ·obtain⟨sl,e1⟩:=hs₁.2.2 b o e;exact⟨_,kp b _ hb e1⟩
  ·rw[L4 T z,hz];exact Heap.get?_none_of_le (Pt _)
 ·refine⟨F.ge,F.nH,⟨_,_,he₃,⟨(Obj.cls_mapFields _ _).trans qa.1,(kR _ _).trans qa.2⟩,hd₃,.inr ⟨h₁.objs.size,by simp[ib]⟩⟩,λT z=>?_⟩;have e:=L4 T z;subst e;refine⟨?_,fresh _ (by rw[hz];exact Pt _),ME,oT,_,hT₃,Ol,by simp⟩;rw[hz];exact Pz F.ge (Nat.le_of_lt (Py he))
 ·exact⟨h₁.objs.size,_,_,he₃,hd₃,by simp[ib]⟩
def xF (vw:A.frames=some (env::outer)) (hl:s.heap.FunFrames base (env::outer)) (hf:env.frame=some L) (F:je N cls a H s.heap) (fresh:∀b,s.heap.objs.size<=b->H b=none) {Q:Unit->Shared->Prop}
  (q:∀h',sj (eW (env::outer)) a s.heap h'->je N cls a H h'->(∃T,cY h' a T)->Q () {s with heap:=h'}):wpAny M A (noteFrame (.ref a) env) Q E s:=by
 obtain⟨oe,vs,he,qa,hd,h1⟩:=id F.obj;unfold noteFrame;simp only[hf];rcases h1 with h1 | ⟨T,h1⟩
 ·refine Pi (wpAny_field he hd h1 ?_);rw[if_neg (by decide)];exact oU vw hl hf F fresh q
 ·have qo:cY s.heap a T:=⟨oe,vs,he,hd,h1⟩;obtain⟨t1,t2,t3,oT,ts,hT,yC,h3⟩:=F.tb T qo;refine Pi (wpAny_field he hd h1 ?_);rw[if_pos (show (Value.ref T != Value.none)=true from by simp)];refine Pi (wpAny_field hT yC (x:=ts[3]) (by simp[h3]) ?_);split
  ·have e:s={s with heap:=s.heap}:=by cases s;rfl
   rw[e];exact Pl (q s.heap sj.refl F ⟨T,qo⟩)
  ·refine Pi (wpAny_setField hT yC h3 ?_);have other:∀b,b≠T->(s.heap.update T (Obj.mapFields (·.setIfInBounds 3 Value.none))).get? b=s.heap.get? b:=λb hb=>P1 _ _ (Ne.symm hb)
   have GV:=Heap.get?_update_self (Obj.mapFields (·.setIfInBounds 3 Value.none)) hT (Obj.isFreed_of_fields (Obj.data_mapFields yC _));have GW:∀T',cY (s.heap.update T (Obj.mapFields (·.setIfInBounds 3 Value.none))) a T'->T'=T:=λT' ⟨o,ws,z1,z2,z3⟩=>by rw[other a (Ne.symm t3),he] at z1;cases z1;rw[hd] at z2;cases z2;rw[h1] at z3;cases z3;rfl
   have F':je N cls a H (s.heap.update T (Obj.mapFields (·.setIfInBounds 3 Value.none))):=by refine⟨F.ge,F.nH,⟨oe,vs,(other a (Ne.symm t3)).trans he,qa,hd,.inr ⟨T,h1⟩⟩,λT' z=>?_⟩;rw[GW T' z];exact⟨t1,t2,t3,_,_,GV,Obj.data_mapFields yC _,by simpa using h3⟩
   have Aq:(s.heap.update T (Obj.mapFields (·.setIfInBounds 3 Value.none))).FunFrames base (env::outer):=hl.of_keeps λb o hb Lf=>⟨o,(other b λz=>by
    subst z;rw[hT] at hb;cases hb;exact Lf ts yC).trans hb,rfl⟩
   refine oU (s:={s with heap:=s.heap.update T (Obj.mapFields (·.setIfInBounds 3 Value.none))}) vw Aq hf F' (λb hb=>fresh b (by
    have:(s.heap.update T (Obj.mapFields (·.setIfInBounds 3 Value.none))).objs.size=s.heap.objs.size:=Heap.size_after_update ..;rw[this] at hb;exact hb)) λh' x f t=>q h' (sj.trans ⟨λb o e n nt nf=>(other b λz=>nt (z▸qo)).trans e,λb o e n nt=>⟨o.slots,(other b λz=>nt (z▸qo)).trans e⟩,λb o e=>?_,λT' z=> .inl (by rw[GW T' z];exact qo)⟩ x) f t
   by_cases hb:b=T
   ·subst hb;exact⟨_,GV⟩
   ·exact⟨o,(other b hb).trans e⟩
def zZ (vw:A.frames=some (fV::outer)) (hl:s.heap.FunFrames base (fV::outer)) (Ox:fV.frame=some L) (hf:env.frame=fV.frame) (F:je N cls a H s.heap) (fresh:∀b,s.heap.objs.size<=b->H b=none) {Q:Unit->Shared->Prop}
  (q:∀h',sj (eW (fV::outer)) a s.heap h'->je N cls a H h'->(∃T,cY h' a T)->Q () {s with heap:=h'}):wpAny M A (noteFrame (.ref a) env) Q E s:=by
 rw[jg _ hf];exact xF vw hl Ox F fresh q
def iV {fs:List Addr} {fl:Option Addr} (F:je N cls a H s.heap) (ht:∃T,cY s.heap a T) {Q:Unit->Shared->Prop} (q:∀h',sj fs a s.heap h'->je N cls a H h'->(∃T,cY h' a T)->Q () {s with heap:=h'}):wpAny M A (setFlight (.ref a) fl) Q E s:=by
 obtain⟨T,qo⟩:=ht;obtain⟨t1,t2,t3,oT,ts,hT,yC,h3⟩:=F.tb T qo;obtain⟨oe,vs,he,hd,h1⟩:=id qo;obtain⟨O4,vJ,Jf,qa,rO,_⟩:=id F.obj;rw[he] at Jf;cases Jf;unfold setFlight;refine Pi (wpAny_field he hd h1 ?_);rw[if_pos (show (Value.ref T != Value.none)=true from by simp)];refine wpAny_setField hT yC h3 ?_;generalize hx:(fl.elim Value.none λf=>rawInt f)=x;have other:∀b,b≠T->(s.heap.update T (Obj.mapFields (·.setIfInBounds 3 x))).get? b=s.heap.get? b:=λb hb=>P1 _ _ (Ne.symm hb)
 have GV:=Heap.get?_update_self (Obj.mapFields (·.setIfInBounds 3 x)) hT (Obj.isFreed_of_fields (Obj.data_mapFields yC _));have GW:∀T',cY (s.heap.update T (Obj.mapFields (·.setIfInBounds 3 x))) a T'->T'=T:=λT' ⟨o,ws,z1,z2,z3⟩=>by rw[other a (Ne.symm t3),he] at z1;cases z1;rw[hd] at z2;cases z2;rw[h1] at z3;cases z3;rfl
 refine q _ ⟨λb o e n nt nf=>(other b λz=>nt (z▸qo)).trans e,λb o e n nt=>⟨o.slots,(other b λz=>nt (z▸qo)).trans e⟩,λb o e=>?_,λT' z=> .inl (by rw[GW T' z];exact qo)⟩ ⟨F.ge,F.nH,⟨oe,vs,(other a (Ne.symm t3)).trans he,qa,hd,.inr ⟨T,h1⟩⟩,λT' z=>?_⟩ ⟨T,oe,vs,(other a (Ne.symm t3)).trans he,hd,h1⟩
 ·by_cases hb:b=T
  ·subst hb;exact⟨_,GV⟩
  ·exact⟨o,(other b hb).trans e⟩
 ·rw[GW T' z];exact⟨t1,t2,t3,_,_,GV,Obj.data_mapFields yC _,by simpa using h3⟩
def Ap {fs:List Addr} {KU:String} {α:Type} (F:je N cls a H s.heap) (ht:∃T,cY s.heap a T) {Q:α->Shared->Prop} (q:∀h',sj fs a s.heap h'->je N cls a H h'->(∃T,cY h' a T)->E (.ref a) {s with heap:=h'}):wpAny M A (passOn KU (.ref a) env:Sem α) Q E s:=by obtain⟨T,qo⟩:=id ht;obtain⟨oe,vs,he,hd,h1⟩:=qo;unfold PySem.passOn;refine Pi (wpAny_field he hd h1 ?_);rw[if_neg (show¬((Value.ref T==Value.none)=true) from by simp)];exact Pi (iV F ht λh' x f t=>wpAny_throw (q h' x f t))
def Ac {fs:List Addr} (F:je N cls a H s.heap) (ht:∃T,cY s.heap a T) (q:∀h',sj fs a s.heap h'->je N cls a H h'->(∃T,cY h' a T)->E (.ref a) {s with heap:=h'}):cameBackBy M A env E (.ref a) s:=by obtain⟨T,qo⟩:=id ht;obtain⟨oe,vs,he,hd,h1⟩:=qo;unfold cameBackBy;refine Pi (wpAny_field he hd h1 ?_);rw[if_neg (show¬((Value.ref T==Value.none)=true) from by simp)];exact iV F ht λh' x f t=>q h' x f t
end
section
variable {X:Cx} {σ:St} {H:Hp} {s:Shared} {cls:Value} {a:Addr}
def Inv.II {h':Heap} (Mn:X.pn=[]) (I:Inv X [] σ H s) (F:je X.s₀.heap.objs.size cls a H s.heap) (x:sj (eW X.stack) a s.heap h'):Inv X [] σ H {s with heap:=h'}:=by
 obtain⟨oa,va,ha,M5,Oo,Pf⟩:=F.obj;have Jv:∀b,cY s.heap a b->X.s₀.heap.objs.size<=b/\H b=none/\b≠a/\∃oT ts,s.heap.get? b=some oT/\oT.data= .fields ts/\3 < ts.size:=F.tb;have MK:∀b o,s.heap.get? b=some o->(∀vs,o.data≠ .fields vs)->b≠a/\¬cY s.heap a b:=λb o e nf=>by
  refine⟨λz=>?_,λz=>?_⟩
  ·subst z;rw[ha] at e;cases e;exact nf va Oo
  ·obtain⟨_,_,_,oT,ts,hT,yC,_⟩:=Jv b z;rw[hT] at e;cases e;exact nf ts yC
 have old:∀b o,X.s₀.heap.get? b=some o->b≠a/\¬cY s.heap a b:=λb o e=>by
  refine⟨λz=>?_,λz=>?_⟩
  ·subst z;exact absurd (PQ (Py e) F.ge) (Nat.lt_irrefl _)
  ·exact absurd (PQ (Py e) (Jv b z).1) (Nat.lt_irrefl _)
 have Jn:∀b o,X.s₀.heap.get? b=some o->b≠X.env.locals:=λb o e=>P5 (PQ (Py e) I.ok.above)
 have Fe:∀b o,X.s₀.heap.get? b=some o->b∈eW X.stack->b∈X.fs:=λb o e z=>by
  rcases PC.mp (I.kg b z) with q | q
  ·exact absurd q (Jn b o e)
  ·exact q
 have EM:∀c u,H c=some u->∀v,s.heap.get? c=some v->h'.get? c=some v:=λc u hc v e=>by
  refine x.keep c v e (λz=>by subst z;rw[F.nH] at hc;cases hc) (λz=>by rw[(Jv c z).2.1] at hc;cases hc) λz=>?_
  rw[I.nO c z] at hc;cases hc
 have cellK:∀y c,X.env.cells.lookup y=some c->∀v,s.heap.IsCell c v->h'.IsCell c v:=λy c e v ⟨o,ho,hd⟩=>by
  obtain⟨n1,n2⟩:=MK c o ho λvs q=>by rw[hd] at q;cases q
  obtain⟨sl,q⟩:=x.slot c o ho n1 n2;exact⟨_,q,hd⟩
 refine⟨I.ok,I.os,I.bare,⟨λb o e n hb hx=>?_,λb o e n hb hx=>?_,I.base.free,λb o e hx=>?_,I.base.tups,I.base.frzs,I.base.tbls⟩,?_,λy c e=>?_,I.free,I.dw,λp hp=>?_,?_,I.len⟩
 ·exact x.keep b o (I.base.keep b o e n hb hx) (old b o e).1 (old b o e).2 λz=>hb (Fe b o e z)
 ·obtain⟨sl,e1⟩:=I.base.slot b o e n hb hx;obtain⟨Fx,e2⟩:=x.slot b _ e1 (old b o e).1 (old b o e).2;exact⟨Fx,e2⟩
 ·obtain⟨o',e1⟩:=I.base.there b o e hx;exact x.there b o' e1
 ·obtain⟨m,⟨o,es,ep,ho,hd,r⟩,hl⟩:=I.loc;obtain⟨n1,n2⟩:=MK _ o ho λvs q=>by rw[hd] at q;cases q
  obtain⟨sl,q⟩:=x.slot _ o ho n1 n2;refine⟨m,⟨_,es,ep,q,hd,r⟩,λi y v e1 e2 e3=>?_⟩;obtain⟨u,rr,l⟩:=hl i y v e1 e2 e3;refine⟨u,rr,?_⟩;rcases l with l | ⟨k,c,e,z⟩
  ·exact .inl l
  ·exact .inr ⟨k,c,e,cellK y c e _ z⟩
 ·obtain⟨v,z⟩:=I.cell y c e;exact⟨v,cellK y c e v z⟩
 ·rw[Mn] at hp;cases hp
 ·intro b u e;refine(I.hok b u e).iR (λc v hc q=>?_) (λ_ q=>q) λ_ _ q=>q
  rcases hc with rfl | hc
  ·exact EM c u e v q
  ·exact EM c _ hc v q
end
def kB (X:Cx) (E:XK) (e:Value) (s':Shared):Prop:=∃σ H' a cls,e= .ref a/\Inv X [] σ H' s'/\je X.s₀.heap.objs.size cls a H' s'.heap/\E cls none H'
def om (P:Program) (w:World):j9:=λouter H s E e s'=>∃H' a cls,e= .ref a/\s'.os=s.os/\AllBare s'.gens/\Un (eW outer) [] H H' s.heap s'.heap/\eh P w H' s'.heap/\je s.heap.objs.size cls a H' s'.heap/\E cls none H'
structure fz (X:Cx):Prop where
 pn:X.pn=[]
 st:∃fV mQ L,X.stack=fV::mQ/\fV.frame=some L/\X.env.frame=fV.frame
section
variable {X:Cx} {E:XK}
def wV {CX:j9} {P:Program} {w:World} {K:PySem.W.Frag} {mg:Str->Option Value} {base:Heap} {N:List Str} {qual:Str} {scope:Scope} {f:Addr} {cd:Value} {A:Around} {outer:List Env} {s:Shared} {H:Hp}:fz (kf CX P w K mg base N qual scope f cd A outer s H E):=
 ⟨rfl,_,_,_,rfl,rfl,rfl⟩
def nJ {scope:Scope} {N':List Str} {C:Addr} {s:Shared} {H:Hp} {fp:List Addr} {xe:Value->Shared->Prop} (st:fz X):fz (eR X scope N' C s H fp xe):=by obtain⟨hp,fV,mQ,L,h1,h2,h3⟩:=st;exact⟨rfl,fV,mQ,L,h1,h2,h3⟩
def je.down {N N':Nat} {cls:Value} {a:Addr} {H:Hp} {h:Heap} (F:je N cls a H h) (hn:N'<=N):je N' cls a H h:=⟨Pz hn F.ge,F.nH,F.obj,λT z=>⟨Pz hn (F.tb T z).1,(F.tb T z).2⟩⟩
def wq {pins:List (Addr×Obj)} {σ:St} {H:Hp} {s s':Shared} {e:Value} (I:Inv X pins σ H s) (Mn:X.pn=[]) (c:om X.prog X.w X.stack H s E e s'):kB X E e s':=by
 obtain⟨H',a,cls,e1,h1,h2,h3,h4,h5,h6⟩:=c;have I1:Inv X pins σ H' s':=I.yN (ch:=[]) h1 h3 h4 h2 λb z=>by cases z
 refine⟨σ,H',a,cls,e1,I1.jJ (λp hp=>by cases hp),h5.down I.sz,h6⟩
def lD (st:fz X) {e:Value} {s:Shared} (h:kB X E e s) {Q:Unit->Shared->Prop} {E2:Value->Shared->Prop} (q:∀σ H' a cls s',e= .ref a->Inv X [] σ H' s'->je X.s₀.heap.objs.size cls a H' s'.heap->(∃T,cY s'.heap a T)->E cls none H'->Q () s'):wpAny (model X.prog X.w) X.A (noteFrame e X.env) Q E2 s:=by
 obtain⟨σ,H',a,cls,rfl,I,F,hE⟩:=h;obtain⟨hp,fV,mQ,L,h1,h2,h3⟩:=st;have vw:=I.ok.frames;have hl:=I.stack;rw[h1] at vw hl;refine zZ vw hl h2 h3 F (λb hb=>I.hok.fresh hb) λh' x f t=>?_
 rw[<-h1] at x;exact q σ H' a cls _ rfl (I.II hp F x) f t hE
def pI (st:fz X) {e:Value} {s:Shared} (h:kB X E e s) {R:Value->Shared->Prop} (q:∀σ H' a cls s',e= .ref a->Inv X [] σ H' s'->je X.s₀.heap.objs.size cls a H' s'.heap->(∃T,cY s'.heap a T)->E cls none H'->R e s'):notedBy (model X.prog X.w) X.A X.env R e s:=
 lD st h q
def uh (st:fz X) (hx:∀e s',kB X E e s'->X.xe e s') (Aa:∀e s',X.xe e s'->kB X E e s'):PassesOwn (model X.prog X.w) X.A X.env X.xe:=λe s' h=>by
 refine pI st (Aa e s' h) λσ H' a cls s1 e1 I1 F1 t1 hE=>?_
 subst e1;exact Ac (fs:=eW X.stack) F1 t1 λh' x f t=>hx _ _ ⟨σ,H',a,cls,rfl,I1.II st.pn F1 x,f,hE⟩
end
def ED {P:Program} {w:World} {K:PySem.W.Frag} {mg:Str->Option Value} {base:Heap} {N:List Str} {qual:Str} {scope:Scope} {f:Addr} {cd:Value} {A:Around} {outer:List Env} {s:Shared} {H:Hp} {E:XK} {e:Value} {s':Shared}
  (h:kB (kf (om P w) P w K mg base N qual scope f cd A outer s H E) E e s'):(kf (om P w) P w K mg base N qual scope f cd A outer s H E).xe e s':=by
 have st:=wV (CX:=om P w) (P:=P) (w:=w) (K:=K) (mg:=mg) (base:=base) (N:=N) (qual:=qual) (scope:=scope) (f:=f) (cd:=cd) (A:=A) (outer:=outer) (s:=s) (H:=H) (E:=E);show wpAny (model P w) (A.deeper (envOfC qual scope s.heap.objs.size f cd)) (leaving (envOfC qual scope s.heap.objs.size f cd) e) (λ_ s''=>om P w outer H s E e s'') (λe' s''=>om P w outer H s E e' s'') s';unfold leaving;refine Pi (lD st h λσ H' a cls s1 e1 I1 F1 t1 hE=>?_);subst e1;refine iV (fs:=eW (kf (om P w) P w K mg base N qual scope f cd A outer s H E).stack) F1 t1 λh' x f' t=>?_
 have I2:=I1.II st.pn F1 x;exact⟨H',a,cls,rfl,I2.os,I2.bare,I2.base,I2.hok,f',hE⟩
section
variable {X:Cx} {E:XK} {scope:Scope} {N':List Str}
def Cx.Ok.xe {xe:Value->Shared->Prop} (k:X.Ok):Cx.Ok {X with xe:=xe}:=by grind [Cx.Ok]
def Inv.xe {xe:Value->Shared->Prop} {pins:List (Addr×Obj)} {σ:St} {H:Hp} {s:Shared} (I:Inv X pins σ H s):Inv {X with xe:=xe} pins σ H s:=⟨I.ok.xe,I.os,I.bare,I.base,I.loc,I.cell,I.free,I.dw,I.pin,I.hok,I.len⟩
def rW (X:Cx) (scope:Scope) (N':List Str) (E:XK) (C:Addr) (s:Shared) (H:Hp) (fp:List Addr):Value->Shared->Prop:=kB (eR X scope N' C s H fp λ_ _=>False) E
def yA {C:Addr} {s:Shared} {H:Hp} {fp:List Addr} {e:Value} {s':Shared} {xe:Value->Shared->Prop} (h:kB (eR X scope N' C s H fp xe) E e s'):rW X scope N' E C s H fp e s':=by obtain⟨σ,H',a,cls,e1,I,F,hE⟩:=h;exact⟨σ,H',a,cls,e1,I.xe,F,hE⟩
def yx {C:Addr} {s:Shared} {H:Hp} {fp:List Addr} {e:Value} {s':Shared} {xe:Value->Shared->Prop} (h:rW X scope N' E C s H fp e s'):kB (eR X scope N' C s H fp xe) E e s':=by obtain⟨σ,H',a,cls,e1,I,F,hE⟩:=h;exact⟨σ,H',a,cls,e1,I.xe,F,hE⟩
def sI {C:Addr} {s:Shared} {H:Hp} {fp:List Addr} (st:fz X):PassesOwn (model X.prog X.w) X.A (eR X scope N' C s H fp (rW X scope N' E C s H fp)).env (rW X scope N' E C s H fp):=
 uh (X:=eR X scope N' C s H fp (rW X scope N' E C s H fp)) (E:=E) (nJ st) (λe s' h=>yA h) (λe s' h=>yx h)
def je.at {h0:Nat} {cls:Value} {a:Addr} {H:Hp} {h h':Heap} (F:je h0 cls a H h) (k:∀b o vs,h.get? b=some o->o.data= .fields vs->h'.get? b=some o):je h0 cls a H h':=by obtain⟨o,vs,h1,h2,h3,h4⟩:=F.obj;have e1:=k a o vs h1 h3;refine⟨F.ge,F.nH,⟨o,vs,e1,h2,h3,h4⟩,λT z=>?_⟩;obtain⟨o',ws,z1,z2,z3⟩:=z;rw[e1] at z1;cases z1;obtain⟨t1,t2,t3,oT,ts,t4,t5,t6⟩:=F.tb T ⟨o,ws,h1,z2,z3⟩;exact⟨t1,t2,t3,oT,ts,k T oT ts t4 t5,t5,t6⟩
def jF (st:fz X) (Ot:∀e s',kB X E e s'->X.xe e s'):AW X scope N' (rW X scope N' E):=by
 refine⟨λpins σ C s s1 H H1 fp x s' I1 f1 hC hs hH BA hxb=>?_⟩;refine pI (X:=eR X scope N' C s H fp (rW X scope N' E C s H fp)) (nJ st) (yx hxb) λσ' H' a cls s5 e1 I5 F5 t5 hE=>?_
 subst e1;obtain⟨m5,LH,_⟩:=I5.loc;have x9:s5.heap.Ns C m5:=LH;refine⟨m5,x9,λh' se uR uM=>?_⟩;have un:Un (eW X.stack) fp H1 H' s1.heap s5.heap:=by
  have u1:Un (eW X.stack) fp H1 H s1.heap s.heap:=by rw[hH,hs];exact Un.laid (λb u e=>Pk _ e) (Pt _) I1.fresh
  exact u1.trans I5.base
 have hI:Inv X pins σ H' s5:=I1.yN (ch:=fp) (I5.os.trans (by show s.os=s1.os;rw[hs])) un I5.hok I5.bare λb hb=>⟨(f1 b hb).2.2.2.1,(f1 b hb).2.1,(f1 b hb).2.2.2.2.1,(f1 b hb).2.2.2.2.2⟩
 have fC:fW X pins H' C:=I1.pA (Nat.le_of_lt hC) I5.free;have MC:Inv X pins σ H' {s5 with heap:=h',toks:=s5.toks}:=hI.turned (t':=s5.toks) (λb o hb e=>(se.2 b hb).trans e) fC.1 fC.2.1 fC.2.2.2.1 fC.2.2.2.2.1 fC.2.2.2.2.2;have OA:Inv X [] σ H' {s5 with heap:=h'}:=MC.jJ λp hp=>by cases hp
 have ib:s1.heap.objs.size<=s.heap.objs.size:=by rw[hs];show _<=(s1.heap.push _).objs.size;rw[P4];exact Nat.le_succ _
 have F6:je X.s₀.heap.objs.size cls a H' h':=by
  have hd:∀b o vs,s5.heap.get? b=some o->o.data= .fields vs->h'.get? b=some o:=λb o vs e hd=>by refine(se.2 b λz=>?_).trans e;subst z;obtain⟨o',es,ep,oy,rO,_⟩:=x9;rw[e] at oy;cases oy;rw[hd] at rO;cases rO
  exact(F5.at hd).down (Pz I1.sz ib)
 have t6:∃T,cY h' a T:=by obtain⟨T,o,vs,z1,z2,z3⟩:=t5;refine⟨T,o,vs,(se.2 a λz=>?_).trans z1,z2,z3⟩;subst z;obtain⟨o',es,ep,oy,rO,_⟩:=x9;rw[z1] at oy;cases oy;rw[z2] at rO;cases rO
 exact Ap (s:={s5 with heap:=h'}) (fs:=eW X.stack) F6 t6 λh'' x f t=>Ot _ _ ⟨σ,H',a,cls,rfl,OA.II st.pn F6 x,f,hE⟩
end
end L2
end
section
namespace Rx
open PySem PySem.W PySem.Spec PyProof.Rows L2 PySem.SeqAt
inductive Dt where
 | bo | bl (b:Bool) | int (i:Int) | str (x:Str) | tup (ds:List Dt) | lst (ds:List Dt) | bK (ns:List Int)
 | Bb (ks vs:List Dt) | obj (c:Nat) (fs:List Dt) | exc (c:Nat)
abbrev Frag:=PySem.W.Frag
def KL (K:Frag) (a:Addr) (xs:List V):Prop:=∃(o:Obj) (its:Array Value) (n:Nat),K.lookup a=some o/\o.cls= .type "list"/\o.dict=none/\o.data= .seq its n/\its.size<=sizeLine/\aw xs its.toList
mutual
def RV (K:Frag) (A:Addr->Prop) (H:Hp):V->Dt->Prop
 | x,.bo=>x= .bo
 | x,.bl b=>x= .bl b
 | x,.int i=>x= .int i
 | x,.str z=>x= .str z
 | x,.tup ds=>∃a xs,x= .ref a/\H a=some (.tup xs)/\ai K A H xs ds
 | x,.lst ds=>∃a xs,x= .ref a/\H a=some (.lst xs)/\¬A a/\ai K A H xs ds
 | x,.bK ns=>∃a,x= .ref a/\((Rd H a (.lst (ns.map V.int))/\¬A a)\/KL K a (ns.map V.int))
 | _,.Bb _ _=>False
 | _,.obj _ _=>False
 | _,.exc _=>False
def ai (K:Frag) (A:Addr->Prop) (H:Hp):List V->List Dt->Prop
 | [],[]=>True
 | x::xs,d::ds=>RV K A H x d/\ai K A H xs ds
 | [],_::_=>False
 | _::_,[]=>False
end
section
variable {K:Frag} {A B:Addr->Prop} {H H':Hp}
def RV.aF {x:V} (h:RV K A H x .bo):x= .bo:=by unfold RV at h;exact h
def RV.aC {x:V} {b} (h:RV K A H x (.bl b)):x= .bl b:=by unfold RV at h;exact h
def RV.int_inv {x:V} {b} (h:RV K A H x (.int b)):x= .int b:=by unfold RV at h;exact h
def RV.str_inv {x:V} {b} (h:RV K A H x (.str b)):x= .str b:=by unfold RV at h;exact h
theorem RV.ag {x:V} {ds} (h:RV K A H x (.tup ds)):∃a xs,x= .ref a/\H a=some (.tup xs)/\ai K A H xs ds:=by unfold RV at h;exact h
def RV.lst_inv {x:V} {ds} (h:RV K A H x (.lst ds)):∃a xs,x= .ref a/\H a=some (.lst xs)/\¬A a/\ai K A H xs ds:=by unfold RV at h;exact h
def RV.fL {x:V} {ns} (h:RV K A H x (.bK ns)):∃a,x= .ref a/\((Rd H a (.lst (ns.map V.int))/\¬A a)\/KL K a (ns.map V.int)):=by unfold RV at h;exact h
def RV.iZ {x:V} {ns} (h:RV K A H x (.bK ns)):∃a,x= .ref a/\c6 K H a (ns.map V.int):=by
 obtain⟨a,e,h | h⟩:=h.fL
 ·exact⟨a,e,.inl h.1⟩
 ·exact⟨a,e,.inr h⟩
def RV.jB {x:V} {ks vs} (h:RV K A H x (.Bb ks vs)):False:=by unfold RV at h;exact h
def RV.jn {x:V} {ks vs} (h:RV K A H x (.obj ks vs)):False:=by unfold RV at h;exact h
def RV.jl {x:V} {ks} (h:RV K A H x (.exc ks)):False:=by unfold RV at h;exact h
def RV.gE:RV K A H .bo .bo:=by unfold RV;rfl
def RV.qb {b}:RV K A H (.bl b) (.bl b):=by unfold RV;rfl
def RV.dh {b}:RV K A H (.int b) (.int b):=by unfold RV;rfl
def RV.i6 {b}:RV K A H (.str b) (.str b):=by unfold RV;rfl
def RV.cV {a xs ds} (h:H a=some (.tup xs)) (t:ai K A H xs ds):RV K A H (.ref a) (.tup ds):=by unfold RV;exact⟨a,xs,rfl,h,t⟩
def RV.eC {a xs ds} (h:H a=some (.lst xs)) (n:¬A a) (t:ai K A H xs ds):RV K A H (.ref a) (.lst ds):=by unfold RV;exact⟨a,xs,rfl,h,n,t⟩
def ai.nil:ai K A H [] []:=by unfold ai;trivial
def ai.cons {x d xs ds} (h:RV K A H x d) (t:ai K A H xs ds):ai K A H (x::xs) (d::ds):=by unfold ai;exact⟨h,t⟩
def ai.nil_inv {xs} (h:ai K A H xs []):xs=[]:=by
 cases xs with
 | nil=>rfl
 | cons=>unfold ai at h;exact h.elim
def ai.df {ds} (h:ai K A H [] ds):ds=[]:=by
 cases ds with
 | nil=>rfl
 | cons=>unfold ai at h;exact h.elim
def ai.cons_inv {xs d ds} (h:ai K A H xs (d::ds)):∃x r,xs=x::r/\RV K A H x d/\ai K A H r ds:=by
 cases xs with
 | nil=>unfold ai at h;exact h.elim
 | cons x r=>unfold ai at h;exact⟨x,r,rfl,h⟩
def ai.lP {x xs ds} (h:ai K A H (x::xs) ds):∃d r,ds=d::r/\RV K A H x d/\ai K A H xs r:=by
 cases ds with
 | nil=>unfold ai at h;exact h.elim
 | cons d r=>unfold ai at h;exact⟨d,r,rfl,h⟩
def ai.length:∀{xs ds},ai K A H xs ds->xs.length=ds.length
 | [],[],_=>rfl
 | [],_::_,h=>by unfold ai at h;exact h.elim
 | _::_,[],h=>by unfold ai at h;exact h.elim
 | _::xs,_::ds,h=>by unfold ai at h;simp[ai.length h.2]
def ai.get:∀{xs ds} {i:Nat} {x},ai K A H xs ds->xs[i]?=some x->∃d,ds[i]?=some d/\RV K A H x d
 | [],_,_,_,_,e=>by simp at e
 | _::_,[],_,_,h,_=>by unfold ai at h;exact h.elim
 | _::_,_::_,0,_,h,e=>by unfold ai at h;simp at e;subst e;exact⟨_,rfl,h.1⟩
 | _::xs,_::ds,i + 1,x,h,e=>by unfold ai at h;obtain⟨d,e1,e2⟩:=ai.get (i:=i) h.2 (by simpa using e);exact⟨d,by simpa using e1,e2⟩
def ai.getD:∀{xs ds} {i:Nat} {d},ai K A H xs ds->ds[i]?=some d->∃x,xs[i]?=some x/\RV K A H x d
 | _,[],_,_,_,e=>by simp at e
 | [],_::_,_,_,h,_=>by unfold ai at h;exact h.elim
 | _::_,_::_,0,_,h,e=>by unfold ai at h;simp at e;subst e;exact⟨_,rfl,h.1⟩
 | _::xs,_::ds,i + 1,x,h,e=>by unfold ai at h;obtain⟨d,e1,e2⟩:=ai.getD (i:=i) h.2 (by simpa using e);exact⟨d,by simpa using e1,e2⟩
def ai.append:∀{xs ys ds es},ai K A H xs ds->ai K A H ys es->ai K A H (xs++ys) (ds++es)
 | [],_,[],_,_,h=>h
 | [],_,_::_,_,h,_=>by unfold ai at h;exact h.elim
 | _::_,_,[],_,h,_=>by unfold ai at h;exact h.elim
 | _::xs,ys,_::ds,es,h,h'=>by unfold ai at h;exact ai.cons h.1 (ai.append h.2 h')
def ai.take:∀{xs ds} (n:Nat),ai K A H xs ds->ai K A H (xs.take n) (ds.take n)
 | [],ds,n,h=>by rw[h.df];simp;exact ai.nil
 | x::xs,[],n,h=>by unfold ai at h;exact h.elim
 | x::xs,d::ds,0,h=>by simp;exact ai.nil
 | x::xs,d::ds,n + 1,h=>by unfold ai at h;simp only[List.take_succ_cons];exact ai.cons h.1 (ai.take n h.2)
def ai.drop:∀{xs ds} (n:Nat),ai K A H xs ds->ai K A H (xs.drop n) (ds.drop n)
 | [],ds,n,h=>by rw[h.df];simp;exact ai.nil
 | x::xs,[],n,h=>by unfold ai at h;exact h.elim
 | x::xs,d::ds,0,h=>h
 | x::xs,d::ds,n + 1,h=>by unfold ai at h;simp only[List.drop_succ_cons];exact ai.drop n h.2
def ai.set:∀{xs ds} (n:Nat) {x d},ai K A H xs ds->RV K A H x d->ai K A H (xs.set n x) (ds.set n d)
 | [],ds,n,_,_,h,_=>by rw[h.df];simp;exact ai.nil
 | x::xs,[],n,_,_,h,_=>by unfold ai at h;exact h.elim
 | x::xs,d::ds,0,_,_,h,h'=>by unfold ai at h;simp only[List.set_cons_zero];exact ai.cons h' h.2
 | x::xs,d::ds,n + 1,_,_,h,h'=>by unfold ai at h;simp only[List.set_cons_succ];exact ai.cons h.1 (ai.set n h.2 h')
def ai.rep {xs ds} (h:ai K A H xs ds):∀k:Nat,ai K A H (List.replicate k xs).flatten (List.replicate k ds).flatten
 | 0=>by simp;exact ai.nil
 | k + 1=>by rw[List.replicate_succ,List.replicate_succ,List.flatten_cons,List.flatten_cons];exact h.append (ai.rep h k)
structure aV (X:Addr->Prop) (H H':Hp):Prop where
 kp:∀b o,H b=some o->¬X b->H' b=some o
 tp:∀b xs,H b=some (.tup xs)->H' b=some (.tup xs)
def aV.of_same {X:Addr->Prop} (s:bu H H'):aV X H H':=⟨λb o e _=>s b o e,λb xs e=>s b _ e⟩
def aV.refl {X:Addr->Prop}:aV X H H:=⟨λ_ _ e _=>e,λ_ _ e=>e⟩
def aV.trans {X:Addr->Prop} {H1:Hp} (a:aV X H H1) (b:aV X H1 H'):aV X H H':=⟨λc o e n=>b.kp c o (a.kp c o e n) n,λc xs e=>b.tp c xs (a.tp c xs e)⟩
def aV.mono {X Y:Addr->Prop} (a:aV X H H') (h:∀b,X b->Y b):aV Y H H':=⟨λb o e n=>a.kp b o e λz=>n (h b z),a.tp⟩
def yl {X:Addr->Prop} {a:Addr} {u:HO} (e:aV X H H') (n:¬X a) (h:Rd H a u):Rd H' a u:=by grind [HO,aV,Rd]
mutual
def RV.mono {X:Addr->Prop} (e:aV X H H') (hX:∀b,X b->A b) (hB:∀b,B b->A b):∀{x d},RV K A H x d->RV K B H' x d
 | x,.bo,h=>by rw[h.aF];exact RV.gE
 | x,.bl b,h=>by rw[h.aC];exact RV.qb
 | x,.int b,h=>by rw[h.int_inv];exact RV.dh
 | x,.str b,h=>by rw[h.str_inv];exact RV.i6
 | x,.tup ds,h=>by obtain⟨a,xs,rfl,h1,h2⟩:=h.ag;exact RV.cV (e.tp _ _ h1) (ai.mono e hX hB h2)
 | x,.lst ds,h=>by obtain⟨a,xs,rfl,h1,h3,h2⟩:=h.lst_inv;exact RV.eC (e.kp _ _ h1 λz=>h3 (hX _ z)) (λz=>h3 (hB _ z)) (ai.mono e hX hB h2)
 | x,.bK ns,h=>by
  obtain⟨a,rfl,⟨h1,h3⟩ | h1⟩:=h.fL
  ·unfold RV;exact⟨a,rfl,.inl ⟨yl e (λz=>h3 (hX _ z)) h1,λz=>h3 (hB _ z)⟩⟩
  ·unfold RV;exact⟨a,rfl,.inr h1⟩
 | x,.Bb ..,h=>h.jB.elim
 | x,.obj ..,h=>h.jn.elim
 | x,.exc ..,h=>h.jl.elim
def ai.mono {X:Addr->Prop} (e:aV X H H') (hX:∀b,X b->A b) (hB:∀b,B b->A b):∀{xs ds},ai K A H xs ds->ai K B H' xs ds
 | [],[],_=>ai.nil
 | [],_::_,h=>by unfold ai at h;exact h.elim
 | _::_,[],h=>by unfold ai at h;exact h.elim
 | _::xs,_::ds,h=>by unfold ai at h;exact ai.cons (RV.mono e hX hB h.1) (ai.mono e hX hB h.2)
end
def RV.same {x d} (h:RV K A H x d) (s:bu H H'):RV K A H' x d:=h.mono (X:=λ_=>False) (aV.of_same s) (λ_ z=>z.elim) λ_ z=>z
def ai.same {x d} (h:ai K A H x d) (s:bu H H'):ai K A H' x d:=h.mono (X:=λ_=>False) (aV.of_same s) (λ_ z=>z.elim) λ_ z=>z
def RV.weak {x d} (h:RV K A H x d) (hB:∀b,B b->A b):RV K B H x d:=h.mono (X:=λ_=>False) aV.refl (λ_ z=>z.elim) hB
def ai.weak {x d} (h:ai K A H x d) (hB:∀b,B b->A b):ai K B H x d:=h.mono (X:=λ_=>False) aV.refl (λ_ z=>z.elim) hB
mutual
def RV.avoid {p:Addr} (hp:H p=none):∀{x d},RV K A H x d->RV K (λb=>A b\/b=p) H x d
 | x,.bo,h=>by rw[h.aF];exact RV.gE
 | x,.bl b,h=>by rw[h.aC];exact RV.qb
 | x,.int b,h=>by rw[h.int_inv];exact RV.dh
 | x,.str b,h=>by rw[h.str_inv];exact RV.i6
 | x,.tup ds,h=>by obtain⟨a,xs,rfl,h1,h2⟩:=h.ag;exact RV.cV h1 (ai.avoid hp h2)
 | x,.lst ds,h=>by obtain⟨a,xs,rfl,h1,h3,h2⟩:=h.lst_inv;exact RV.eC h1 (λz=>z.elim h3 λe=>by rw[e,hp] at h1;cases h1) (ai.avoid hp h2)
 | x,.bK ns,h=>by
  obtain⟨a,rfl,⟨h1,h3⟩ | h1⟩:=h.fL
  ·unfold RV;refine⟨a,rfl,.inl ⟨h1,λz=>z.elim h3 λe=>?_⟩⟩;subst e;rcases h1 with h1 | ⟨o,h1⟩ <;> (rw[hp] at h1;cases h1)
  ·unfold RV;exact⟨a,rfl,.inr h1⟩
 | x,.Bb ..,h=>h.jB.elim
 | x,.obj ..,h=>h.jn.elim
 | x,.exc ..,h=>h.jl.elim
def ai.avoid {p:Addr} (hp:H p=none):∀{xs ds},ai K A H xs ds->ai K (λb=>A b\/b=p) H xs ds
 | [],[],_=>ai.nil
 | [],_::_,h=>by unfold ai at h;exact h.elim
 | _::_,[],h=>by unfold ai at h;exact h.elim
 | _::xs,_::ds,h=>by unfold ai at h;exact ai.cons (RV.avoid hp h.1) (ai.avoid hp h.2)
end
end
section
variable {K:Frag} {A B:Addr->Prop} {H:Hp}
mutual
def RV.bz (hp:∀b,B b->A b\/H b=none):∀{x d},RV K A H x d->RV K B H x d
 | x,.bo,h=>by rw[h.aF];exact RV.gE
 | x,.bl b,h=>by rw[h.aC];exact RV.qb
 | x,.int b,h=>by rw[h.int_inv];exact RV.dh
 | x,.str b,h=>by rw[h.str_inv];exact RV.i6
 | x,.tup ds,h=>by obtain⟨a,xs,rfl,h1,h2⟩:=h.ag;exact RV.cV h1 (ai.bz hp h2)
 | x,.lst ds,h=>by obtain⟨a,xs,rfl,h1,h3,h2⟩:=h.lst_inv;exact RV.eC h1 (λz=>(hp a z).elim h3 λe=>by rw[e] at h1;cases h1) (ai.bz hp h2)
 | x,.bK ns,h=>by
  obtain⟨a,rfl,⟨h1,h3⟩ | h1⟩:=h.fL
  ·unfold RV;refine⟨a,rfl,.inl ⟨h1,λz=>(hp a z).elim h3 λe=>?_⟩⟩;rcases h1 with h1 | ⟨o,h1⟩ <;> (rw[e] at h1;cases h1)
  ·unfold RV;exact⟨a,rfl,.inr h1⟩
 | x,.Bb ..,h=>h.jB.elim
 | x,.obj ..,h=>h.jn.elim
 | x,.exc ..,h=>h.jl.elim
def ai.bz (hp:∀b,B b->A b\/H b=none):∀{xs ds},ai K A H xs ds->ai K B H xs ds
 | [],[],_=>ai.nil
 | [],_::_,h=>by unfold ai at h;exact h.elim
 | _::_,[],h=>by unfold ai at h;exact h.elim
 | _::xs,_::ds,h=>by unfold ai at h;exact ai.cons (RV.bz hp h.1) (ai.bz hp h.2)
end
end
mutual
def gk:Dt->Bool
 | .bo | .bl _ | .int _ | .str _=>true
 | .tup ds=>gI ds
 | _=>false
def gI:List Dt->Bool
 | []=>true
 | d::ds=>gk d&&gI ds
end
mutual
def RV.gk {K:Frag} {A B:Addr->Prop} {H:Hp}:∀{x d},RV K A H x d->gk d=true->RV K B H x d
 | x,.bo,h,_=>by rw[h.aF];exact RV.gE
 | x,.bl b,h,_=>by rw[h.aC];exact RV.qb
 | x,.int b,h,_=>by rw[h.int_inv];exact RV.dh
 | x,.str b,h,_=>by rw[h.str_inv];exact RV.i6
 | x,.tup ds,h,n=>by obtain⟨a,xs,rfl,h1,h2⟩:=h.ag;exact RV.cV h1 (ai.gI h2 (by simpa [Rx.gk] using n))
 | x,.lst ds,_,n=>by simp[Rx.gk] at n
 | x,.bK ds,_,n=>by simp[Rx.gk] at n
 | x,.Bb ..,h,_=>h.jB.elim
 | x,.obj ..,h,_=>h.jn.elim
 | x,.exc ..,h,_=>h.jl.elim
def ai.gI {K:Frag} {A B:Addr->Prop} {H:Hp}:∀{xs ds},ai K A H xs ds->gI ds=true->ai K B H xs ds
 | [],[],_,_=>ai.nil
 | [],_::_,h,_=>by unfold ai at h;exact h.elim
 | _::_,[],h,_=>by unfold ai at h;exact h.elim
 | _::xs,_::ds,h,n=>by unfold ai at h;simp only[Rx.gI,Pm] at n;exact ai.cons (RV.gk h.1 n.1) (ai.gI h.2 n.2)
end
mutual
def toD:Dt->Option Mx.D
 | .int i=>some (.int i)
 | .str x=>some (.str x)
 | .tup ds=>(kH ds).map Mx.D.tup
 | _=>none
def kH:List Dt->Option (List Mx.D)
 | []=>some []
 | d::ds=>(toD d).bind λm=>(kH ds).map (m:: ·)
end
mutual
def ofD:Mx.D->Dt
 | .int i=> .int i
 | .str x=> .str x
 | .tup ds=> .tup (aa ds)
def aa:List Mx.D->List Dt
 | []=>[]
 | d::ds=>ofD d::aa ds
end
def ba:∀ds:List Mx.D,aa ds=ds.map ofD
 | []=>by simp[aa]
 | d::ds=>by simp[aa,ba ds]
mutual
def DY:∀m:Mx.D,toD (ofD m)=some m
 | .int i=>by simp[ofD,toD]
 | .str x=>by simp[ofD,toD]
 | .tup ds=>by simp[ofD,toD,fM ds]
def fM:∀ms:List Mx.D,kH (aa ms)=some ms
 | []=>by simp[aa,kH]
 | m::ms=>by simp[aa,kH,DY m,fM ms]
end
mutual
def CB:∀{d:Dt} {m:Mx.D},toD d=some m->d=ofD m
 | .int i,m,h=>by simp[toD] at h;subst h;simp[ofD]
 | .str i,m,h=>by simp[toD] at h;subst h;simp[ofD]
 | .tup ds,m,h=>by simp only[toD,PH] at h;obtain⟨ms,h1,rfl⟩:=h;rw[mT h1];simp[ofD]
 | .bo,m,h=>by simp[toD] at h
 | .bl _,m,h=>by simp[toD] at h
 | .lst _,m,h=>by simp[toD] at h
 | .bK _,m,h=>by simp[toD] at h
 | .Bb _ _,m,h=>by simp[toD] at h
 | .obj _ _,m,h=>by simp[toD] at h
 | .exc _,m,h=>by simp[toD] at h
def mT:∀{ds:List Dt} {ms:List Mx.D},kH ds=some ms->ds=aa ms
 | [],ms,h=>by simp[kH] at h;subst h;simp[aa]
 | d::ds,ms,h=>by simp only[kH,Pj,PH] at h;obtain⟨m,h1,r,h2,rfl⟩:=h;rw[CB h1,mT h2];simp[aa]
end
mutual
def RV.dv {K:Frag} {A:Addr->Prop} {H:Hp}:∀{x} {m:Mx.D},RV K A H x (ofD m)->Mx.DV H x m
 | x,.int i,h=>by simp only[ofD] at h;rw[h.int_inv];exact Mx.DV.int
 | x,.str i,h=>by simp only[ofD] at h;rw[h.str_inv];exact Mx.DV.str
 | x,.tup ms,h=>by simp only[ofD] at h;obtain⟨a,xs,rfl,h1,h2⟩:=h.ag;exact Mx.DV.tup h1 (ai.vn h2)
def ai.vn {K:Frag} {A:Addr->Prop} {H:Hp}:∀{xs} {ms:List Mx.D},ai K A H xs (aa ms)->Mx.aX H xs ms
 | [],[],_=>Mx.aX.nil
 | [],_::_,h=>by simp only[aa] at h;unfold ai at h;exact h.elim
 | _::_,[],h=>by simp only[aa] at h;unfold ai at h;exact h.elim
 | _::xs,_::ds,h=>by simp only[aa] at h;unfold ai at h;exact Mx.aX.cons (RV.dv h.1) (ai.vn h.2)
end
mutual
def RV.Gc {K:Frag} {A:Addr->Prop} {H:Hp}:∀{x} {m:Mx.D},Mx.DV H x m->RV K A H x (ofD m)
 | x,.int i,h=>by simp only[ofD];rw[h.int_inv];exact RV.dh
 | x,.str i,h=>by simp only[ofD];rw[h.str_inv];exact RV.i6
 | x,.tup ms,h=>by simp only[ofD];obtain⟨a,xs,rfl,h1,h2⟩:=h.ag;exact RV.cV h1 (ai.mN h2)
def ai.mN {K:Frag} {A:Addr->Prop} {H:Hp}:∀{xs} {ms:List Mx.D},Mx.aX H xs ms->ai K A H xs (aa ms)
 | [],[],_=>by simp only[aa];exact ai.nil
 | [],_::_,h=>by unfold Mx.aX at h;exact h.elim
 | _::_,[],h=>by unfold Mx.aX at h;exact h.elim
 | _::xs,_::ds,h=>by simp only[aa];unfold Mx.aX at h;exact ai.cons (RV.Gc h.1) (ai.mN h.2)
end
mutual
def bH:Dt->Dt->Bool
 | .bo,.bo=>true
 | .bl a,.bl b=>a==b
 | .int a,.int b=>a==b
 | .bl a,.int b=>(if a then(1:Int) else 0)==b
 | .int a,.bl b=>a==(if b then(1:Int) else 0)
 | .str a,.str b=>a==b
 | .tup a,.tup b=>bP a b
 | .lst a,.lst b=>bP a b
 | _,_=>false
def bP:List Dt->List Dt->Bool
 | [],[]=>true
 | x::xs,y::ys=>bH x y&&bP xs ys
 | _,_=>false
end
mutual
def pl:Dt->Bool
 | .bo | .bl _ | .int _ | .str _=>true
 | .tup ds=>l7 ds
 | .lst ds=>l7 ds
 | _=>false
def l7:List Dt->Bool
 | []=>true
 | d::ds=>pl d&&l7 ds
end
mutual
def dp:Dt->Nat
 | .tup ds=>rA ds + 1
 | .lst ds=>rA ds + 1
 | _=>0
def rA:List Dt->Nat
 | []=>0
 | d::ds=>max (dp d) (rA ds)
end
mutual
def iY:∀d:Dt,pl d=true->bH d d=true
 | .bo,_=>by simp[bH]
 | .bl b,_=>by simp[bH]
 | .int b,_=>by simp[bH]
 | .str b,_=>by simp[bH]
 | .tup ds,h=>by simp only[bH];exact gz ds (by simpa [pl] using h)
 | .lst ds,h=>by simp only[bH];exact gz ds (by simpa [pl] using h)
 | .bK _,h=>by simp[pl] at h
 | .Bb _ _,h=>by simp[pl] at h
 | .obj _ _,h=>by simp[pl] at h
 | .exc _,h=>by simp[pl] at h
def gz:∀ds:List Dt,l7 ds=true->bP ds ds=true
 | [],_=>by simp[bP]
 | d::ds,h=>by simp only[l7,Pm] at h;simp only[bP,Pm];exact⟨iY d h.1,gz ds h.2⟩
end
mutual
def RV.inj {K:Frag} {A B:Addr->Prop} {H:Hp}:∀{x d e},RV K A H x d->RV K B H x e->pl d=true->pl e=true->d=e
 | x,.bo,e,h,g,_,n=>by have:=h.aF;subst this;cases e <;> first | rfl | (exfalso;unfold RV at g;first | (simp[pl] at n;done) | (obtain⟨_,_,q,_⟩:=g;cases q;done) | (cases g;done))
 | x,.bl b,e,h,g,_,n=>by have:=h.aC;subst this;cases e <;> first | (unfold RV at g;injection g with g;rw[g]) | (exfalso;unfold RV at g;first | (simp[pl] at n;done) | (obtain⟨_,_,q,_⟩:=g;cases q;done) | (cases g;done))
 | x,.int b,e,h,g,_,n=>by have:=h.int_inv;subst this;cases e <;> first | (unfold RV at g;injection g with g;rw[g]) | (exfalso;unfold RV at g;first | (simp[pl] at n;done) | (obtain⟨_,_,q,_⟩:=g;cases q;done) | (cases g;done))
 | x,.str b,e,h,g,_,n=>by have:=h.str_inv;subst this;cases e <;> first | (unfold RV at g;injection g with g;rw[g]) | (exfalso;unfold RV at g;first | (simp[pl] at n;done) | (obtain⟨_,_,q,_⟩:=g;cases q;done) | (cases g;done))
 | x,.tup ds,e,h,g,m,n=>by
  obtain⟨a,xs,rfl,h1,h2⟩:=h.ag;cases e with
  | tup es=>obtain⟨b,ys,q,g1,g2⟩:=g.ag;cases q;rw[h1] at g1;cases g1;rw[ai.inj h2 g2 (by simpa [pl] using m) (by simpa [pl] using n)]
  | lst es=>obtain⟨b,ys,q,g1,_⟩:=g.lst_inv;cases q;rw[h1] at g1;cases g1
  | _=>exfalso;unfold RV at g;first | (simp[pl] at n;done) | (cases g;done)
 | x,.lst ds,e,h,g,m,n=>by
  obtain⟨a,xs,rfl,h1,_,h2⟩:=h.lst_inv;cases e with
  | lst es=>obtain⟨b,ys,q,g1,_,g2⟩:=g.lst_inv;cases q;rw[h1] at g1;cases g1;rw[ai.inj h2 g2 (by simpa [pl] using m) (by simpa [pl] using n)]
  | tup es=>obtain⟨b,ys,q,g1,_⟩:=g.ag;cases q;rw[h1] at g1;cases g1
  | _=>exfalso;unfold RV at g;first | (simp[pl] at n;done) | (cases g;done)
 | x,.bK ds,_,_,_,n,_=>by simp[pl] at n
 | x,.Bb ..,_,_,_,n,_=>by simp[pl] at n
 | x,.obj ..,_,_,_,n,_=>by simp[pl] at n
 | x,.exc ..,_,_,_,n,_=>by simp[pl] at n
def ai.inj {K:Frag} {A B:Addr->Prop} {H:Hp}:∀{xs ds es},ai K A H xs ds->ai K B H xs es->l7 ds=true->l7 es=true->ds=es
 | [],ds,es,h,g,_,_=>by rw[h.df,g.df]
 | x::xs,ds,es,h,g,m,n=>by obtain⟨d,r,rfl,h1,h2⟩:=h.lP;obtain⟨e,t,rfl,g1,g2⟩:=g.lP;simp only[l7,Pm] at m n;rw[RV.inj h1 g1 m.1 n.1,ai.inj h2 g2 m.2 n.2]
end
def uo (ds es:List Dt) (j:Nat):Bool:=match ds[j]?,es[j]? with
 | some d,some e=>bH d e
 | _,_=>true
def cK:∀ds es:List Dt,((List.range (min ds.length es.length)).all (uo ds es)&&ds.length==es.length)=bP ds es
 | [],[]=>by simp[bP]
 | [],_::_=>by simp[bP]
 | _::_,[]=>by simp[bP]
 | d::ds,e::es=>by
  have ih:=cK ds es;have hm:min (d::ds).length (e::es).length=min ds.length es.length + 1:=by simp only[PM];omega
  have e1:((d::ds).length==(e::es).length)=(ds.length==es.length):=by rw[Bool.eq_iff_iff];simp
  rw[hm,List.range_succ_eq_map,List.all_cons,List.all_map,e1,bP,<-ih,Bool.and_assoc];rfl
def nD {d:Dt}:∀{ds:List Dt} {j:Nat},ds[j]?=some d->dp d<=rA ds
 | [],_,h=>by simp at h
 | d'::ds,0,h=>by simp at h;subst h;unfold rA;omega
 | d'::ds,j + 1,h=>by have:=nD (ds:=ds) (j:=j) (by simpa using h);unfold rA;omega
def gH {d:Dt}:∀{ds:List Dt} {j:Nat},l7 ds=true->ds[j]?=some d->pl d=true
 | [],_,_,h=>by simp at h
 | d'::ds,0,n,h=>by simp at h;subst h;simp only[l7,Pm] at n;exact n.1
 | d'::ds,j + 1,n,h=>by simp only[l7,Pm] at n;exact gH (ds:=ds) (j:=j) n.2 (by simpa using h)
section
variable {P:Program} {w:World} {K:Frag} {A B:Addr->Prop} {H:Hp} {s:Shared}
def aM (hok:eh P w H s.heap) {a:Addr} {xs:List V} (h:H a=some (.lst xs)):∃its:List Value,aw xs its/\s.heap.IsList a its.toArray:=by obtain⟨_,its,n,r,t⟩:=hok a _ h;exact⟨its,r,⟨_,t,rfl,_,rfl⟩⟩
def HA (hok:eh P w H s.heap):∀(n:Nat) (d e:Dt) (x y:V) (u v:Value) (R:Around),dp d<=n->pl d=true->pl e=true->R.units + n < cLine->RV K A H x d->RV K B H y e->RelV x u->RelV y v->EqAt R s u v (bH d e):=by
 intro n
 induction n with
 | zero=>
  intro d e x y u v R hd jm fw hu hx hy rx ry;cases d with
  | bo=>
   have:=hx.aF;subst this;cases rx;cases e with
   | bo=>have:=hy.aF;subst this;cases ry;exact EqAt.same _
   | bl j=>have:=hy.aC;subst this;cases ry;exact EqAt.none_bool j
   | int j=>have:=hy.int_inv;subst this;obtain⟨t',rfl⟩:=ry;exact EqAt.none_int j t'
   | str j=>have:=hy.str_inv;subst this;obtain⟨t',rfl⟩:=ry;exact EqAt.none_str j t'
   | tup j=>obtain⟨b,ys,q,f1,f2⟩:=hy.ag;subst q;cases ry;obtain⟨its,_,ht⟩:=Mx.ax hok f1;exact EqAt.none_tuple ht (by omega)
   | lst j=>obtain⟨b,ys,q,f1,_,f2⟩:=hy.lst_inv;subst q;cases ry;obtain⟨its,_,ht⟩:=aM hok f1;exact EqAt.none_list ht (by omega)
   | _=>simp[pl] at fw
  | bl i=>
   have:=hx.aC;subst this;cases rx;cases e with
   | bo=>have:=hy.aF;subst this;cases ry;exact EqAt.bool_none _
   | bl j=>have:=hy.aC;subst this;cases ry;exact EqAt.bool_bool i j
   | int j=>have:=hy.int_inv;subst this;obtain⟨t',rfl⟩:=ry;exact EqAt.bool_int i j t'
   | str j=>have:=hy.str_inv;subst this;obtain⟨t',rfl⟩:=ry;exact EqAt.bool_str i j t'
   | tup j=>obtain⟨b,ys,q,f1,f2⟩:=hy.ag;subst q;cases ry;obtain⟨its,_,ht⟩:=Mx.ax hok f1;exact EqAt.bool_tuple i ht (by omega)
   | lst j=>obtain⟨b,ys,q,f1,_,f2⟩:=hy.lst_inv;subst q;cases ry;obtain⟨its,_,ht⟩:=aM hok f1;exact EqAt.bool_list i ht (by omega)
   | _=>simp[pl] at fw
  | int i=>
   have:=hx.int_inv;subst this;obtain⟨t,rfl⟩:=rx;cases e with
   | bo=>have:=hy.aF;subst this;cases ry;exact EqAt.int_none i t
   | bl j=>have:=hy.aC;subst this;cases ry;exact EqAt.int_bool i t j
   | int j=>have:=hy.int_inv;subst this;obtain⟨t',rfl⟩:=ry;exact EqAt.int_int i t j t'
   | str j=>have:=hy.str_inv;subst this;obtain⟨t',rfl⟩:=ry;exact EqAt.int_str i t j t'
   | tup j=>obtain⟨b,ys,q,f1,f2⟩:=hy.ag;subst q;cases ry;obtain⟨its,_,ht⟩:=Mx.ax hok f1;exact EqAt.int_tuple i t ht (by omega)
   | lst j=>obtain⟨b,ys,q,f1,_,f2⟩:=hy.lst_inv;subst q;cases ry;obtain⟨its,_,ht⟩:=aM hok f1;exact EqAt.int_list i t ht (by omega)
   | _=>simp[pl] at fw
  | str i=>
   have:=hx.str_inv;subst this;obtain⟨t,rfl⟩:=rx;cases e with
   | bo=>have:=hy.aF;subst this;cases ry;exact EqAt.str_none i t
   | bl j=>have:=hy.aC;subst this;cases ry;exact EqAt.str_bool i t j
   | int j=>have:=hy.int_inv;subst this;obtain⟨t',rfl⟩:=ry;exact EqAt.str_int i t j t'
   | str j=>have:=hy.str_inv;subst this;obtain⟨t',rfl⟩:=ry;exact EqAt.str_str i t j t'
   | tup j=>obtain⟨b,ys,q,f1,f2⟩:=hy.ag;subst q;cases ry;obtain⟨its,_,ht⟩:=Mx.ax hok f1;exact EqAt.str_tuple i t ht (by omega)
   | lst j=>obtain⟨b,ys,q,f1,_,f2⟩:=hy.lst_inv;subst q;cases ry;obtain⟨its,_,ht⟩:=aM hok f1;exact EqAt.str_list i t ht (by omega)
   | _=>simp[pl] at fw
  | tup ds=>unfold dp at hd;omega
  | lst ds=>unfold dp at hd;omega
  | _=>simp[pl] at jm
 | succ n ih=>
  intro d e x y u v R hd jm fw hu hx hy rx ry;cases d with
  | tup ds=>
   obtain⟨a,xs,q,e1,e2⟩:=hx.ag;subst q;cases rx;obtain⟨its,r1,ht⟩:=Mx.ax hok e1;cases e with
   | bo=>have:=hy.aF;subst this;cases ry;exact EqAt.tuple_none ht (by omega)
   | bl j=>have:=hy.aC;subst this;cases ry;exact EqAt.tuple_bool j ht (by omega)
   | int j=>have:=hy.int_inv;subst this;obtain⟨t',rfl⟩:=ry;exact EqAt.tuple_int j t' ht (by omega)
   | str j=>have:=hy.str_inv;subst this;obtain⟨t',rfl⟩:=ry;exact EqAt.tuple_str j t' ht (by omega)
   | lst j=>obtain⟨b,ys,q,f1,_,f2⟩:=hy.lst_inv;subst q;cases ry;obtain⟨aJ,_,bW⟩:=aM hok f1;exact EqAt.tuple_list ht bW (by omega)
   | tup es=>
    obtain⟨b,ys,q,f1,f2⟩:=hy.ag;subst q;cases ry;obtain⟨aJ,r2,bW⟩:=Mx.ax hok f1;by_cases gu:a=b
    ·subst gu;have:=RV.inj hx hy jm fw;cases this;rw[iY _ jm];exact EqAt.same _
    ·have l1:its.toArray.size=ds.length:=by rw[Pn,<-r1.length,e2.length]
     have l2:aJ.toArray.size=es.length:=by rw[Pn,<-r2.length,f2.length]
     have key:=RcAt.tuples (A:=R) (e:=uo ds es) ht bW (by omega) (λj h1 h2=>?_)
     ·have q:=cK ds es;rw[<-l1,<-l2] at q;rw[q] at key;exact EqAt.of_refs gu key
     ·have iJ:j < xs.length:=by rw[e2.length,<-l1];exact h1
      have l6:j < ys.length:=by rw[f2.length,<-l2];exact h2
      obtain⟨d,g1,g2⟩:=e2.get (i:=j) (x:=xs[j]) (by simp[iJ]);obtain⟨e,k1,k2⟩:=f2.get (i:=j) (x:=ys[j]) (by simp[l6]);obtain⟨u,sV,ru⟩:=r1.get (i:=j) (x:=xs[j]) (by simp[iJ]);obtain⟨v,Ak,rv⟩:=r2.get (i:=j) (x:=ys[j]) (by simp[l6]);have eu:its.toArray[j]=u:=by simp only[List.getElem_toArray];exact(Pp.mp sV).2
      have ev:aJ.toArray[j]=v:=by simp only[List.getElem_toArray];exact(Pp.mp Ak).2
      rw[eu,ev,show uo ds es j=bH d e by unfold uo;rw[g1,k1]];have:=nD g1;unfold dp at hd;exact ih d e xs[j] ys[j] u v R.in1 (by omega) (gH (by simpa [pl] using jm) g1) (gH (by simpa [pl] using fw) k1) (by show R.units + 1 + n < cLine;omega) g2 k2 ru rv
   | _=>simp[pl] at fw
  | lst ds=>
   obtain⟨a,xs,q,e1,_,e2⟩:=hx.lst_inv;subst q;cases rx;obtain⟨its,r1,ht⟩:=aM hok e1;cases e with
   | bo=>have:=hy.aF;subst this;cases ry;exact EqAt.list_none ht (by omega)
   | bl j=>have:=hy.aC;subst this;cases ry;exact EqAt.list_bool j ht (by omega)
   | int j=>have:=hy.int_inv;subst this;obtain⟨t',rfl⟩:=ry;exact EqAt.list_int j t' ht (by omega)
   | str j=>have:=hy.str_inv;subst this;obtain⟨t',rfl⟩:=ry;exact EqAt.list_str j t' ht (by omega)
   | tup j=>obtain⟨b,ys,q,f1,f2⟩:=hy.ag;subst q;cases ry;obtain⟨aJ,_,bW⟩:=Mx.ax hok f1;exact EqAt.list_tuple ht bW (by omega)
   | lst es=>
    obtain⟨b,ys,q,f1,_,f2⟩:=hy.lst_inv;subst q;cases ry;obtain⟨aJ,r2,bW⟩:=aM hok f1;by_cases gu:a=b
    ·subst gu;have:=RV.inj hx hy jm fw;cases this;rw[iY _ jm];exact EqAt.same _
    ·have l1:its.toArray.size=ds.length:=by rw[Pn,<-r1.length,e2.length]
     have l2:aJ.toArray.size=es.length:=by rw[Pn,<-r2.length,f2.length]
     have q:=cK ds es;by_cases hl:ds.length=es.length
     ·have key:=RcAt.lists (A:=R) (e:=uo ds es) ht bW (by omega) (by omega) (λj h1 h2=>?_)
      ·rw[hl,Nat.min_self,beq_self_eq_true,Bool.and_true] at q;rw[l1,hl,q] at key;exact EqAt.of_refs gu key
      ·have iJ:j < xs.length:=by rw[e2.length,<-l1];exact h1
       have l6:j < ys.length:=by rw[f2.length,<-l2];exact h2
       obtain⟨d,g1,g2⟩:=e2.get (i:=j) (x:=xs[j]) (by simp[iJ]);obtain⟨e,k1,k2⟩:=f2.get (i:=j) (x:=ys[j]) (by simp[l6]);obtain⟨u,sV,ru⟩:=r1.get (i:=j) (x:=xs[j]) (by simp[iJ]);obtain⟨v,Ak,rv⟩:=r2.get (i:=j) (x:=ys[j]) (by simp[l6]);have eu:its.toArray[j]=u:=by simp only[List.getElem_toArray];exact(Pp.mp sV).2
       have ev:aJ.toArray[j]=v:=by simp only[List.getElem_toArray];exact(Pp.mp Ak).2
       rw[eu,ev,show uo ds es j=bH d e by unfold uo;rw[g1,k1]];have:=nD g1;unfold dp at hd;exact ih d e xs[j] ys[j] u v R.in1 (by omega) (gH (by simpa [pl] using jm) g1) (gH (by simpa [pl] using fw) k1) (by show R.units + 1 + n < cLine;omega) g2 k2 ru rv
     ·have key:=RcAt.lists_lengths (A:=R) ht bW (by rw[l1,l2];simpa using hl) (by omega);have hb:(ds.length==es.length)=false:=by simpa using hl
      rw[hb,Bool.and_false] at q;show EqAt R s _ _ (bP ds es);rw[<-q];exact EqAt.of_refs gu key
   | _=>simp[pl] at fw
  | _=>exact ih _ e x y u v R (by unfold dp;omega) jm fw (by omega) hx hy rx ry
end
inductive R (α:Type) where
 | ok (a:α) | ex (c:Nat) | bad
def R.bind {α β:Type}:R α->(α->R β)->R β
 | .ok a,f=>f a
 | .ex c,_=> .ex c
 | .bad,_=> .bad
@[simp] theorem R.ar {α β:Type} (a:α) (f:α->R β):(R.ok a).bind f=f a:=rfl
def R.nx {α:Type}:R α->R α
 | .ok a=> .ok a
 | _=> .bad
abbrev lim:Nat:=1000000
abbrev ak:=List (Option Dt)
abbrev Sx:=Option (List Int)
def af (b:Bool) {α:Type} (r:R α):R α:=if b then r else .bad
@[simp] theorem guard_true {α:Type} (r:R α):af true r=r:=rfl
def nG:Operator->Dt->Dt->R Dt
 | .Add,.int i,.int j=> .ok (.int (i + j))
 | .Add,.str x,.str y=>af (decide (x.length + y.length<=lim)) (.ok (.str (x++y)))
 | .Add,.lst x,.lst y=>af (decide (x.length + y.length<=lim)) (.ok (.lst (x++y)))
 | .Add,.tup x,.tup y=>af (decide (x.length + y.length<=lim)) (.ok (.tup (x++y)))
 | .Sub,.int i,.int j=> .ok (.int (i - j))
 | .Mult,.int i,.int j=>af (decide (i.natAbs < 2 ^ 64)||decide (j.natAbs < 2 ^ 64)) (.ok (.int (i * j)))
 | .Mult,.lst x,.int k=>af (decide (k.natAbs<=lim)&&decide (x.length * k.toNat<=lim)) (.ok (.lst (List.replicate k.toNat x).flatten))
 | .FloorDiv,.int i,.int j=>af (decide (0 < j)&&decide (j.natAbs.log2 < 9000)) (.ok (.int (i / j)))
 | .Mod,.int i,.int j=>af (decide (0 < j)) (.ok (.int (i % j)))
 | .Pow,.int i,.int j=>af (decide (0<=j)&&decide (j<=1000)&&decide (i.natAbs < 2 ^ 64)) (.ok (.int (i ^ j.toNat)))
 | _,_,_=> .bad
def fY (d e:Dt):Bool:=pl d&&pl e&&decide (dp d<=100)
def itemsOf:Dt->Option (List Dt)
 | .lst ds=>some ds
 | .tup ds=>some ds
 | .bK ns=>some (ns.map Dt.int)
 | _=>none
def bF:Dt->Option (List Dt)
 | .lst ds=>some ds
 | .tup ds=>some ds
 | _=>none
def cU:CmpOp->Dt->Dt->R Bool
 | .Eq,a,b=>af (fY a b) (.ok (bH a b))
 | .NotEq,a,b=>af (fY a b) (.ok (!bH a b))
 | .Lt,.int i,.int j=> .ok (decide (i < j))
 | .LtE,.int i,.int j=> .ok (decide (i<=j))
 | .Gt,.int i,.int j=> .ok (decide (j < i))
 | .GtE,.int i,.int j=> .ok (decide (j<=i))
 | _,_,_=> .bad
def dC:Dt->R Bool
 | .bo=> .ok false
 | .bl b=> .ok b
 | .int i=> .ok (i != 0)
 | .str y=>af (decide (y.length<=lim)) (.ok ((y.length:Int) != 0))
 | .lst ds=> .ok !ds.isEmpty
 | .tup ds=> .ok !ds.isEmpty
 | .bK ds=> .ok !ds.isEmpty
 | _=> .bad
def u6 (ds:List Dt) (i:Int):R Dt:=match kX ds i with
 | some d=> .ok d
 | none=> .bad
def c8:Dt->Dt->R Dt
 | .lst ds,.int i=>u6 ds i
 | .tup ds,.int i=>u6 ds i
 | .bK ns,.int i=>u6 (ns.map Dt.int) i
 | .str z,.int i=>af (decide (z.length<=lim)) (match kX z.cps.toList i with | some c=> .ok (.str ⟨#[c]⟩) | none=> .bad)
 | _,_=> .bad
def cutD {α:Type} (xs:List α) (lo hi:Option Int):List α:=(xs.drop (HT.bE xs.length 0 lo)).take (HT.bE xs.length xs.length hi - HT.bE xs.length 0 lo)
def ir:Dt->Option Int->Option Int->R Dt
 | .lst ds,lo,hi=> .ok (.lst (cutD ds lo hi))
 | .bK ds,lo,hi=> .ok (.lst (cutD (ds.map Dt.int) lo hi))
 | .tup ds,lo,hi=> .ok (.tup (cutD ds lo hi))
 | .str z,lo,hi=>af (decide (z.length<=lim)) (.ok (.str (PySem.Txt.slice z lo hi)))
 | _,_,_=> .bad
inductive BI where
 | len | abs | min2 | max2 | sum | any | all | minL | maxL | sorted | tuple | list | int | isi (T:String) | revL | revT | sset | zipL | maxD (i:Int)
 deriving DecidableEq
def intsOf:List Dt->Option (List Int)
 | []=>some []
 | .int i::r=>(intsOf r).map (i:: ·)
 | _=>none
def GN:List Dt->Option (List Bool)
 | []=>some []
 | .bl i::r=>(GN r).map (i:: ·)
 | _=>none
def oj (a b:Mx.D):Bool:= !Mx.D.lt b a
def aK (ds:List Mx.D):List Mx.D:=ds.mergeSort oj
mutual
def k7:Mx.D->Mx.D->Bool
 | .int _,.int _=>true
 | .str _,.str _=>true
 | .tup a,.tup b=>iC a b
 | _,_=>false
def iC:List Mx.D->List Mx.D->Bool
 | x::xs,y::ys=>k7 x y&&iC xs ys
 | _,_=>true
end
def Hj (k:Mx.SK):Mx.D->Bool
 | .tup (.tup _::_)=>k== .tt
 | .tup (.str _::_)=>k== .ts
 | .tup (.int _::_)=>k== .ti
 | .str _=>k== .s
 | .int _=>k== .i
 | _=>false
def il (ds:List Mx.D):Bool:=decide (ds.length < 1000000)&&(decide (ds.length < 2)||(decide (Mx.D.cC ds<=100)&&([Mx.SK.tt,.ts,.ti,.s,.i].any λk=>ds.all (Hj k))&&ds.all λd=>ds.all λe=>k7 d e))
def dd:List Str->List Str
 | []=>[]
 | x::r=>if x∈dd r then dd r else x::dd r
def qp:List Int->Int
 | []=>0
 | [a]=>a
 | a::r=>min a (qp r)
def eQ:List Int->Int
 | []=>0
 | [a]=>a
 | a::r=>max a (eQ r)
def strsOf:List Dt->Option (List Str)
 | []=>some []
 | .str i::r=>(strsOf r).map (i:: ·)
 | _=>none
def fk (xs ys:List Dt):List Dt:=List.zipWith (λx y=>Dt.tup [x,y]) xs ys
def de:Nat->List Dt->List Dt
 | _,[]=>[]
 | i,x::xs=>Dt.tup [.int i,x]::de (i + 1) xs
def uZ (T:String):Dt->R Bool
 | .str _=> .ok (T=="str")
 | .int _=> .ok (T=="int")
 | .bl _=> .ok (T=="bool"||T=="int")
 | .lst _=> .ok (T=="list")
 | .tup _=> .ok (T=="tuple")
 | .bo=> .ok false
 | _=> .bad
def dJ:BI->List Dt->R Dt
 | .len,[.str x]=>af (decide (x.length<=lim)) (.ok (.int x.length))
 | .len,[.lst ds]=> .ok (.int ds.length)
 | .len,[.tup ds]=> .ok (.int ds.length)
 | .len,[.bK ds]=> .ok (.int ds.length)
 | .min2,[.int i,.int j]=> .ok (.int (if j < i then j else i))
 | .sum,[.lst ds]=>match intsOf ds with | some ns=> .ok (.int ns.sum) | none=> .bad
 | .sorted,[d]=>match itemsOf d with
  | some ds=>match kH ds with
   | some ms=>af (il ms) (.ok (.lst (aa (aK ms))))
   | none=> .bad
  | none=> .bad
 | .tuple,[.lst ds]=> .ok (.tup ds)
 | .tuple,[.tup ds]=> .ok (.tup ds)
 | .list,[.lst ds]=> .ok (.lst ds)
 | .list,[.tup ds]=> .ok (.lst ds)
 | .list,[.bK ns]=> .ok (.lst (ns.map Dt.int))
 | .isi T,[d]=>(uZ T d).bind λb=> .ok (.bl b)
 | .revL,[.lst ds]=> .ok (.lst ds.reverse)
 | .revT,[.lst ds]=> .ok (.tup ds.reverse)
 | .maxL,[.lst ds]=>match intsOf ds with | some ns=>af (!ns.isEmpty) (.ok (.int (eQ ns))) | none=> .bad
 | .sset,[d]=>match bF d with
  | some ds=>match strsOf ds with
   | some ys=>af (decide (ys.length < 4000)) (.ok (.lst (aa (aK ((dd ys).map Mx.D.str)))))
   | none=> .bad
  | none=> .bad
 | .zipL,[a,b]=>match bF a,bF b with
  | some xs,some ys=>af (decide (xs.length<=lim)) (.ok (.lst (fk xs ys)))
  | _,_=> .bad
 | .maxD i,[.lst ds]=>match intsOf ds with | some ns=> .ok (.int (if ns.isEmpty then i else eQ ns)) | none=> .bad
 | _,_=> .bad
def isStr:Dt->Bool
 | .str _=>true
 | _=>false
inductive MT where
 | join
 deriving DecidableEq
def NP:MT->Dt->List Dt->R Dt
 | .join,.str z,[.lst ds]=>match strsOf ds with
  | some ys=>af (decide ((ys.map (·.length)).sum + ys.length * z.length<=lim)) (.ok (.str (PySem.Txt.join z ys)))
  | none=> .bad
 | _,_,_=> .bad
inductive Tg where
 | nm (i:Nat) | tp (is:List Nat)
 deriving DecidableEq
mutual
inductive C where
 | con (d:Dt) | var (i:Nat) | mvr (i:Nat)
 | bin (o:Operator) (a b:C) | cmp (o:CmpOp) (a b:C) | ch (o p:CmpOp) (a b c:C)
 | neg (a:C) | nt (a:C) | and (a b:C) | or (a b:C) | ite (t a b:C)
 | idx (a b:C) | sliL (a lo:C) | sliH (a hi:C) | sliB (a lo hi:C)
 | tup (es:Cs) | lst (es:Cs)
 | call (f:Nat) (es:Cs) (ds:List Dt) | callD (f:Nat) (es:Cs) | popD | lenD
 | bi (b:BI) (es:Cs) | mt (m:MT) (o:C) (es:Cs)
 | comp (cap:List (Option Nat)) (it:l0) (tg:Tg) (ts:Cs) (e:C)
 | ja (cap:List (Option Nat)) (it:l0) (tg:Tg) (ts:Cs) (it2:l0) (tg2:Tg) (EV:Cs) (e:C)
inductive Cs where
 | nil | cons (c:C) (cs:Cs)
inductive l0 where
 | seq (c:C) | rng1 (c:C) | rng2 (a b:C) | zip (a b:C) | enum (c:C)
end
def Cs.all (p:C->Bool):Cs->Bool
 | .nil=>true
 | .cons c cs=>p c&&cs.all p
mutual
def lk:C->Nat
 | .mvr _=>1
 | .and _ _=>0
 | .or _ _=>0
 | .ite _ a b=>max (lk a) (lk b)
 | .idx a _=>if lk a<=1 then 0 else 2
 | .sliL a _=>if lk a<=1 then 0 else 2
 | .sliH a _=>if lk a<=1 then 0 else 2
 | .sliB a _ _=>if lk a<=1 then 0 else 2
 | .bin _ a b=>if lk a<=1/\lk b<=1 then 0 else 2
 | .tup es=>if lL es=0 then 0 else 2
 | .lst es=>if lL es=0 then 0 else 2
 | .call _ es _=>if lL es=0 then 0 else 2
 | .callD _ es=>if lL es=0 then 0 else 2
 | .bi _ es=>if lL es<=1 then 0 else 2
 | _=>0
def lL:Cs->Nat
 | .nil=>0
 | .cons c cs=>max (lk c) (lL cs)
end
def qk:l0->Nat
 | .seq c=>lk c
 | .zip a b=>max (lk a) (lk b)
 | .enum c=>lk c
 | _=>0
def fresh (fr:Nat->Bool):C->Bool
 | .lst _=>true
 | .comp ..=>true
 | .ja ..=>true
 | .bi .sorted _=>true
 | .bi .list _=>true
 | .bi .revL _=>true
 | .bi .sset _=>true
 | .bi .zipL _=>true
 | .bin ..=>true
 | .call f _ _=>fr f
 | .callD f _=>fr f
 | _=>false
def bJ (c:C) (d:Dt):Bool:=decide (lk c=0)||gk d
def ml (c:C) (d:Dt):Bool:=decide (lk c=0)||match d with | .lst ds=>gI ds | d=>gk d
def ff (ρ:ak) (i:Nat):R Dt:=match ρ[i]? with
 | some (some d)=> .ok d
 | _=> .bad
def fX (cap:List (Option Nat)) (ρ:ak):ak:=cap.map λo=>o.bind λi=>(ρ[i]?).join
def dq:List Nat->List Dt->ak->R ak
 | [],[],ρ=> .ok ρ
 | i::is,d::ds,ρ=>dq is ds (ρ.set i (some d))
 | _,_,_=> .bad
def bY:Tg->Dt->ak->R ak
 | .nm i,d,ρ=> .ok (ρ.set i (some d))
 | .tp is,.tup ds,ρ=>dq is ds ρ
 | _,_,_=> .bad
def bg (f:Dt->Sx->R (List Dt×Sx)):List Dt->Sx->R (List Dt×Sx)
 | [],S=> .ok ([],S)
 | x::xs,S=>(f x S).bind λp=>(bg f xs p.2).bind λq=> .ok (p.1++q.1,q.2)
def br (tg:Tg) (N4:ak->Sx->R (Bool×Sx)) (body:ak->Sx->R (List Dt×Sx)) (ρ:ak) (d:Dt) (S:Sx):R (List Dt×Sx):=
 (bY tg d ρ).bind λρ1=>(N4 ρ1 S).bind λb=>if b.1 then body ρ1 b.2 else .ok ([],b.2)
def bU (lo:Int) (n:Nat):List Dt:=(List.range n).map λ(i:Nat)=>Dt.int (lo + (i:Int))
abbrev FT:=Nat->List Dt->Sx->R (Dt×Sx)
mutual
def ev (F:FT):C->ak->Sx->R (Dt×Sx)
 | .con d,_,S=> .ok (d,S)
 | .var i,ρ,S=>(ff ρ i).bind λd=> .ok (d,S)
 | .mvr i,ρ,S=>(ff ρ i).bind λd=> .ok (d,S)
 | .bin o a b,ρ,S=>(ev F a ρ S).bind λx=>(ev F b ρ x.2).bind λy=>(nG o x.1 y.1).bind λd=> .ok (d,y.2)
 | .cmp o a b,ρ,S=>(ev F a ρ S).bind λx=>(ev F b ρ x.2).bind λy=>(cU o x.1 y.1).bind λd=> .ok (.bl d,y.2)
 | .ch o p a b c,ρ,S=>(ev F a ρ S).bind λx=>(ev F b ρ x.2).bind λy=>(cU o x.1 y.1).bind λd=>
   if d then(ev F c ρ y.2).bind λz=>(cU p y.1 z.1).bind λe=> .ok (.bl e,z.2) else .ok (.bl false,y.2)
 | .neg a,ρ,S=>(ev F a ρ S).bind λx=>match x.1 with | .int i=> .ok (.int (-i),x.2) | _=> .bad
 | .nt a,ρ,S=>(ev F a ρ S).bind λx=>match x.1 with | .bl b=> .ok (.bl !b,x.2) | _=> .bad
 | .and a b,ρ,S=>(ev F a ρ S).bind λx=>match x.1 with | .bl true=>(ev F b ρ x.2).bind λy=>(match y.1 with | .bl c=> .ok (.bl c,y.2) | _=> .bad) | .bl false=> .ok (.bl false,x.2) | _=> .bad
 | .or a b,ρ,S=>(ev F a ρ S).bind λx=>match x.1 with | .bl false=>(ev F b ρ x.2).bind λy=>(match y.1 with | .bl c=> .ok (.bl c,y.2) | _=> .bad) | .bl true=> .ok (.bl true,x.2) | _=> .bad
 | .ite t a b,ρ,S=>(bQ F t ρ S).bind λx=>if x.1 then ev F a ρ x.2 else ev F b ρ x.2
 | .idx a b,ρ,S=>(ev F a ρ S).bind λx=>(ev F b ρ x.2).bind λy=>(c8 x.1 y.1).bind λd=> .ok (d,y.2)
 | .sliL a l,ρ,S=>(ev F a ρ S).bind λx=>(ev F l ρ x.2).bind λy=>match y.1 with | .int i=>(ir x.1 (some i) none).bind λd=> .ok (d,y.2) | _=> .bad
 | .sliH a h,ρ,S=>(ev F a ρ S).bind λx=>(ev F h ρ x.2).bind λy=>match y.1 with | .int i=>(ir x.1 none (some i)).bind λd=> .ok (d,y.2) | _=> .bad
 | .sliB a l h,ρ,S=>(ev F a ρ S).bind λx=>(ev F l ρ x.2).bind λy=>match y.1 with | .int i=>(ev F h ρ y.2).bind λz=>(match z.1 with | .int j=>(ir x.1 (some i) (some j)).bind λd=> .ok (d,z.2) | _=> .bad) | _=> .bad
 | .tup es,ρ,S=>(fG F es ρ S).bind λx=>af (decide (x.1.length<=lim)) (.ok (.tup x.1,x.2))
 | .lst es,ρ,S=>(fG F es ρ S).bind λx=>af (decide (x.1.length<=lim)) (.ok (.lst x.1,x.2))
 | .call f es ds,ρ,S=>(fG F es ρ S).bind λx=>(F f (x.1++ds) none).bind λy=> .ok (y.1,x.2)
 | .callD f es,ρ,S=>af S.isSome ((fG F es ρ S).bind λx=>match x.2 with | some s=>F f x.1 (some s) | none=> .bad)
 | .popD,_,S=>match S with | some ns=>af (!ns.isEmpty) (.ok (.int (ns.getLastD 0),some ns.dropLast)) | none=> .bad
 | .lenD,_,S=>match S with | some ns=> .ok (.int ns.length,S) | none=> .bad
 | .bi b es,ρ,S=>(fG F es ρ S).bind λx=>(dJ b x.1).bind λd=> .ok (d,x.2)
 | .mt m o es,ρ,S=>(ev F o ρ S).bind λy=>af (isStr y.1) ((fG F es ρ y.2).bind λx=>(NP m y.1 x.1).bind λd=> .ok (d,x.2))
 | .comp cap it tg ts e,ρ,S=>(dI F it ρ S).bind λx=>af (decide (x.1.length<=lim)&&(decide (qk it<=1)||kK F it ρ S))
   ((bg (br tg (cA F ts) (λρ1 S1=>(ev F e ρ1 S1).bind λy=>af (bJ e y.1) (.ok ([y.1],y.2))) (fX cap ρ)) x.1 x.2).bind λq=> .ok (.lst q.1,q.2))
 | .ja cap it tg ts it2 tg2 EV e,ρ,S=>(dI F it ρ S).bind λx=>af (decide (x.1.length<=lim)&&(decide (qk it<=1)||kK F it ρ S))
   ((bg (br tg (cA F ts) (λρ1 S1=>(dI F it2 ρ1 S1).bind λx2=>af (decide (x.1.length * x2.1.length<=lim)&&decide (qk it2=0))
    (bg (br tg2 (cA F EV) (λρ2 S2=>(ev F e ρ2 S2).bind λy=>af (bJ e y.1) (.ok ([y.1],y.2))) ρ1) x2.1 x2.2)) (fX cap ρ)) x.1 x.2).bind λq=> .ok (.lst q.1,q.2))
def bQ (F:FT):C->ak->Sx->R (Bool×Sx)
 | .nt a,ρ,S=>(bQ F a ρ S).bind λx=> .ok (!x.1,x.2)
 | .and a b,ρ,S=>(bQ F a ρ S).bind λx=>if x.1 then bQ F b ρ x.2 else .ok (false,x.2)
 | .or a b,ρ,S=>(bQ F a ρ S).bind λx=>if x.1 then .ok (true,x.2) else bQ F b ρ x.2
 | .cmp o a b,ρ,S=>(ev F a ρ S).bind λx=>(ev F b ρ x.2).bind λy=>(cU o x.1 y.1).bind λd=> .ok (d,y.2)
 | .ch o p a b c,ρ,S=>(ev F a ρ S).bind λx=>(ev F b ρ x.2).bind λy=>(cU o x.1 y.1).bind λd=>
   if d then(ev F c ρ y.2).bind λz=>(cU p y.1 z.1).bind λe=> .ok (e,z.2) else .ok (false,y.2)
 | .var i,ρ,S=>(ff ρ i).bind λd=>(dC d).bind λb=> .ok (b,S)
 | .mvr i,ρ,S=>(ff ρ i).bind λd=>(dC d).bind λb=> .ok (b,S)
 | .call f es ds,ρ,S=>(fG F es ρ S).bind λx=>(F f (x.1++ds) none).bind λy=>(dC y.1).bind λb=> .ok (b,x.2)
 | .callD f es,ρ,S=>af S.isSome ((fG F es ρ S).bind λx=>match x.2 with | some s=>(F f x.1 (some s)).bind λy=>(dC y.1).bind λb=> .ok (b,y.2) | none=> .bad)
 | .bi b es,ρ,S=>(fG F es ρ S).bind λx=>(dJ b x.1).bind λd=>(dC d).bind λb=> .ok (b,x.2)
 | .idx a b,ρ,S=>(ev F a ρ S).bind λx=>(ev F b ρ x.2).bind λy=>(c8 x.1 y.1).bind λd=>(dC d).bind λb=> .ok (b,y.2)
 | _,_,_=> .bad
def fG (F:FT):Cs->ak->Sx->R (List Dt×Sx)
 | .nil,_,S=> .ok ([],S)
 | .cons c cs,ρ,S=>(ev F c ρ S).bind λx=>(fG F cs ρ x.2).bind λy=> .ok (x.1::y.1,y.2)
def cA (F:FT):Cs->ak->Sx->R (Bool×Sx)
 | .nil,_,S=> .ok (true,S)
 | .cons c .nil,ρ,S=>bQ F c ρ S
 | _,_,_=> .bad
def dI (F:FT):l0->ak->Sx->R (List Dt×Sx)
 | .seq c,ρ,S=>(ev F c ρ S).bind λx=>match itemsOf x.1 with | some ds=> .ok (ds,x.2) | none=> .bad
 | .rng1 c,ρ,S=>(ev F c ρ S).bind λx=>match x.1 with | .int j=>af (decide (j<=lim)&&decide (-lim<=j)) (.ok (bU 0 j.toNat,x.2)) | _=> .bad
 | .rng2 a b,ρ,S=>(ev F a ρ S).bind λx=>(ev F b ρ x.2).bind λy=>match x.1,y.1 with
   | .int i,.int j=>af (decide (i.natAbs<=lim)&&decide (j.natAbs<=lim)) (.ok (bU i (j - i).toNat,y.2)) | _,_=> .bad
 | .zip a b,ρ,S=>(ev F a ρ S).bind λx=>(ev F b ρ x.2).bind λy=>match bF x.1,bF y.1 with
   | some xs,some ys=> .ok (fk xs ys,y.2) | _,_=> .bad
 | .enum c,ρ,S=>(ev F c ρ S).bind λx=>match bF x.1 with | some ds=> .ok (de 0 ds,x.2) | none=> .bad
def kK (F:FT):l0->ak->Sx->Bool
 | .seq c,ρ,S=>match ev F c ρ S with | .ok x=>gk x.1 | _=>false
 | _,_,_=>false
end
inductive Fl where
 | next | brk | cnt | ret (d:Dt)
mutual
inductive T where
 | asg (i:Nat) (c:C) | asgM (i:Nat) (c:C) | asgD (i:Nat) (c:C) | mov (i j:Nat) | asgT (is:List Nat) (c:C)
 | aug (i:Nat) (o:Operator) (c:C)
 | yH (i:Nat) (k v:C) | app (i:Nat) (c:C) | xtd (i:Nat) (c:C) | clr (i:Nat)
 | Ky (c:C) | ret (c:C) | retN | ifs (t:C) (a b:Ts) | fr (tg:Tg) (it:l0) (b:Ts) | wh (t:C) (b:Ts)
 | rs (k:Nat) | brk | cnt | pas
inductive Ts where
 | nil | cons (t:T) (ts:Ts)
end
abbrev RS:=R (Fl×ak×Sx)
def forL (tg:Tg) (body:ak->Sx->RS):List Dt->ak->Sx->RS
 | [],ρ,S=> .ok (.next,ρ,S)
 | x::xs,ρ,S=>(bY tg x ρ).bind λρ1=>(body ρ1 S).bind λp=>match p.1 with
  | .next=>forL tg body xs p.2.1 p.2.2
  | .cnt=>forL tg body xs p.2.1 p.2.2
  | .brk=> .ok (.next,p.2)
  | .ret d=> .ok (.ret d,p.2)
def JX (test:ak->Sx->R (Bool×Sx)) (body:ak->Sx->RS):Nat->ak->Sx->RS
 | 0,_,_=> .bad
 | n + 1,ρ,S=>(test ρ S).bind λb=>if b.1 then(body ρ b.2).bind λp=>match p.1 with
   | .next=>JX test body n p.2.1 p.2.2
   | .cnt=>JX test body n p.2.1 p.2.2
   | .brk=> .ok (.next,p.2)
   | .ret d=> .ok (.ret d,p.2)
  else .ok (.next,ρ,b.2)
def G8:Nat:=100000
def isLE (ρ:ak) (i:Nat):Bool:=match ρ[i]? with
 | some (some (.lst _))=>true
 | _=>false
def oZ (ρ:ak) (i:Nat):R (List Dt):=match ρ[i]? with
 | some (some (.lst ds))=> .ok ds
 | _=> .bad
mutual
def ex (F:FT):T->ak->Sx->RS
 | .asg i c,ρ,S=>(ev F c ρ S).bind λx=>af (bJ c x.1) (.ok (.next,ρ.set i (some x.1),x.2))
 | .asgM i c,ρ,S=>(ev F c ρ S).bind λx=>af (ml c x.1) (.ok (.next,ρ.set i (some x.1),x.2))
 | .asgD i c,ρ,S=>(ev F c ρ S).bind λx=>match x.1 with | .lst ds=>(match intsOf ds with | some ns=>af (decide (lk c=0)&&decide (i < ρ.length)) (.ok (.next,ρ.set i none,some ns)) | none=> .bad) | _=> .bad
 | .mov i j,ρ,S=>(ff ρ j).bind λd=> .ok (.next,(ρ.set j none).set i (some d),S)
 | .asgT is c,ρ,S=>(ev F c ρ S).bind λx=>af (bJ c x.1) ((bY (.tp is) x.1 ρ).bind λρ1=> .ok (.next,ρ1,x.2))
 | .aug i o c,ρ,S=>(ff ρ i).bind λd=>(ev F c ρ S).bind λx=>match d,x.1 with
   | .int _,.int _=>(nG o d x.1).bind λz=> .ok (.next,ρ.set i (some z),x.2)
   | .str _,.str _=>(nG o d x.1).bind λz=> .ok (.next,ρ.set i (some z),x.2)
   | _,_=> .bad
 | .yH i k v,ρ,S=>af (isLE ρ i) ((ev F v ρ S).bind λx=>(ev F k ρ x.2).bind λy=>af (bJ v x.1) ((oZ ρ i).bind λds=>match y.1 with
   | .int n=>(match ox ds.length n with | some j=> .ok (.next,ρ.set i (some (.lst (ds.set j x.1))),y.2) | none=> .bad) | _=> .bad))
 | .app i c,ρ,S=>af (isLE ρ i) ((ev F c ρ S).bind λx=>af (bJ c x.1) ((oZ ρ i).bind λds=>af (decide (ds.length<=lim)) (.ok (.next,ρ.set i (some (.lst (ds++[x.1]))),x.2))))
 | .xtd i c,ρ,S=>af (isLE ρ i) ((ev F c ρ S).bind λx=>af (decide (lk c<=1)) ((oZ ρ i).bind λds=>match x.1 with
   | .lst es=>af (decide (ds.length + es.length<=lim)) (.ok (.next,ρ.set i (some (.lst (ds++es))),x.2)) | _=> .bad))
 | .clr i,ρ,S=>(oZ ρ i).bind λ_=> .ok (.next,ρ.set i (some (.lst [])),S)
 | .Ky c,ρ,S=>(ev F c ρ S).bind λx=> .ok (.next,ρ,x.2)
 | .ret c,ρ,S=>(ev F c ρ S).bind λx=> .ok (.ret x.1,ρ,x.2)
 | .retN,ρ,S=> .ok (.ret .bo,ρ,S)
 | .ifs t a b,ρ,S=>(bQ F t ρ S).bind λx=>if x.1 then aR F a ρ x.2 else aR F b ρ x.2
 | .fr tg it b,ρ,S=>(dI F it ρ S).bind λx=>af (decide (qk it=0)||kK F it ρ S) (forL tg (aR F b) x.1 ρ x.2)
 | .wh t b,ρ,S=>JX (bQ F t) (aR F b) G8 ρ S
 | .rs k,ρ,S=> .ex k
 | .brk,ρ,S=> .ok (.brk,ρ,S)
 | .cnt,ρ,S=> .ok (.cnt,ρ,S)
 | .pas,ρ,S=> .ok (.next,ρ,S)
def aR (F:FT):Ts->ak->Sx->RS
 | .nil,ρ,S=> .ok (.next,ρ,S)
 | .cons t ts,ρ,S=>(ex F t ρ S).bind λp=>match p.1 with
  | .next=>aR F ts p.2.1 p.2.2
  | f=> .ok (f,p.2)
end
structure Fn where
 ps:Nat
 n:Nat
 bf:Bool
 body:Ts
def gf (F:FT) (f:Fn) (args:List Dt) (S:Sx):R (Dt×Sx):=
 if args.length + (if f.bf then 1 else 0)=f.ps then
  (aR F f.body ((if f.bf then[none] else[])++args.map some++List.replicate (f.n - f.ps) none) S).bind λp=>match p.1 with
   | .next=> .ok (.bo,p.2.2)
   | .ret d=> .ok (d,p.2.2)
   | _=> .bad
 else .bad
def aO (fs:List Fn):Nat->FT
 | 0,_,_,_=> .bad
 | n + 1,f,args,S=>match fs[f]? with
  | some g=>gf (aO fs n) g args S
  | none=> .bad
structure G where
 fns:List (Str×Nat×List Dt×Bool)
 cons:List (Str×Dt)
 bls:List Str
 fr:Nat->Bool
structure Gm where
 names:List (Str×NameKind)
 N:List Str
 M:List Bool
 δ:Option Nat
def xi:Option NameKind->Bool
 | some .local=>true
 | some .cell=>true
 | some .free=>true
 | _=>false
def ym:Option NameKind->Bool
 | some .local=>true
 | some .cell=>true
 | _=>false
def vN:Option NameKind->Bool
 | some .globalImplicit=>true
 | _=>false
def B7 (x:Str):List Str->Option Nat
 | []=>none
 | y::r=>if x==y then some 0 else(B7 x r).map (· + 1)
theorem mW {x:Str}:∀{l:List Str} {i:Nat},B7 x l=some i->l[i]?=some x
 | [],i,h=>by simp[B7] at h
 | y::r,i,h=>by
  unfold B7 at h;by_cases e:(x==y)=true
  ·rw[if_pos e] at h;cases h;have:x=y:=by simpa using e
   simp[this]
  ·rw[if_neg e] at h;obtain⟨j,h1,rfl⟩:=PH.mp h;simp[mW h1]
def eE (x:Str):Bool:= !(x==("__debug__":Str))&& !(x==("__classdict__":Str))&& !(x==("__name__":Str))
def slot (Γ:Gm) (x:Str):Option Nat:=if xi (Γ.names.lookup x)&&eE x then B7 x Γ.N else none
def f9 (Γ:Gm) (x:Str):Option Nat:=if ym (Γ.names.lookup x)&&eE x then B7 x Γ.N else none
def eM (Γ:Gm) (i:Nat):Bool:=Γ.M[i]?==some true
def plainS (Γ:Gm) (i:Nat):Bool:= !eM Γ i&& !(Γ.δ==some i)
def rQ (x:Str):List (Str×Nat×List Dt×Bool)->Option (Nat×Nat×List Dt×Bool)
 | []=>none
 | y::r=>if x==y.1 then some (0,y.2) else(rQ x r).map λp=>(p.1 + 1,p.2)
def wK:List (Str×Nat×BI):=[("len",1,.len),("min",2,.min2),("sum",1,.sum),("max",1,.maxL),("sorted",1,.sorted),("tuple",1,.tuple),("list",1,.list)]
def qT (x:Str) (n:Nat):Option BI:=(wK.find? λt=>t.1==x&&t.2.1==n).map (·.2.2)
def rG (x:Str):Option String:=
 if x==("str":Str) then some "str" else if x==("int":Str) then some "int" else if x==("bool":Str) then some "bool"
 else if x==("list":Str) then some "list" else if x==("tuple":Str) then some "tuple" else none
def mq (Γ:Gm):Expr->Option Nat
 | .Name x _=>(f9 Γ x).bind λi=>if plainS Γ i then some i else none
 | _=>none
def iN (Γ:Gm):List Expr->Option (List Nat)
 | []=>some []
 | e::es=>(mq Γ e).bind λi=>(iN Γ es).map (i:: ·)
def rY (Γ:Gm):Expr->Option Tg
 | .Name x p=>(mq Γ (.Name x p)).map .nm
 | .Tuple es _ _=>(iN Γ es).map .tp
 | _=>none
def KH (names:List (Str×NameKind)):List Str:=names.filterMap λp=>if xi (some p.2) then some p.1 else none
def Ep (names:List (Str×NameKind)) (N:List Str):List (Option Nat):=names.filterMap λp=>match p.2 with
 | .local=>some none
 | .free=>some (B7 p.1 N)
 | .cell=>some none
 | _=>none
def G3 (cap:List (Option Nat)) (M:List Bool):List Bool:=cap.map λo=>o.elim false λi=>M[i]?==some true
def Fb (δ:Option Nat):List (Option Nat)->Option Nat
 | []=>none
 | o::r=>if δ.isSome&&o==δ then some 0 else(Fb δ r).map (· + 1)
def aW (Γ:Gm) (sc:Scope):Gm×List (Option Nat):=
 let cap:=Ep sc.names Γ.N
 (⟨sc.names,KH sc.names,G3 cap Γ.M,Fb Γ.δ cap⟩,cap)
def aS:Tg->List Nat
 | .nm i=>[i]
 | .tp is=>is
def xq (names on:List (Str×NameKind)) (N' Nn:List Str) (cap:List (Option Nat)):Bool:=
 names.all (λy=>names.lookup y.1==some y.2&&(y.2 != .free||(on.lookup y.1==some .cell||on.lookup y.1==some .free)))&&
 (cap.length==N'.length)&&(List.range cap.length).all (λj=>match cap[j]? with
  | some (some i)=>(match N'[j]? with
   | some x=>Nn[i]?==some x&&names.lookup x==some .free
   | none=>false)
  | _=>true)
def Kc (Γ:Gm):Expr->Bool
 | .Name x _=>match slot Γ x with
  | some i=>Γ.δ==some i
  | none=>false
 | _=>false
mutual
def cE:Nat->G->Gm->Expr->Option C
 | 0,_,_,_=>none
 | n + 1,g,Γ,e=>match e with
  | .Constant (.int i) _ _=>some (.con (.int i))
  | .Constant (.str x) _ _=>some (.con (.str x))
  | .Constant (.bool x) _ _=>some (.con (.bl x))
  | .Constant .none _ _=>some (.con .bo)
  | .Name x _=>match slot Γ x with
   | some i=>if Γ.δ==some i then none else if eM Γ i then some (.mvr i) else some (.var i)
   | none=>if vN (Γ.names.lookup x)&&eE x then(g.cons.lookup x).map .con else none
  | .BinOp a o b _=>(cE n g Γ a).bind λa'=>(cE n g Γ b).bind λb'=>some (.bin o a' b')
  | .UnaryOp .USub a _=>(cE n g Γ a).bind λa'=>some (.neg a')
  | .UnaryOp .Not a _=>(cE n g Γ a).bind λa'=>some (.nt a')
  | .BoolOp o vs _=>cB n g Γ o vs
  | .IfExp t a b _=>none
  | .Compare a [o] [b] _=>(cE n g Γ a).bind λa'=>(cE n g Γ b).bind λb'=>some (.cmp o a' b')
  | .Compare a [o,p] [b,c] _=>none
  | .Subscript a (.Slice (some l) none none _) _=>(cE n g Γ a).bind λa'=>(cE n g Γ l).bind λl'=>some (.sliL a' l')
  | .Subscript a (.Slice none (some h) none _) _=>(cE n g Γ a).bind λa'=>(cE n g Γ h).bind λh'=>some (.sliH a' h')
  | .Subscript a (.Slice (some l) (some h) none _) _=>none
  | .Subscript a b _=>(cE n g Γ a).bind λa'=>(cE n g Γ b).bind λb'=>some (.idx a' b')
  | .Tuple es _ _=>(vK n g Γ es).bind λcQ=>some (.tup cQ)
  | .List es _=>(vK n g Γ es).bind λcQ=>some (.lst cQ)
  | .Call (.Name f _) (a::as) [] _=>tW n g Γ f a as
  | .Call (.Name f _) [a] [⟨some kn,.Constant (.int i) _ _,_⟩] _=>if f==("max":Str)&&kn==("default":Str)&&vN (Γ.names.lookup f)&&g.bls.contains f then(cE n g Γ a).bind λa'=>some (.bi (.maxD i) (.cons a' .nil)) else none
  | .Call (.Attribute (.Name x _) m ap) [] [] pos=>none
  | .Call (.Attribute o m ap) [a] [] pos=>none
  | .ListComp elt [⟨tg,it,ifs,0⟩] sc _=>
   let b:=aW Γ sc
   if sc.kind== .function then(cI n g Γ tg it).bind λji=>(rY b.1 tg).bind λkO=>(Bu n g b.1 ifs).bind λoz=>(cE n g b.1 elt).bind λe'=>
    if xq sc.names Γ.names b.1.N Γ.N b.2&&decide b.1.N.Nodup then some (.comp b.2 ji kO oz e') else none
   else none
  | .ListComp elt [⟨tg,it,ifs,0⟩,⟨tg2,it2,ck,0⟩] sc _=>
   let b:=aW Γ sc
   if sc.kind== .function then(cI n g Γ tg it).bind λji=>(rY b.1 tg).bind λkO=>(Bu n g b.1 ifs).bind λoz=>(cI n g b.1 tg2 it2).bind λqh=>(rY b.1 tg2).bind λkr=>(Bu n g b.1 ck).bind λoI=>(cE n g b.1 elt).bind λe'=>
    if xq sc.names Γ.names b.1.N Γ.N b.2&&decide b.1.N.Nodup&&(aS kr).all (λi=> !(aS kO).contains i) then some (.ja b.2 ji kO oz qh kr oI e') else none
   else none
  | _=>none
def vK:Nat->G->Gm->List Expr->Option Cs
 | 0,_,_,_=>none
 | n + 1,g,Γ,es=>match es with
  | []=>some .nil
  | e::es=>(cE n g Γ e).bind λe'=>(vK n g Γ es).bind λcQ=>some (.cons e' cQ)
def Bu:Nat->G->Gm->List Expr->Option Cs
 | 0,_,_,_=>none
 | n + 1,g,Γ,es=>match es with
  | []=>some .nil
  | [e]=>(cE n g Γ e).bind λe'=>some (.cons e' .nil)
  | _=>none
def cB:Nat->G->Gm->BoolOp->List Expr->Option C
 | 0,_,_,_,_=>none
 | n + 1,g,Γ,o,es=>match es with
  | [e]=>cE n g Γ e
  | e::es=>(cE n g Γ e).bind λe'=>(cB n g Γ o es).bind λcQ=>some (match o with | .And=> .and e' cQ | .Or=> .or e' cQ)
  | []=>none
def cI:Nat->G->Gm->Expr->Expr->Option l0
 | 0,_,_,_,_=>none
 | n + 1,g,Γ,tg,e=>match e with
  | .Call (.Name f p) [a] [] q=>if f==("range":Str) then(if vN (Γ.names.lookup f)&&g.bls.contains f then(cE n g Γ a).bind λa'=>some (.rng1 a') else none)
   else if f==("enumerate":Str) then(match tg with
    | .Tuple ..=>if vN (Γ.names.lookup f)&&g.bls.contains f then(cE n g Γ a).bind λa'=>some (.enum a') else none
    | _=>none)
   else(cE n g Γ (.Call (.Name f p) [a] [] q)).bind λc=>some (.seq c)
  | .Call (.Name f p) [a,b] [] q=>if f==("range":Str) then(if vN (Γ.names.lookup f)&&g.bls.contains f then none else none)
   else if f==("zip":Str) then(match tg with
    | .Tuple ..=>if vN (Γ.names.lookup f)&&g.bls.contains f then(cE n g Γ a).bind λa'=>(cE n g Γ b).bind λb'=>some (.zip a' b') else none
    | _=>none)
   else(cE n g Γ (.Call (.Name f p) [a,b] [] q)).bind λc=>some (.seq c)
  | e=>(cE n g Γ e).bind λc=>some (.seq c)
def tW:Nat->G->Gm->Str->Expr->List Expr->Option C
 | 0,_,_,_,_,_=>none
 | n + 1,g,Γ,f,a,as=>if vN (Γ.names.lookup f)&&eE f then(match rQ f g.fns with
  | some (k,np,fH,bf)=>if bf then(match a with
    | .Name x _=>match slot Γ x with
     | some i=>if Γ.δ==some i&&as.length + 1==np then none else none
     | none=>none
    | _=>none)
   else if as.length + 1<=np&&np - (as.length + 1)<=fH.length then(vK n g Γ (a::as)).bind λes=>some (.call k es (fH.drop (fH.length - (np - (as.length + 1))))) else none
  | none=>if g.bls.contains f then
    (if f==("len":Str)&&Kc Γ a&&as.isEmpty then none
    else if f==("isinstance":Str) then(match as with
     | [.Name t _]=>if vN (Γ.names.lookup t)&&g.bls.contains t then(rG t).bind λT=>(cE n g Γ a).bind λa'=>some (.bi (.isi T) (.cons a' .nil)) else none
     | _=>none)
    else match a,as with
     | .Call (.Name r _) [b] [] _,[]=>if r==("reversed":Str) then none
       else if r==("set":Str) then(if vN (Γ.names.lookup r)&&g.bls.contains r&&f==("sorted":Str) then(cE n g Γ b).bind λb'=>some (.bi .sset (.cons b' .nil)) else none)
       else(qT f (as.length + 1)).bind λi=>(vK n g Γ (a::as)).bind λes=>some (.bi i es)
     | .Call (.Name r _) [b,c] [] _,[]=>if r==("zip":Str) then(if vN (Γ.names.lookup r)&&g.bls.contains r&&f==("list":Str) then(vK n g Γ [b,c]).bind λes=>some (.bi .zipL es) else none)
       else(qT f (as.length + 1)).bind λi=>(vK n g Γ (a::as)).bind λes=>some (.bi i es)
     | _,_=>(qT f (as.length + 1)).bind λi=>(vK n g Γ (a::as)).bind λes=>some (.bi i es))
    else none)
  else none
end
section
variable {P:Program} {w:World} {K:Frag} {A B:Addr->Prop} {H:Hp} {s:Shared}
def elts (hok:eh P w H s.heap) {zq gN:List V} {i1 i2:List Dt} {cG aJ:List Value} {R:Around} {n:Nat} (g1:ai K A H zq i1) (g2:ai K B H gN i2) (r1:aw zq cG) (r2:aw gN aJ) (l1:cG.toArray.size=i1.length) (l2:aJ.toArray.size=i2.length)
  (p1:l7 i1=true) (p2:l7 i2=true) (hd:rA i1<=n) (hu:R.in1.units + n < cLine) (j:Nat) (h1:j < cG.toArray.size) (h2:j < aJ.toArray.size):EqAt R.in1 s cG.toArray[j] aJ.toArray[j] (uo i1 i2 j):=by
 have iJ:j < zq.length:=by rw[g1.length,<-l1];exact h1
 have l6:j < gN.length:=by rw[g2.length,<-l2];exact h2
 obtain⟨d,c1,c2⟩:=g1.get (i:=j) (x:=zq[j]) (by simp[iJ]);obtain⟨e,k1,k2⟩:=g2.get (i:=j) (x:=gN[j]) (by simp[l6]);obtain⟨u,sV,ru⟩:=r1.get (i:=j) (x:=zq[j]) (by simp[iJ]);obtain⟨v,Ak,rv⟩:=r2.get (i:=j) (x:=gN[j]) (by simp[l6]);have eu:cG.toArray[j]=u:=by simp only[List.getElem_toArray];exact(Pp.mp sV).2
 have ev:aJ.toArray[j]=v:=by simp only[List.getElem_toArray];exact(Pp.mp Ak).2
 rw[eu,ev,show uo i1 i2 j=bH d e by unfold uo;rw[c1,k1]];exact HA hok n d e zq[j] gN[j] u v R.in1 (Pz (nD c1) hd) (gH p1 c1) (gH p2 k1) hu c2 k2 ru rv
def Fp (hok:eh P w H s.heap) (n:Nat) (d e:Dt) (x y:V) (u v:Value) (R:Around) (hd:dp d<=n + 1) (jm:pl d=true) (fw:pl e=true) (hu:R.units + n + 1 < cLine) (hx:RV K A H x d) (hy:RV K B H y e) (rx:RelV x u) (ry:RelV y v):RcAt R s u v (bH d e):=by
 cases d with
 | bo=>
  have:=hx.aF;subst this;cases rx;cases e with
  | bo=>have:=hy.aF;subst this;cases ry;exact RcAt.none_none
  | bl i2=>have:=hy.aC;subst this;cases ry;exact RcAt.none_bool i2
  | int i2=>have:=hy.int_inv;subst this;obtain⟨t2,rfl⟩:=ry;exact RcAt.none_int i2 t2
  | str i2=>have:=hy.str_inv;subst this;obtain⟨t2,rfl⟩:=ry;exact RcAt.none_str i2 t2
  | tup i2=>obtain⟨a2,gN,q2,f2,g2⟩:=hy.ag;subst q2;cases ry;obtain⟨aJ,r2,bW⟩:=Mx.ax hok f2;exact RcAt.none_tuple bW (by omega)
  | lst i2=>obtain⟨a2,gN,q2,f2,_,g2⟩:=hy.lst_inv;subst q2;cases ry;obtain⟨aJ,r2,bW⟩:=aM hok f2;exact RcAt.none_list bW (by omega)
  | _=>simp[pl] at fw
 | bl i1=>
  have:=hx.aC;subst this;cases rx;cases e with
  | bo=>have:=hy.aF;subst this;cases ry;exact RcAt.bool_none i1
  | bl i2=>have:=hy.aC;subst this;cases ry;exact RcAt.bool_bool i1 i2
  | int i2=>have:=hy.int_inv;subst this;obtain⟨t2,rfl⟩:=ry;exact RcAt.bool_int i1 i2 t2
  | str i2=>have:=hy.str_inv;subst this;obtain⟨t2,rfl⟩:=ry;exact RcAt.bool_str i1 i2 t2
  | tup i2=>obtain⟨a2,gN,q2,f2,g2⟩:=hy.ag;subst q2;cases ry;obtain⟨aJ,r2,bW⟩:=Mx.ax hok f2;exact RcAt.bool_tuple i1 bW (by omega)
  | lst i2=>obtain⟨a2,gN,q2,f2,_,g2⟩:=hy.lst_inv;subst q2;cases ry;obtain⟨aJ,r2,bW⟩:=aM hok f2;exact RcAt.bool_list i1 bW (by omega)
  | _=>simp[pl] at fw
 | int i1=>
  have:=hx.int_inv;subst this;obtain⟨t1,rfl⟩:=rx;cases e with
  | bo=>have:=hy.aF;subst this;cases ry;exact RcAt.int_none i1 t1
  | bl i2=>have:=hy.aC;subst this;cases ry;exact RcAt.int_bool i1 t1 i2
  | int i2=>have:=hy.int_inv;subst this;obtain⟨t2,rfl⟩:=ry;exact RcAt.int_int i1 t1 i2 t2
  | str i2=>have:=hy.str_inv;subst this;obtain⟨t2,rfl⟩:=ry;exact RcAt.int_str i1 t1 i2 t2
  | tup i2=>obtain⟨a2,gN,q2,f2,g2⟩:=hy.ag;subst q2;cases ry;obtain⟨aJ,r2,bW⟩:=Mx.ax hok f2;exact RcAt.int_tuple i1 t1 bW (by omega)
  | lst i2=>obtain⟨a2,gN,q2,f2,_,g2⟩:=hy.lst_inv;subst q2;cases ry;obtain⟨aJ,r2,bW⟩:=aM hok f2;exact RcAt.int_list i1 t1 bW (by omega)
  | _=>simp[pl] at fw
 | str i1=>
  have:=hx.str_inv;subst this;obtain⟨t1,rfl⟩:=rx;cases e with
  | bo=>have:=hy.aF;subst this;cases ry;exact RcAt.str_none i1 t1
  | bl i2=>have:=hy.aC;subst this;cases ry;exact RcAt.str_bool i1 t1 i2
  | int i2=>have:=hy.int_inv;subst this;obtain⟨t2,rfl⟩:=ry;exact RcAt.str_int i1 t1 i2 t2
  | str i2=>have:=hy.str_inv;subst this;obtain⟨t2,rfl⟩:=ry;exact RcAt.str_str i1 t1 i2 t2
  | tup i2=>obtain⟨a2,gN,q2,f2,g2⟩:=hy.ag;subst q2;cases ry;obtain⟨aJ,r2,bW⟩:=Mx.ax hok f2;exact RcAt.str_tuple i1 t1 bW (by omega)
  | lst i2=>obtain⟨a2,gN,q2,f2,_,g2⟩:=hy.lst_inv;subst q2;cases ry;obtain⟨aJ,r2,bW⟩:=aM hok f2;exact RcAt.str_list i1 t1 bW (by omega)
  | _=>simp[pl] at fw
 | tup i1=>
  obtain⟨a1,zq,q1,f1,g1⟩:=hx.ag;subst q1;cases rx;obtain⟨cG,r1,iq⟩:=Mx.ax hok f1;cases e with
  | bo=>have:=hy.aF;subst this;cases ry;exact RcAt.tuple_none iq (by omega)
  | bl i2=>have:=hy.aC;subst this;cases ry;exact RcAt.tuple_bool i2 iq (by omega)
  | int i2=>have:=hy.int_inv;subst this;obtain⟨t2,rfl⟩:=ry;exact RcAt.tuple_int i2 t2 iq (by omega)
  | str i2=>have:=hy.str_inv;subst this;obtain⟨t2,rfl⟩:=ry;exact RcAt.tuple_str i2 t2 iq (by omega)
  | tup i2=>
   obtain⟨a2,gN,q2,f2,g2⟩:=hy.ag;subst q2;cases ry;obtain⟨aJ,r2,bW⟩:=Mx.ax hok f2;have l1:cG.toArray.size=i1.length:=by rw[Pn,<-r1.length,g1.length]
   have l2:aJ.toArray.size=i2.length:=by rw[Pn,<-r2.length,g2.length]
   have key:=RcAt.tuples (A:=R) (e:=uo i1 i2) iq bW (by omega) (elts hok g1 g2 r1 r2 l1 l2 (by simpa [pl] using jm) (by simpa [pl] using fw) (n:=n) (by unfold dp at hd;omega) (by show R.units + 1 + n < cLine;omega));have q:=cK i1 i2;rw[<-l1,<-l2] at q;rw[q] at key;exact key
  | lst i2=>obtain⟨a2,gN,q2,f2,_,g2⟩:=hy.lst_inv;subst q2;cases ry;obtain⟨aJ,r2,bW⟩:=aM hok f2;exact RcAt.tuple_list iq bW (by omega)
  | _=>simp[pl] at fw
 | lst i1=>
  obtain⟨a1,zq,q1,f1,_,g1⟩:=hx.lst_inv;subst q1;cases rx;obtain⟨cG,r1,iq⟩:=aM hok f1;cases e with
  | bo=>have:=hy.aF;subst this;cases ry;exact RcAt.list_none iq (by omega)
  | bl i2=>have:=hy.aC;subst this;cases ry;exact RcAt.list_bool i2 iq (by omega)
  | int i2=>have:=hy.int_inv;subst this;obtain⟨t2,rfl⟩:=ry;exact RcAt.list_int i2 t2 iq (by omega)
  | str i2=>have:=hy.str_inv;subst this;obtain⟨t2,rfl⟩:=ry;exact RcAt.list_str i2 t2 iq (by omega)
  | tup i2=>obtain⟨a2,gN,q2,f2,g2⟩:=hy.ag;subst q2;cases ry;obtain⟨aJ,r2,bW⟩:=Mx.ax hok f2;exact RcAt.list_tuple iq bW (by omega)
  | lst i2=>
   obtain⟨a2,gN,q2,f2,_,g2⟩:=hy.lst_inv;subst q2;cases ry;obtain⟨aJ,r2,bW⟩:=aM hok f2;have l1:cG.toArray.size=i1.length:=by rw[Pn,<-r1.length,g1.length]
   have l2:aJ.toArray.size=i2.length:=by rw[Pn,<-r2.length,g2.length]
   have q:=cK i1 i2;by_cases hl:i1.length=i2.length
   ·have key:=RcAt.lists (A:=R) (e:=uo i1 i2) iq bW (by omega) (by omega) (elts hok g1 g2 r1 r2 l1 l2 (by simpa [pl] using jm) (by simpa [pl] using fw) (n:=n) (by unfold dp at hd;omega) (by show R.units + 1 + n < cLine;omega));rw[hl,Nat.min_self,beq_self_eq_true,Bool.and_true] at q;rw[l1,hl,q] at key;exact key
   ·have key:=RcAt.lists_lengths (A:=R) iq bW (by rw[l1,l2];simpa using hl) (by omega);have hb:(i1.length==i2.length)=false:=by simpa using hl
    rw[hb,Bool.and_false] at q;show RcAt R s _ _ (bP i1 i2);rw[<-q];exact key
  | _=>simp[pl] at fw
 | _=>simp[pl] at jm
def By (hok:eh P w H s.heap) (n:Nat) (d e:Dt) (x y:V) (u v:Value) (R:Around) (hd:dp d<=n + 1) (jm:pl d=true) (fw:pl e=true) (hu:R.units + n + 1 < cLine) (hx:RV K A H x d) (hy:RV K B H y e) (rx:RelV x u) (ry:RelV y v):RcNeAt R s u v (!bH d e):=by
 cases d with
 | bo=>
  have:=hx.aF;subst this;cases rx;cases e with
  | bo=>have:=hy.aF;subst this;cases ry;exact RcNeAt.none_none
  | bl i2=>have:=hy.aC;subst this;cases ry;exact RcNeAt.none_bool i2
  | int i2=>have:=hy.int_inv;subst this;obtain⟨t2,rfl⟩:=ry;exact RcNeAt.none_int i2 t2
  | str i2=>have:=hy.str_inv;subst this;obtain⟨t2,rfl⟩:=ry;exact RcNeAt.none_str i2 t2
  | tup i2=>obtain⟨a2,gN,q2,f2,g2⟩:=hy.ag;subst q2;cases ry;obtain⟨aJ,r2,bW⟩:=Mx.ax hok f2;exact RcNeAt.none_tuple bW (by omega)
  | lst i2=>obtain⟨a2,gN,q2,f2,_,g2⟩:=hy.lst_inv;subst q2;cases ry;obtain⟨aJ,r2,bW⟩:=aM hok f2;exact RcNeAt.none_list bW (by omega)
  | _=>simp[pl] at fw
 | bl i1=>
  have:=hx.aC;subst this;cases rx;cases e with
  | bo=>have:=hy.aF;subst this;cases ry;exact RcNeAt.bool_none i1
  | bl i2=>have:=hy.aC;subst this;cases ry;exact RcNeAt.bool_bool i1 i2
  | int i2=>have:=hy.int_inv;subst this;obtain⟨t2,rfl⟩:=ry;exact RcNeAt.bool_int i1 i2 t2
  | str i2=>have:=hy.str_inv;subst this;obtain⟨t2,rfl⟩:=ry;exact RcNeAt.bool_str i1 i2 t2
  | tup i2=>obtain⟨a2,gN,q2,f2,g2⟩:=hy.ag;subst q2;cases ry;obtain⟨aJ,r2,bW⟩:=Mx.ax hok f2;exact RcNeAt.bool_tuple i1 bW (by omega)
  | lst i2=>obtain⟨a2,gN,q2,f2,_,g2⟩:=hy.lst_inv;subst q2;cases ry;obtain⟨aJ,r2,bW⟩:=aM hok f2;exact RcNeAt.bool_list i1 bW (by omega)
  | _=>simp[pl] at fw
 | int i1=>
  have:=hx.int_inv;subst this;obtain⟨t1,rfl⟩:=rx;cases e with
  | bo=>have:=hy.aF;subst this;cases ry;exact RcNeAt.int_none i1 t1
  | bl i2=>have:=hy.aC;subst this;cases ry;exact RcNeAt.int_bool i1 t1 i2
  | int i2=>have:=hy.int_inv;subst this;obtain⟨t2,rfl⟩:=ry;exact RcNeAt.int_int i1 t1 i2 t2
  | str i2=>have:=hy.str_inv;subst this;obtain⟨t2,rfl⟩:=ry;exact RcNeAt.int_str i1 t1 i2 t2
  | tup i2=>obtain⟨a2,gN,q2,f2,g2⟩:=hy.ag;subst q2;cases ry;obtain⟨aJ,r2,bW⟩:=Mx.ax hok f2;exact RcNeAt.int_tuple i1 t1 bW (by omega)
  | lst i2=>obtain⟨a2,gN,q2,f2,_,g2⟩:=hy.lst_inv;subst q2;cases ry;obtain⟨aJ,r2,bW⟩:=aM hok f2;exact RcNeAt.int_list i1 t1 bW (by omega)
  | _=>simp[pl] at fw
 | str i1=>
  have:=hx.str_inv;subst this;obtain⟨t1,rfl⟩:=rx;cases e with
  | bo=>have:=hy.aF;subst this;cases ry;exact RcNeAt.str_none i1 t1
  | bl i2=>have:=hy.aC;subst this;cases ry;exact RcNeAt.str_bool i1 t1 i2
  | int i2=>have:=hy.int_inv;subst this;obtain⟨t2,rfl⟩:=ry;exact RcNeAt.str_int i1 t1 i2 t2
  | str i2=>have:=hy.str_inv;subst this;obtain⟨t2,rfl⟩:=ry;exact RcNeAt.str_str i1 t1 i2 t2
  | tup i2=>obtain⟨a2,gN,q2,f2,g2⟩:=hy.ag;subst q2;cases ry;obtain⟨aJ,r2,bW⟩:=Mx.ax hok f2;exact RcNeAt.str_tuple i1 t1 bW (by omega)
  | lst i2=>obtain⟨a2,gN,q2,f2,_,g2⟩:=hy.lst_inv;subst q2;cases ry;obtain⟨aJ,r2,bW⟩:=aM hok f2;exact RcNeAt.str_list i1 t1 bW (by omega)
  | _=>simp[pl] at fw
 | tup i1=>
  obtain⟨a1,zq,q1,f1,g1⟩:=hx.ag;subst q1;cases rx;obtain⟨cG,r1,iq⟩:=Mx.ax hok f1;cases e with
  | bo=>have:=hy.aF;subst this;cases ry;exact RcNeAt.tuple_none iq (by omega)
  | bl i2=>have:=hy.aC;subst this;cases ry;exact RcNeAt.tuple_bool i2 iq (by omega)
  | int i2=>have:=hy.int_inv;subst this;obtain⟨t2,rfl⟩:=ry;exact RcNeAt.tuple_int i2 t2 iq (by omega)
  | str i2=>have:=hy.str_inv;subst this;obtain⟨t2,rfl⟩:=ry;exact RcNeAt.tuple_str i2 t2 iq (by omega)
  | tup i2=>
   obtain⟨a2,gN,q2,f2,g2⟩:=hy.ag;subst q2;cases ry;obtain⟨aJ,r2,bW⟩:=Mx.ax hok f2;have l1:cG.toArray.size=i1.length:=by rw[Pn,<-r1.length,g1.length]
   have l2:aJ.toArray.size=i2.length:=by rw[Pn,<-r2.length,g2.length]
   have key:=RcNeAt.tuples (A:=R) (e:=uo i1 i2) iq bW (by omega) (elts hok g1 g2 r1 r2 l1 l2 (by simpa [pl] using jm) (by simpa [pl] using fw) (n:=n) (by unfold dp at hd;omega) (by show R.units + 1 + n < cLine;omega));have q:=cK i1 i2;rw[<-l1,<-l2] at q;rw[q] at key;exact key
  | lst i2=>obtain⟨a2,gN,q2,f2,_,g2⟩:=hy.lst_inv;subst q2;cases ry;obtain⟨aJ,r2,bW⟩:=aM hok f2;exact RcNeAt.tuple_list iq bW (by omega)
  | _=>simp[pl] at fw
 | lst i1=>
  obtain⟨a1,zq,q1,f1,_,g1⟩:=hx.lst_inv;subst q1;cases rx;obtain⟨cG,r1,iq⟩:=aM hok f1;cases e with
  | bo=>have:=hy.aF;subst this;cases ry;exact RcNeAt.list_none iq (by omega)
  | bl i2=>have:=hy.aC;subst this;cases ry;exact RcNeAt.list_bool i2 iq (by omega)
  | int i2=>have:=hy.int_inv;subst this;obtain⟨t2,rfl⟩:=ry;exact RcNeAt.list_int i2 t2 iq (by omega)
  | str i2=>have:=hy.str_inv;subst this;obtain⟨t2,rfl⟩:=ry;exact RcNeAt.list_str i2 t2 iq (by omega)
  | tup i2=>obtain⟨a2,gN,q2,f2,g2⟩:=hy.ag;subst q2;cases ry;obtain⟨aJ,r2,bW⟩:=Mx.ax hok f2;exact RcNeAt.list_tuple iq bW (by omega)
  | lst i2=>
   obtain⟨a2,gN,q2,f2,_,g2⟩:=hy.lst_inv;subst q2;cases ry;obtain⟨aJ,r2,bW⟩:=aM hok f2;have l1:cG.toArray.size=i1.length:=by rw[Pn,<-r1.length,g1.length]
   have l2:aJ.toArray.size=i2.length:=by rw[Pn,<-r2.length,g2.length]
   have q:=cK i1 i2;by_cases hl:i1.length=i2.length
   ·have key:=RcNeAt.lists (A:=R) (e:=uo i1 i2) iq bW (by omega) (by omega) (elts hok g1 g2 r1 r2 l1 l2 (by simpa [pl] using jm) (by simpa [pl] using fw) (n:=n) (by unfold dp at hd;omega) (by show R.units + 1 + n < cLine;omega));rw[hl,Nat.min_self,beq_self_eq_true,Bool.and_true] at q;rw[l1,hl,q] at key;exact key
   ·have key:=RcNeAt.lists_lengths (A:=R) iq bW (by rw[l1,l2];simpa using hl) (by omega);have hb:(i1.length==i2.length)=false:=by simpa using hl
    rw[hb,Bool.and_false] at q;show RcNeAt R s _ _ (!bP i1 i2);rw[<-q];exact key
  | _=>simp[pl] at fw
 | _=>simp[pl] at jm
end
end Rx
end
section
namespace HT
open PySem PyProof.Rows
section
variable {prog:Program} {w:World} {A:Around} {E:Value->Shared->Prop} {s:Shared}
def f6 {t sl:Addr} {items:Array Value} {vl vu:Value} {lo hi:Option Int} {Q:Value->Shared->Prop} (ht:IsTup s.heap t items) (hs:s.heap.IsSliceOf sl vl vu .none) (pl:IsPart vl lo) (pu:IsPart vu hi)
  (hw:bE items.size 0 lo=0/\bE items.size items.size hi=items.size) (h:Q (.ref t) s) (ib:items.size<=sizeLine):wpAny (model prog w) A (getItem (.ref t) (.ref sl)) Q E s:=by
 obtain⟨os,D4,Bn,x8⟩:=id hs;have Lh:s.TypeIs (.ref sl) "slice":=⟨os,D4,Bn⟩;unfold getItem
 try with_reducible refine wpAny_holding ?_
 first | refine Pi (Pl ?_) | skip
 refine Pi (wpAny_sequenceKey ht.typeIs (by decide) ?_);refine Pi (wpAny_callSpecial?_slot (name:=Str.ofString "__getitem__") ht.typeIs PyProof.Rows.slot_tuple_getitem
  (wpAny_call_entry PyProof.Rows.slot_tuple_getitem ht.typeIs entry_tuple_getitem ?_ (args_tuple_getitem _ _)))
 show wpAny _ _ (Builtin.Tuple.tupleItemsOf (.ref t) >>=_) _ _ s;refine Pi (tupleItemsOf_ ht ?_);refine Pi (wpAny_typeOf Lh ?_);rw[if_pos (by decide)];refine Pi (dX hs pl pu ?_);show wpAny _ _ (if (((bE items.size 0 lo:Nat):Int)==0&&(1:Int)==1&&(bE items.size items.size hi - bE items.size 0 lo)==items.size)=true then _ else _) _ _ s;rw[if_pos (by rw[hw.1,hw.2];simp)];refine Pi (Pi (wpAny_typeOf ht.typeIs (Pl ?_)));rw[if_pos (by decide)];refine Pi (wpAny_rule ?_);exact Pl ⟨_,rfl,Pl h⟩
end
end HT
namespace Rx
open PySem PySem.W PySem.Spec PyProof.Rows L2 PySem.SeqAt
abbrev N0:Addr->Prop:=λ_=>False
def eJ (K:Frag) (A:Addr->Prop) (H:Hp) (v:V):Dt->Prop
 | .lst ds=>∃a xs,v= .ref a/\H a=some (.lst xs)/\ai K A H xs ds
 | d=>RV K A H v d
def lq (K:Frag) (A:Addr->Prop) (H:Hp):List V->List Dt->Prop
 | [],[]=>True
 | x::xs,d::ds=>eJ K A H x d/\lq K A H xs ds
 | _,_=>False
section
variable {K:Frag} {A B:Addr->Prop} {H H':Hp}
def RV.one {v d} (h:RV K A H v d):eJ K A H v d:=by
 cases d with
 | lst ds=>obtain⟨a,xs,h1,h2,_,h3⟩:=h.lst_inv;exact⟨a,xs,h1,h2,h3⟩
 | _=>exact h
def eJ.ext {X:Addr->Prop} {v d} (h:eJ K A H v d) (e:aV X H H') (hX:∀b,X b->A b) (hv:∀ds a,d= .lst ds->v= .ref a->¬X a):eJ K A H' v d:=by
 cases d with
 | lst ds=>obtain⟨a,xs,h1,h2,h3⟩:=h;exact⟨a,xs,h1,e.kp _ _ h2 (hv ds a rfl h1),h3.mono e hX λ_ z=>z⟩
 | _=>exact RV.mono e hX (λ_ z=>z) h
def ai.ones:∀{vs ds},ai K A H vs ds->lq K A H vs ds
 | [],[],_=>trivial
 | [],_::_,h=>by unfold ai at h;exact h.elim
 | _::_,[],h=>by unfold ai at h;exact h.elim
 | _::_,_::_,h=>by unfold ai at h;exact⟨h.1.one,h.2.ones⟩
end
structure PR (K:Frag) (fr:Bool) (xs:List V) (ds:List Dt) (H:Hp) (d:Dt) (v:V) (H':Hp):Prop where
 same:bu H H'
 val:∀A:Addr->Prop,(∀a,A a->∃o,H a=some o)->lq K A H xs ds->RV K A H' v d
 eW:fr=true->∀es,d= .lst es->∃a ys,v= .ref a/\H a=none/\H' a=some (.lst ys)/\∀A:Addr->Prop,(∀a,A a->∃o,H a=some o)->lq K A H xs ds->ai K (λb=>A b\/b=a) H' ys es
def rP (K:Frag) (fr:Bool) (f:List Dt->R Dt):List V->Hp->VK->Prop:=λxs H Q=>∃ds d,ai K N0 H xs ds/\f ds= .ok d/\∀v H',PR K fr xs ds H d v H'->Q v H'
section
variable {K:Frag} {fr:Bool} {xs:List V} {ds:List Dt} {H H':Hp} {d:Dt} {v:V}
def ou:Dt->Bool
 | .bo | .bl _ | .int _ | .str _=>true
 | _=>false
def ql:Dt->V
 | .bl b=> .bl b
 | .int b=> .int b
 | .str b=> .str b
 | _=> .bo
def pC {A:Addr->Prop} (h:ou d=true):RV K A H (ql d) d:=by
 cases d with
 | bo=>exact RV.gE
 | bl b=>exact RV.qb
 | int b=>exact RV.dh
 | str b=>exact RV.i6
 | _=>simp[ou] at h
def PR.sc (h:ou d=true):PR K fr xs ds H d (ql d) H:=⟨bu.refl _,λA _ _=>pC h,λ_ es e=>by subst e;simp[ou] at h⟩
def PR.mZ {p:Addr} {ys:List V} {es:List Dt} (hp:H p=none) (h:∀A:Addr->Prop,lq K A H xs ds->ai K A H ys es):PR K fr xs ds H (.lst es) (.ref p) (upd H p (.lst ys)):=by
 have s:=Mx.cw hp (.lst ys);refine⟨s,λA hA q=>RV.eC az (λz=>?_) ((h A q).same s),λ_ cQ e=>?_⟩
 ·obtain⟨o,e⟩:=hA p z;rw[hp] at e;cases e
 ·cases e;exact⟨p,ys,rfl,hp,az,λA hA q=>((h A q).avoid hp).same s⟩
def PR.Dz {p:Addr} {ys:List V} {es:List Dt} (hp:H p=none) (h:∀A:Addr->Prop,lq K A H xs ds->ai K A H ys es):PR K fr xs ds H (.tup es) (.ref p) (upd H p (.tup ys)):=by have s:=Mx.cw hp (.tup ys);exact⟨s,λA hA q=>RV.cV az ((h A q).same s),λ_ cQ e=>by cases e⟩
def PR.uH {p:Addr} {ys:List V} {es:List Dt} (hp:H p=some (.tup ys)) (h:∀A:Addr->Prop,lq K A H xs ds->ai K A H ys es):PR K fr xs ds H (.tup es) (.ref p) H:=
 ⟨bu.refl _,λA hA q=>RV.cV hp (h A q),λ_ cQ e=>by cases e⟩
def bN:lim<=sizeLine:=by rw[sizeLine_eq];decide
def aZ {b:Bool} {α:Type} {r:R α} {a:α} (h:af b r= .ok a):b=true/\r= .ok a:=by
 cases b with
 | true=>exact⟨rfl,h⟩
 | false=>cases h
def eJ.aM {A:Addr->Prop} {a:Addr} {xs:List V} {es:List Dt} (h:eJ K A H (.ref a) (.lst es)) (e:H a=some (.lst xs)):ai K A H xs es:=by obtain⟨b,ys,q,h1,h2⟩:=h;cases q;rw[e] at h1;cases h1;exact h2
def eJ.ax {A:Addr->Prop} {a:Addr} {xs:List V} {es:List Dt} (h:eJ K A H (.ref a) (.tup es)) (e:H a=some (.tup xs)):ai K A H xs es:=by grind [RV.ag,V,Dt,eJ,ai]
end
section
variable {X:Cx}
def r2 (K:Frag) (f:Dt->Dt->R Dt):R2:=λx y H Q=>∃d e z,RV K N0 H x d/\RV K N0 H y e/\f d e= .ok z/\∀v H',PR K true [x,y] [d,e] H z v H'->Q v H'
def lI {i:Int} (h:i.natAbs < 2 ^ 64): -(2 ^ 64) < i/\i < 2 ^ 64:=by omega
def D0:kZ X (binaryOp .FloorDiv) (rI (λ_ j=>0 < j/\j.natAbs.log2 < 9000) λi j=> .int (i / j)):=Ji λi j _ _ _ _ _ hc q=>by have h1:(0:Int) < j:=hc.1;exact floordiv_int (by omega) (by rw[Int.fdiv_eq_ediv_of_nonneg i (by omega)];exact q) (.inl (PyProof.noPylong_of_log2 hc.2))
def DG (o:Operator):kZ X (binaryOp o) (r2 X.K (nG o)):=by
 intro pins s σ H x y v u Q I rx ry h;obtain⟨d,e,z,hx,hy,he,q⟩:=h;have E3:=bN;unfold nG at he;split at he
 ·rename_i i j;cases he;exact D5 pins s σ H x y v u Q I rx ry ⟨i,j,hx.int_inv,hy.int_inv,q _ _ (PR.sc (d:= .int _) rfl)⟩
 ·rename_i i j;obtain⟨g,he⟩:=aZ he;cases he;exact qx pins s σ H x y v u Q I rx ry ⟨i,j,hx.str_inv,hy.str_inv,Pz (Po g) E3,q _ _ (PR.sc (d:= .str _) rfl)⟩
 ·rename_i i j;obtain⟨g,he⟩:=aZ he;cases he;obtain⟨a,xs,rfl,h1,_,h2⟩:=hx.lst_inv;obtain⟨b,ys,rfl,k1,_,k2⟩:=hy.lst_inv;refine fJ pins s σ H _ _ v u Q I rx ry ⟨a,b,xs,ys,rfl,rfl,h1,k1,?_,λp hp=>q _ _ (PR.mZ hp λA w=>?_)⟩
  ·rw[h2.length,k2.length];exact Pz (Po g) E3
  ·exact(eJ.aM w.1 h1).append (eJ.aM w.2.1 k1)
 ·rename_i i j;obtain⟨g,he⟩:=aZ he;cases he;obtain⟨a,xs,rfl,h1,h2⟩:=hx.ag;obtain⟨b,ys,rfl,k1,k2⟩:=hy.ag;by_cases hd:xs=[]
  ·subst hd;cases h2.df;cases rx;cases ry;obtain⟨its,r1,p1,_⟩:=I.tuple (ek.of h1);obtain⟨aJ,r2,p2,_⟩:=I.tuple (ek.of k1);cases r1;obtain⟨⟨cls,dd,data,sl⟩,ho,hc,n,An⟩:=p1;obtain⟨⟨G6,zw,data2,vI⟩,ow,uX,n2,rF⟩:=p2;simp only at hc An uX rF;subst hc An uX rF;exact concat_meets ⟨_,ho,rfl⟩ ⟨_,ow,rfl⟩ noFill_tuple_add seq_tuple_add PySem.F.slot_tuple_add PySem.F.entry_tuple_add (PySem.F.args_tuple_add_2 _ _)
    (Mx.tuple_addW0 a b _ _ n n2 dd zw sl vI rfl) ⟨ho,ow,⟨.ref b,H,I,rfl,q _ _ (PR.uH k1 λA w=>eJ.ax w.2.1 k1)⟩⟩
  ·refine zG pins s σ H (.ref a) (.ref b) v u Q I rx ry ⟨a,b,xs,ys,rfl,rfl,ek.of h1,ek.of k1,hd,?_,λe=>?_,λe p hp=>?_⟩
   ·rw[h2.length,k2.length];exact Pz (Po g) E3
   ·subst e;cases k2.df;rw[Qd] at q;exact q _ _ (PR.uH h1 λA w=>eJ.ax w.1 h1)
   ·exact q _ _ (PR.Dz hp λA w=>(eJ.ax w.1 h1).append (eJ.ax w.2.1 k1))
 ·rename_i i j;cases he;exact Eu pins s σ H x y v u Q I rx ry ⟨i,j,hx.int_inv,hy.int_inv,q _ _ (PR.sc (d:= .int _) rfl)⟩
 ·rename_i i j;obtain⟨g,he⟩:=aZ he;cases he;refine Dm pins s σ H x y v u Q I rx ry ⟨i,j,hx.int_inv,hy.int_inv,?_,q _ _ (PR.sc (d:= .int _) rfl)⟩;rw[Qe] at g;rcases g with g | g
  ·exact .inl (lI (Po g))
  ·exact .inr (lI (Po g))
 ·rename_i i j;obtain⟨g,he⟩:=aZ he;cases he;obtain⟨a,xs,rfl,h1,_,h2⟩:=hx.lst_inv;rw[Pm] at g;have g1:=Po g.1;have g2:=Po g.2;have dN:lim=1000000:=rfl;refine CC pins s σ H _ _ v u Q I rx ry ⟨a,j,xs,rfl,hy.int_inv,h1,by omega,by omega,?_,λp hp=>q _ _ (PR.mZ hp λA w=>?_)⟩
  ·rw[h2.length];exact Pz g2 E3
  ·exact(eJ.aM w.1 h1).rep _
 ·rename_i i j;obtain⟨g,he⟩:=aZ he;cases he;rw[Pm] at g;exact D0 pins s σ H x y v u Q I rx ry ⟨i,j,hx.int_inv,hy.int_inv,⟨Po g.1,Po g.2⟩,q _ _ (PR.sc (d:= .int _) rfl)⟩
 ·rename_i i j;obtain⟨g,he⟩:=aZ he;cases he;exact Dy pins s σ H x y v u Q I rx ry ⟨i,j,hx.int_inv,hy.int_inv,Po g,q _ _ (PR.sc (d:= .int _) rfl)⟩
 ·rename_i i j;obtain⟨g,he⟩:=aZ he;cases he;rw[Pm,Pm] at g;have g1:=Po g.1.1;have g2:=Po g.1.2;have g3:=Po g.2;exact DJ pins s σ H x y v u Q I rx ry ⟨i,j,hx.int_inv,hy.int_inv,⟨g1,by omega,g3⟩,q _ _ (PR.sc (d:= .int _) rfl)⟩
 ·cases he
def rC (K:Frag) (o:CmpOp):R2:=λx y H Q=>∃d e z,RV K N0 H x d/\RV K N0 H y e/\cU o d e= .ok z/\Q (.bl z) H
def yd (o:CmpOp) (hu:X.A.units + 150 < cLine):kZ X (compareOp o) (rC X.K o):=by
 intro pins s σ H x y v u Q I rx ry h;obtain⟨d,e,z,hx,hy,he,q⟩:=h;unfold cU at he;split at he
 ·obtain⟨g,he⟩:=aZ he;cases he;unfold fY at g;rw[Pm,Pm] at g;exact Fp I.hok 100 d e x y v u X.A (Nat.le_succ_of_le (Po g.2)) g.1.1 g.1.2 (by omega) hx hy rx ry X.prog X.w X.xe (EP X pins σ Q) ⟨.bl _,H,I,rfl,q⟩
 ·obtain⟨g,he⟩:=aZ he;cases he;unfold fY at g;rw[Pm,Pm] at g;exact By I.hok 100 d e x y v u X.A (Nat.le_succ_of_le (Po g.2)) g.1.1 g.1.2 (by omega) hx hy rx ry X.prog X.w X.xe (EP X pins σ Q) ⟨.bl _,H,I,rfl,q⟩
 ·rename_i i j;cases he;exact Gj pins s σ H x y v u Q I rx ry ⟨i,j,hx.int_inv,hy.int_inv,q⟩
 ·rename_i i j;cases he;exact HF pins s σ H x y v u Q I rx ry ⟨i,j,hx.int_inv,hy.int_inv,q⟩
 ·rename_i i j;cases he;exact HS pins s σ H x y v u Q I rx ry ⟨i,j,hx.int_inv,hy.int_inv,q⟩
 ·rename_i i j;cases he;exact GJ pins s σ H x y v u Q I rx ry ⟨i,j,hx.int_inv,hy.int_inv,q⟩
 ·cases he
def qy {ds:List Dt} {i:Int} {d:Dt} (h:u6 ds i= .ok d):kX ds i=some d:=by
 unfold u6 at h;split at h
 ·cases h;assumption
 ·cases h
def ju {K:Frag} {A:Addr->Prop} {H:Hp} {xs:List V} {ds:List Dt} {i:Int} {d:Dt} (g:ai K A H xs ds) (h:kX ds i=some d):∃v,kX xs i=some v/\RV K A H v d:=by
 unfold kX at h ⊢;rw[g.length];cases e:ox ds.length i with
 | none=>rw[e] at h;cases h
 | some j=>rw[e] at h;obtain⟨v,h1,h2⟩:=g.getD (i:=j) h;exact⟨v,h1,h2⟩
def rX (K:Frag):R2:=λx y H Q=>∃d e z,RV K N0 H x d/\RV K N0 H y e/\c8 d e= .ok z/\∀v,PR K false [x,y] [d,e] H z v H->Q v H
def Em:Hr X (rX X.K):=by
 intro value slice pins s σ H x y v u Q I rx ry h hs;obtain⟨d,e,z,hx,hy,he,q⟩:=h;unfold c8 at he;split at he
 ·rename_i ds i;obtain⟨a,xs,rfl,h1,_,h2⟩:=hx.lst_inv;have kY:=qy he;obtain⟨w,k1,k2⟩:=ju h2 kY;refine sF value slice pins s σ H _ y v u Q I rx ry ⟨a,xs,i,w,rfl,hy.int_inv,c6.of h1,k1,q w ⟨bu.refl _,λA _ q'=>?_,λz=>by cases z⟩⟩ hs;obtain⟨w',m1,m2⟩:=ju (eJ.aM q'.1 h1) kY;rw[k1] at m1;cases m1;exact m2
 ·rename_i ds i;obtain⟨a,xs,rfl,h1,h2⟩:=hx.ag;have kY:=qy he;obtain⟨w,k1,k2⟩:=ju h2 kY;refine Cz value slice pins s σ H _ y v u Q I rx ry ⟨a,xs,i,w,rfl,hy.int_inv,ek.of h1,k1,q w ⟨bu.refl _,λA _ q'=>?_,λz=>by cases z⟩⟩ hs;obtain⟨w',m1,m2⟩:=ju (eJ.ax q'.1 h1) kY;rw[k1] at m1;cases m1;exact m2
 ·rename_i ns i;obtain⟨a,rfl,h1⟩:=hx.iZ;have kY:=qy he;have e1:kX ((ns.map V.int)) i=some (ql z)/\ou z=true:=by
   unfold kX at kY ⊢;rw[Px] at kY ⊢;cases e:ox ns.length i with
   | none=>rw[e] at kY;cases kY
   | some j=>
    rw[e] at kY;simp only[Option.bind_some,PN] at kY ⊢;cases en:ns[j]? with
    | none=>rw[en] at kY;cases kY
    | some k=>rw[en] at kY;simp at kY;subst kY;exact⟨rfl,rfl⟩
  exact sF value slice pins s σ H _ y v u Q I rx ry ⟨a,_,i,_,rfl,hy.int_inv,h1,e1.1,q _ (PR.sc e1.2)⟩ hs
 ·rename_i w i;obtain⟨g,he⟩:=aZ he;split at he
  ·rename_i c hc;cases he;exact CM value slice pins s σ H _ y v u Q I rx ry ⟨w,i,c,hx.str_inv,hy.int_inv,Pz (Po g) bN,hc,q _ (PR.sc (d:= .str _) rfl)⟩ hs
  ·cases he
 ·cases he
def rS (K:Frag):V->Option Int->Option Int->Hp->VK->Prop:=λx lo hi H Q=>∃d z,RV K N0 H x d/\ir d lo hi= .ok z/\∀v H',PR K true [x] [d] H z v H'->Q v H'
def ai.cut {K:Frag} {A:Addr->Prop} {H:Hp} {xs:List V} {ds:List Dt} {lo hi:Option Int} (g:ai K A H xs ds):ai K A H (lp xs lo hi) (cutD ds lo hi):=by unfold lp cutD;rw[g.length];exact(g.drop _).take _
def qt {xs:List V} {lo hi:Option Int} (h:HT.bE xs.length 0 lo=0/\HT.bE xs.length xs.length hi=xs.length):lp xs lo hi=xs:=by unfold lp;rw[h.1,h.2];simp
def nR:E4 X (λx lo hi H Q=>∃a xs,x= .ref a/\H a=some (.tup xs)/\(HT.bE xs.length 0 lo=0/\HT.bE xs.length xs.length hi=xs.length)/\Q (.ref a) H):=by
 intro pins s σ H x v vl vu lo hi sl Q I rx hs pl pu h;obtain⟨a,xs,rfl,hx,hw,q⟩:=h;cases rx;obtain⟨its,r,ht,hz⟩:=I.tuple (ek.of hx);have hlen:its.toArray.size=xs.length:=by rw[Pn];exact r.length.symm
 refine⟨"tuple",_,PyProof.Rows.slot_tuple_getitem.lookup,ht.typeIs,?_⟩;refine HT.f6 ht hs pl pu (by rw[hlen];exact hw) ⟨.ref a,H,I,rfl,q⟩ (by rw[hlen];exact hz)
def gU {K:Frag} {A:Addr->Prop} {H:Hp}:∀{ns:List Int},ai K A H (ns.map V.int) (ns.map Dt.int)
 | []=>ai.nil
 | _::_=>ai.cons RV.dh gU
def xk:E4 X (rS X.K):=by
 intro pins s σ H x v vl vu lo hi sl Q I rx hs pl pu h;obtain⟨d,z,hx,he,q⟩:=h;unfold ir at he;split at he
 ·cases he;obtain⟨a,xs,rfl,h1,_,h2⟩:=hx.lst_inv;exact sG pins s σ H _ v vl vu lo hi sl Q I rx hs pl pu ⟨a,xs,rfl,c6.of h1,λp hp=>q _ _ (PR.mZ hp λA w=>(eJ.aM w.1 h1).cut)⟩
 ·cases he;obtain⟨a,rfl,h1⟩:=hx.iZ;exact sG pins s σ H _ v vl vu lo hi sl Q I rx hs pl pu ⟨a,_,rfl,h1,λp hp=>q _ _ (PR.mZ hp λA w=>ai.cut gU)⟩
 ·cases he;obtain⟨a,xs,rfl,h1,h2⟩:=hx.ag;by_cases hw:HT.bE xs.length 0 lo=0/\HT.bE xs.length xs.length hi=xs.length
  ·refine nR pins s σ H _ v vl vu lo hi sl Q I rx hs pl pu ⟨a,xs,rfl,h1,hw,q _ _ (PR.uH h1 λA w=>?_)⟩;have:=(eJ.ax w.1 h1).cut (lo:=lo) (hi:=hi);rw[qt hw] at this;exact this
  ·exact Cf pins s σ H _ v vl vu lo hi sl Q I rx hs pl pu ⟨a,xs,rfl,ek.of h1,hw,λp hp=>q _ _ (PR.Dz hp λA w=>(eJ.ax w.1 h1).cut)⟩
 ·obtain⟨g,he⟩:=aZ he;cases he;exact Mx.Da pins s σ H _ v vl vu lo hi sl Q I rx hs pl pu ⟨_,hx.str_inv,Pz (Po g) bN,q _ _ (PR.sc (d:= .str _) rfl)⟩
 ·cases he
def gT {K:Frag} {A:Addr->Prop} {H:Hp}:∀{xs:List V} {ds:List Dt} {ns:List Int},ai K A H xs ds->intsOf ds=some ns->xs=ns.map V.int
 | xs,[],ns,g,h=>by simp[intsOf] at h;subst h;exact g.nil_inv
 | xs,d::ds,ns,g,h=>by
  obtain⟨x,r,rfl,g1,g2⟩:=g.cons_inv;cases d with
  | int i=>simp only[intsOf,PH] at h;obtain⟨ms,h1,rfl⟩:=h;rw[gT g2 h1,g1.int_inv];rfl
  | _=>simp[intsOf] at h
def o6 {K:Frag} {A:Addr->Prop} {H:Hp}:∀{xs:List V} {ds:List Dt} {ns:List Str},ai K A H xs ds->strsOf ds=some ns->xs=ns.map V.str
 | xs,[],ns,g,h=>by simp[strsOf] at h;subst h;exact g.nil_inv
 | xs,d::ds,ns,g,h=>by
  obtain⟨x,r,rfl,g1,g2⟩:=g.cons_inv;cases d with
  | str i=>simp only[strsOf,PH] at h;obtain⟨ms,h1,rfl⟩:=h;rw[o6 g2 h1,g1.str_inv];rfl
  | _=>simp[strsOf] at h
def yf:∀(ns:List Int),ns≠[]->qp ns∈ns/\∀a∈ns,qp ns<=a
 | [],h=>absurd rfl h
 | [a],_=>by simp[qp]
 | a::b::r,_=>by
  have ih:=yf (b::r) (by simp);have e:qp (a::b::r)=min a (qp (b::r)):=rfl;rw[e];constructor
  ·by_cases h:a<=qp (b::r)
   ·rw[Int.min_eq_left h];exact Pu
   ·rw[Int.min_eq_right (by omega)];exact Pq _ ih.1
  ·intro c hc;rcases PC.mp hc with e | hc
   ·rw[e];exact Int.min_le_left _ _
   ·exact Int.le_trans (Int.min_le_right _ _) (ih.2 c hc)
def j6:∀(ns:List Int),ns≠[]->eQ ns∈ns/\∀a∈ns,a<=eQ ns
 | [],h=>absurd rfl h
 | [a],_=>by simp[eQ]
 | a::b::r,_=>by
  have ih:=j6 (b::r) (by simp);have e:eQ (a::b::r)=max a (eQ (b::r)):=rfl;rw[e];constructor
  ·by_cases h:a<=eQ (b::r)
   ·rw[Int.max_eq_right h];exact Pq _ ih.1
   ·rw[Int.max_eq_left (by omega)];exact Pu
  ·intro c hc;rcases PC.mp hc with e | hc
   ·rw[e];exact Int.le_max_left _ _
   ·exact Int.le_trans (ih.2 c hc) (Int.le_max_right _ _)
def gp:∀{l l':List Mx.D},l.Perm l'->(l.Pairwise λa b=>Mx.D.lt b a=false)->(l'.Pairwise λa b=>Mx.D.lt b a=false)->l=l'
 | [],l',p,_,_=>(List.nil_perm.mp p).symm
 | a::t,l',p,h1,h2=>by
  cases l' with
  | nil=>exact absurd p.length_eq (by simp)
  | cons b t'=>
   rw[List.pairwise_cons] at h1 h2;have gu:a=b:=by
    have ha:a∈b::t':=p.mem_iff.mp Pu;have hb:b∈a::t:=p.mem_iff.mpr Pu;rcases PC.mp ha with e | ha
    ·exact e
    rcases PC.mp hb with e | hb
    ·exact e.symm
    exact Mx.D.dQ a b (h2.1 a ha) (h1.1 b hb)
   subst gu;rw[gp (List.perm_cons a |>.mp p) h1.2 h2.2]
def jK (ms:List Mx.D):(aK ms).Perm ms/\(aK ms).Pairwise λa b=>Mx.D.lt b a=false:=by
 unfold aK;refine⟨List.mergeSort_perm ms oj,?_⟩;have h:=List.pairwise_mergeSort (le:=oj) (λa b c h1 h2=>by
  unfold oj at *;simp only[Bool.not_eq_true'] at *;cases h3:Mx.D.lt c a with
  | false=>rfl
  | true=>
   rcases Mx.FK.negTrans c b a h3 with h | h
   ·have h:Mx.D.lt c b=true:=h;rw[h2] at h;cases h
   ·have h:Mx.D.lt b a=true:=h;rw[h1] at h;cases h) (λa b=>by
  unfold oj;cases h:Mx.D.lt b a with
  | false=>rfl
  | true=>
   cases h':Mx.D.lt a b with
   | false=>rfl
   | true=>have:=Mx.D.lt_trans a b a h' h;rw[Mx.D.lt_irrefl] at this;cases this) ms
 exact h.imp λq=>by unfold oj at q;simpa using q
def pO {ms es:List Mx.D} (h:Mx.ia ms es):es=aK ms:=gp (h.1.trans (jK ms).1.symm) h.2 (jK ms).2
mutual
def uf:∀{d e:Mx.D},k7 d e=true->Mx.D.et d e
 | .int _,.int _,_=>by unfold Mx.D.et;trivial
 | .str _,.str _,_=>by unfold Mx.D.et;trivial
 | .tup a,.tup b,h=>by unfold Mx.D.et;exact lY (by simpa [k7] using h)
 | .int _,.str _,h=>by simp[k7] at h
 | .int _,.tup _,h=>by simp[k7] at h
 | .str _,.int _,h=>by simp[k7] at h
 | .str _,.tup _,h=>by simp[k7] at h
 | .tup _,.int _,h=>by simp[k7] at h
 | .tup _,.str _,h=>by simp[k7] at h
def lY:∀{d e:List Mx.D},iC d e=true->Mx.D.gq d e
 | [],_,_=>by unfold Mx.D.gq;trivial
 | _::_,[],_=>by unfold Mx.D.gq;trivial
 | x::xs,y::ys,h=>by simp only[iC,Pm] at h;unfold Mx.D.gq;exact⟨uf h.1,lY h.2⟩
end
def CQ {k:Mx.SK} {d:Mx.D} (h:Hj k d=true):k.ok d:=by
 unfold Hj at h;split at h
 ·have e:=PV h;subst e;exact⟨_,_,rfl⟩
 ·have e:=PV h;subst e;exact⟨_,_,rfl⟩
 ·have e:=PV h;subst e;exact⟨_,_,rfl⟩
 ·have e:=PV h;subst e;exact⟨_,rfl⟩
 ·have e:=PV h;subst e;exact⟨_,rfl⟩
 ·cases h
def Be {ms:List Mx.D} (h:il ms=true):Mx.kU ms:=by
 unfold il at h;rw[Pm,Qe] at h;obtain⟨h1,h2⟩:=h;refine⟨Po h1,λh3=>?_⟩;rcases h2 with h2 | h2
 ·have:=Po h2;omega
 ·rw[Pm,Pm] at h2;obtain⟨⟨h4,h5⟩,h6⟩:=h2;refine⟨Po h4,?_,λd hd e he=>uf (Qa.mp (Qa.mp h6 d hd) e he)⟩;obtain⟨k,_,hk⟩:=List.any_eq_true.mp h5;exact⟨k,λd hd=>CQ (Qa.mp hk d hd)⟩
def nM:∀(ys:List Str) (y:Str),y∈dd ys↔y∈ys
 | [],y=>by simp[dd]
 | x::r,y=>by
  unfold dd;by_cases h:x∈dd r
  ·rw[if_pos h,nM r y,PC];constructor
   ·exact .inr
   ·rintro(rfl | q)
    ·exact(nM r y).mp h
    ·exact q
  ·rw[if_neg h,PC,PC,nM r y]
def kP:∀ys:List Str,(dd ys).Nodup
 | []=>List.nodup_nil
 | x::r=>by
  unfold dd;by_cases h:x∈dd r
  ·rw[if_pos h];exact kP r
  ·rw[if_neg h];exact List.nodup_cons.mpr ⟨h,kP r⟩
def lz {α:Type} [DecidableEq α] {a b:List α} (ha:a.Nodup) (hb:b.Nodup) (h:∀x,x∈a↔x∈b):a.Perm b:=by rw[List.perm_iff_count];intro x;rw[ha.count,hb.count];simp[h x]
def xT:∀ys:List Str,(dd ys).length<=ys.length
 | []=>Pt _
 | x::r=>by
  have:=xT r;unfold dd;by_cases h:x∈dd r
  ·rw[if_pos h,PM];omega
  ·rw[if_neg h,PM,PM];omega
end
end Rx
end
section
namespace Rx
open PySem PySem.W PySem.Spec PyProof.Rows L2 PySem.SeqAt
section
variable {X:Cx}
def ET:BI->Value
 | .len=> .builtin "len" | .abs=> .builtin "abs" | .min2=> .builtin "min" | .max2=> .builtin "max" | .sum=> .builtin "sum" | .any=> .builtin "any" | .all=> .builtin "all" | .minL=> .builtin "min"
 | .maxL=> .builtin "max" | .sorted=> .builtin "sorted" | .tuple=> .type "tuple" | .list=> .type "list" | .int=> .type "int" | _=> .none
def BR:BI->Bool
 | .isi _=>false | .revL=>false | .revT=>false | .sset=>false | .zipL=>false | .maxD _=>false | _=>true
def bC {K:Frag} {A:Addr->Prop} {H:Hp} {xs:List V} {d:Dt} (h:ai K A H xs [d]):∃x,xs=[x]/\RV K A H x d:=by obtain⟨x,r,rfl,h1,h2⟩:=h.cons_inv;rw[h2.nil_inv];exact⟨x,rfl,h1⟩
def uv {K:Frag} {A:Addr->Prop} {H:Hp} {xs:List V} {d e:Dt} (h:ai K A H xs [d,e]):∃x y,xs=[x,y]/\RV K A H x d/\RV K A H y e:=by obtain⟨x,r,rfl,h1,h2⟩:=h.cons_inv;obtain⟨y,rfl,h3⟩:=bC h2;exact⟨x,y,rfl,h1,h3⟩
def Ae (b:BI) (hr:BR b=true) (hc:X.calm=true) (hu:X.A.units + 150 < cLine):eG X (ET b) (rP X.K true (dJ b)):=by
 intro pins s σ H xs us Q I r h;obtain⟨ds,d,hx,he,q⟩:=h;have E3:=bN;unfold dJ at he;split at he
 ·obtain⟨g,he⟩:=aZ he;cases he;obtain⟨x,rfl,h1⟩:=bC hx;exact g9 pins s σ H _ us Q I r ⟨x,_,rfl,by rw[h1.str_inv];exact⟨Pz (Po g) E3,rfl⟩,q _ _ (PR.sc (d:= .int _) rfl)⟩
 ·cases he;obtain⟨x,rfl,h1⟩:=bC hx;obtain⟨a,ys,rfl,h2,_,h3⟩:=h1.lst_inv;exact g9 pins s σ H _ us Q I r ⟨_,_,rfl,.inl ⟨ys,c6.of h2,rfl⟩,by rw[h3.length];exact q _ _ (PR.sc (d:= .int _) rfl)⟩
 ·cases he;obtain⟨x,rfl,h1⟩:=bC hx;obtain⟨a,ys,rfl,h2,h3⟩:=h1.ag;exact g9 pins s σ H _ us Q I r ⟨_,_,rfl,.inr ⟨ys,ek.of h2,rfl⟩,by rw[h3.length];exact q _ _ (PR.sc (d:= .int _) rfl)⟩
 ·cases he;obtain⟨x,rfl,h1⟩:=bC hx;obtain⟨a,rfl,h2⟩:=h1.iZ;exact g9 pins s σ H _ us Q I r ⟨_,_,rfl,.inl ⟨_,h2,rfl⟩,by rw[Px];exact q _ _ (PR.sc (d:= .int _) rfl)⟩
 ·cases he;obtain⟨x,y,rfl,h1,h2⟩:=uv hx;exact vm hc pins s σ H _ us Q I r ⟨_,_,by rw[h1.int_inv,h2.int_inv],q _ _ (PR.sc (d:= .int _) rfl)⟩
 ·split at he
  ·rename_i ns B3;cases he;obtain⟨x,rfl,h1⟩:=bC hx;obtain⟨a,ys,rfl,h2,_,h3⟩:=h1.lst_inv;rw[gT h3 B3] at h2;exact Mx.xH hc pins s σ H _ us Q I r ⟨a,ns,rfl,c6.of h2,q _ _ (PR.sc (d:= .int _) rfl)⟩
  ·cases he
 ·rename_i d0;split at he
  ·rename_i es hes;split at he
   ·rename_i ms Ii;obtain⟨g,he⟩:=aZ he;cases he;have cs:=Be g;obtain⟨x,rfl,h1⟩:=bC hx;have Ly:=mT Ii;have go:∀{a:Addr} {ys:List V},x= .ref a->(c6 X.K H a ys\/ek X.K H a ys)->ai X.K N0 H ys es->wpAny (model X.prog X.w) X.A (call (ET .sorted) us) (EP X pins σ Q) X.xe s:=by intro a ys ex hs g;subst ex;rw[Ly] at g;refine Mx.mM hu pins s σ H _ us Q I r ⟨a,ys,ms,rfl,hs,g.vn,cs,λm zs qs hm hz hso=>q _ _ ?_⟩;have e:=pO hso;subst e;exact PR.mZ hm λA _=>ai.mN hz
    unfold itemsOf at hes;split at hes
    ·cases hes;obtain⟨a,ys,e1,h2,_,h3⟩:=h1.lst_inv;exact go e1 (.inl (c6.of h2)) h3
    ·cases hes;obtain⟨a,ys,e1,h2,h3⟩:=h1.ag;exact go e1 (.inr (ek.of h2)) h3
    ·cases hes;obtain⟨a,e1,h2⟩:=h1.iZ;exact go e1 (.inl h2) gU
    ·cases hes
   ·cases he
  ·cases he
 ·cases he;obtain⟨x,rfl,h1⟩:=bC hx;obtain⟨a,ys,rfl,h2,_,h3⟩:=h1.lst_inv;exact gj pins s σ H _ us Q I r ⟨a,ys,rfl,.inl ⟨c6.of h2,λl hl=>q _ _ (PR.Dz hl λA w=>eJ.aM w.1 h2)⟩⟩
 ·cases he;obtain⟨x,rfl,h1⟩:=bC hx;obtain⟨a,ys,rfl,h2,h3⟩:=h1.ag;exact gj pins s σ H _ us Q I r ⟨a,ys,rfl,.inr ⟨ek.of h2,q _ _ (PR.uH h2 λA w=>eJ.ax w.1 h2)⟩⟩
 ·cases he;obtain⟨x,rfl,h1⟩:=bC hx;obtain⟨a,ys,rfl,h2,_,h3⟩:=h1.lst_inv;exact ec pins s σ H _ us Q I r ⟨a,ys,rfl,.inl (c6.of h2),λl hl=>q _ _ (PR.mZ hl λA w=>eJ.aM w.1 h2)⟩
 ·cases he;obtain⟨x,rfl,h1⟩:=bC hx;obtain⟨a,ys,rfl,h2,h3⟩:=h1.ag;exact ec pins s σ H _ us Q I r ⟨a,ys,rfl,.inr (ek.of h2),λl hl=>q _ _ (PR.mZ hl λA w=>eJ.ax w.1 h2)⟩
 ·cases he;obtain⟨x,rfl,h1⟩:=bC hx;obtain⟨a,rfl,h2⟩:=h1.iZ;exact ec pins s σ H _ us Q I r ⟨a,_,rfl,.inl h2,λl hl=>q _ _ (PR.mZ hl λA w=>gU)⟩
 ·cases hr
 ·cases hr
 ·cases hr
 ·split at he
  ·rename_i ns B3;obtain⟨g,he⟩:=aZ he;cases he;obtain⟨x,rfl,h1⟩:=bC hx;obtain⟨a,ys,rfl,h2,_,h3⟩:=h1.lst_inv;rw[gT h3 B3] at h2;have jA:ns≠[]:=λe=>by rw[e] at g;cases g
   refine Mx.uO hc pins s σ H _ us Q I r ⟨a,ns,rfl,c6.of h2,jA,λm m1 m2=>?_⟩;have:=j6 ns jA;have e:m=eQ ns:=Int.le_antisymm (this.2 _ m1) (m2 _ this.1);rw[e];exact q _ _ (PR.sc (d:= .int _) rfl)
  ·cases he
 ·cases hr
 ·cases hr
 ·cases hr
 ·cases he
end
structure Fm where
 K:Frag
 H0:Hp
 d0:Option Addr
 Ek:Nat->Prop
structure Ow where
 W:Addr->Prop
 A:Addr->Prop
 dr:Option Addr
def Ow.wd (o:Ow):Addr->Prop:=λa=>o.W a\/o.dr=some a
def Ow.d (o:Ow):Addr->Prop:=λa=>o.dr=some a
def OV (K:Frag) (H0:Hp) (o:Ow) (H:Hp) (v:V):Dt->Prop
 | .lst ds=>∃a xs,v= .ref a/\H a=some (.lst xs)/\o.A a/\¬o.W a/\o.dr≠some a/\H0 a=none/\ai K o.A H xs ds
 | d=>RV K o.A H v d
structure ER (Φ:Fm) (Γ:Gm) (o:Ow) (ρ:ak) (S:Sx) (σ:L2.St) (H:Hp):Prop where
 len:σ.length=ρ.length
 wa:∀a,o.W a->o.A a
 da:∀a,o.dr=some a->o.A a
 al:∀a,o.A a->∃x,H a=some x
 val:∀(i:Nat) (d:Dt),ρ[i]?=some (some d)->∃v,σ[i]?=some (some v)/\(if eM Γ i=true then OV Φ.K Φ.H0 o H v d else RV Φ.K o.A H v d)
 inj:∀(i j:Nat) (a:Addr) (d e:List Dt),eM Γ i=true->eM Γ j=true->ρ[i]?=some (some (.lst d))->ρ[j]?=some (some (.lst e))->σ[i]?=some (some (.ref a))->σ[j]?=some (some (.ref a))->i=j
 drw:∀a,o.dr=some a->∃ns:List Int,S=some ns/\H a=some (.lst (ns.map V.int))
 drn:o.dr=none->S=none
 drs:∀(i:Nat) (a:Addr),Γ.δ=some i->o.dr=some a->σ[i]?=some (some (.ref a))
 dr0:∀a,o.dr=some a->Φ.d0=some a\/Φ.H0 a=none
 ent:aV (λb=>Φ.d0=some b) Φ.H0 H
section
variable {Φ:Fm} {Γ:Gm} {o:Ow} {ρ:ak} {S S':Sx} {σ:L2.St} {H H':Hp}
def OV.val {K:Frag} {H0:Hp} {v:V} {d:Dt} (h:OV K H0 o H v d) (wa:∀a,o.W a->o.A a) (da:∀a,o.dr=some a->o.A a):RV K o.wd H v d:=by
 have hw:∀b,o.wd b->o.A b:=λb z=>z.elim (wa b) (da b)
 cases d with
 | lst ds=>obtain⟨a,xs,rfl,h1,h2,h3,h4,_,h5⟩:=h;exact RV.eC h1 (λz=>z.elim h3 h4) (h5.weak hw)
 | _=>exact RV.weak h hw
def OV.one {K:Frag} {H0:Hp} {v:V} {d:Dt} (h:OV K H0 o H v d):eJ K o.A H v d:=by
 cases d with
 | lst ds=>obtain⟨a,xs,rfl,h1,h2,h3,h4,_,h5⟩:=h;exact⟨a,xs,rfl,h1,h5⟩
 | _=>exact h
def OV.ext {K:Frag} {H0:Hp} {v:V} {d:Dt} (h:OV K H0 o H v d) (da:∀a,o.dr=some a->o.A a) (e:aV o.d H H'):OV K H0 o H' v d:=by
 cases d with
 | lst ds=>obtain⟨a,xs,rfl,h1,h2,h3,h4,h6,h5⟩:=h;exact⟨a,xs,rfl,e.kp _ _ h1 h4,h2,h3,h4,h6,h5.mono e da λ_ z=>z⟩
 | _=>exact RV.mono e da (λ_ z=>z) h
def ER.gD (er:ER Φ Γ o ρ S σ H):∀b,o.wd b->o.A b:=λb z=>z.elim (er.wa b) (er.da b)
def ER.yb (er:ER Φ Γ o ρ S σ H):∀b,o.wd b->∃x,H b=some x:=λb z=>er.al b (er.gD b z)
def aV.al {X:Addr->Prop} (e:aV X H H') {b:Addr} {x:HO} (h:H b=some x) (hx:X b->∃y,H' b=some y):∃y,H' b=some y:=by
 by_cases z:X b
 ·exact hx z
 ·exact⟨x,e.kp _ _ h z⟩
def ER.step (er:ER Φ Γ o ρ S σ H) (e:aV o.d H H') (hd:∀a,o.dr=some a->∃ns:List Int,S'=some ns/\H' a=some (.lst (ns.map V.int))) (hn:o.dr=none->S'=none):ER Φ Γ o ρ S' σ H' where
 len:=er.len
 wa:=er.wa
 da:=er.da
 al:=λa ha=>by obtain⟨x,hx⟩:=er.al a ha;exact e.al hx λz=>by obtain⟨ns,_,h⟩:=hd a z;exact⟨_,h⟩
 val:=λi d h=>by
  obtain⟨v,h1,h2⟩:=er.val i d h;refine⟨v,h1,?_⟩;by_cases m:eM Γ i=true
  ·rw[if_pos m] at h2 ⊢;exact h2.ext er.da e
  ·rw[if_neg m] at h2 ⊢;exact h2.mono e er.da λ_ z=>z
 inj:=er.inj
 drw:=hd
 drn:=hn
 drs:=er.drs
 dr0:=er.dr0
 ent:=⟨λb x h n=>by
   refine e.kp _ _ (er.ent.kp b x h n) λz=>?_
   rcases er.dr0 b z with q | q
   ·exact n q
   ·(rw[h] at q;cases q),λb xs h=>e.tp _ _ (er.ent.tp b xs h)⟩
def ER.grow (er:ER Φ Γ o ρ S σ H) (s:bu H H'):ER Φ Γ o ρ S σ H':=er.step (aV.of_same s) (λa h=>by
 obtain⟨ns,h1,h2⟩:=er.drw a h;exact⟨ns,h1,s _ _ h2⟩) er.drn
end
def mR (Ek:Nat->Prop) {α:Type} (r:R α) (P:α->Prop):Prop:=match r with
 | .ok a=>P a
 | .ex k=>Ek k
 | .bad=>False
section
variable {Ek:Nat->Prop} {α β:Type}
def ab {r:R α} {f:α->R β} {P:β->Prop}:mR Ek (r.bind f) P↔mR Ek r λa=>mR Ek (f a) P:=by cases r <;> rfl
def ae {r:R α} {P Q:α->Prop} (h:mR Ek r P) (hq:∀a,r= .ok a->P a->Q a):mR Ek r Q:=by
 cases r with
 | ok a=>exact hq a rfl h
 | ex k=>exact h
 | bad=>exact h
def aN {b:Bool} {r:R α} {P:α->Prop} (h:mR Ek (af b r) P):b=true/\mR Ek r P:=by
 cases b with
 | true=>exact⟨rfl,h⟩
 | false=>exact h.elim
end
structure EO (K:Frag) (fr:Nat->Bool) (o:Ow) (c:C) (H:Hp) (d:Dt) (v:V) (H':Hp):Prop where
 ext:aV o.d H H'
 val:RV K o.wd H' v d
 cW:lk c=0->RV K o.A H' v d
 mX:lk c<=1->eJ K o.A H' v d
 eW:fresh fr c=true->∀ds,d= .lst ds->∃a xs,v= .ref a/\H a=none/\H' a=some (.lst xs)/\ai K (λb=>o.wd b\/b=a) H' xs ds/\(lk c=0->ai K (λb=>o.A b\/b=a) H' xs ds)
structure Oq (K:Frag) (o:Ow) (cs:Cs) (H:Hp) (ds:List Dt) (vs:List V) (H':Hp):Prop where
 ext:aV o.d H H'
 val:ai K o.wd H' vs ds
 cW:lL cs=0->ai K o.A H' vs ds
 mX:lL cs<=1->lq K o.A H' vs ds
section
variable (Φ:Fm) (Γ:Gm) (F:FT) (fr:Nat->Bool)
def bD (c:C):TE:=λσ H Q=>∃o ρ S,ER Φ Γ o ρ S σ H/\mR Φ.Ek (ev F c ρ S) λp=>∀v H',EO Φ.K fr o c H p.1 v H'->ER Φ Γ o ρ p.2 σ H'->Q v H'
def fg (c:C):TT:=λσ H Q=>∃o ρ S,ER Φ Γ o ρ S σ H/\mR Φ.Ek (bQ F c ρ S) λp=>∀H',aV o.d H H'->ER Φ Γ o ρ p.2 σ H'->Q p.1 H'
def lj (cs:Cs):TA:=λσ H Q=>∃o ρ S,ER Φ Γ o ρ S σ H/\mR Φ.Ek (fG F cs ρ S) λp=>∀vs H',Oq Φ.K o cs H p.1 vs H'->ER Φ Γ o ρ p.2 σ H'->Q vs H'
def pD (cs:Cs):TT:=λσ H Q=>∃o ρ S,ER Φ Γ o ρ S σ H/\mR Φ.Ek (cA F cs ρ S) λp=>∀H',aV o.d H H'->ER Φ Γ o ρ p.2 σ H'->Q p.1 H'
end
structure Wk (K:Frag) (A X:Addr->Prop) (J:It) (H:Hp) (ds:List Dt):Prop where
 go:∀(i:Nat) (H1:Hp),i < ds.length->aV X H H1->J.go i H1
 stop:∀(H1:Hp),aV X H H1->J.stop ds.length H1
 yld:∀(i:Nat) (x:V) (H1 H2:Hp),i < ds.length->aV X H H1->J.yld i H1 x H2->bu H1 H2/\∃d,ds[i]?=some d/\∀B:Addr->Prop,(∀b,B b->A b\/H b=none)->RV K B H2 x d
structure IO (K:Frag) (o:Ow) (it:l0) (nl:Bool) (H:Hp) (ds:List Dt) (J:It) (H':Hp):Prop where
 ext:aV o.d H H'
 w1:qk it<=1->Wk K o.A o.d J H' ds
 w0:qk it=0->Wk K o.A o.A J H' ds
 w2:nl=true->Wk K o.A o.A J H' ds
def nL (Φ:Fm) (Γ:Gm) (F:FT) (it:l0):TI:=λσ H Q=>∃o ρ S,ER Φ Γ o ρ S σ H/\mR Φ.Ek (dI F it ρ S) λp=>∀J H',IO Φ.K o it (kK F it ρ S) H p.1 J H'->ER Φ Γ o ρ p.2 σ H'->Q J H'
structure GX (g:G) (Γ:Gm) (X:Cx):Prop where
 N:X.N=Γ.N
 nd:Γ.N.Nodup
 vis:∀x,xi (Γ.names.lookup x)=true->HC X.env.scope x
 loc:∀x,ym (Γ.names.lookup x)=true->Loc X.env.scope x/\(X.fn x=true\/X.env.scope.names.lookup x=some .local)
 gl:∀x,vN (Γ.names.lookup x)=true->Gl X x
 fre:∀x,(Γ.names.lookup x=some .cell\/Γ.names.lookup x=some .free)->(X.env.scope.names.lookup x=some .cell\/X.env.scope.names.lookup x=some .free)
 calm:X.calm=true
 un:X.A.units + 150 < cLine
 con:∀x d,g.cons.lookup x=some d->∃u,ou d=true/\X.mg x=some u/\RelV (ql d) u
 bl:∀x∈g.bls,X.mg x=none
structure FO (K:Frag) (W:Addr->Prop) (dr:Option Addr) (fr:Bool) (H:Hp) (d:Dt) (S':Sx) (v:V) (H':Hp):Prop where
 ext:aV (λb=>dr=some b) H H'
 val:RV K W H' v d
 drw:∀a,dr=some a->∃ns:List Int,S'=some ns/\H' a=some (.lst (ns.map V.int))
 eW:fr=true->∀ds,d= .lst ds->∃a xs,v= .ref a/\H a=none/\H' a=some (.lst xs)/\ai K (λb=>W b\/b=a) H' xs ds
def My (K:Frag) (xv:Nat->Value) (F:List Dt->Sx->R (Dt×Sx)) (np:Nat) (fr bf:Bool):Sp:=λvs H Q E=>
 vs.length=np/\∃(W:Addr->Prop) (dr:Option Addr) (args:List Dt) (S:Sx) (vJ:List V),
  (if bf=true then∃(a:Addr) (ns:List Int),vs= .ref a::vJ/\dr=some a/\W a/\S=some ns/\H a=some (.lst (ns.map V.int)) else vs=vJ/\dr=none/\S=none)/\
  ai K W H vJ args/\(∀a,W a->∃x,H a=some x)/\
  match F args S with
  | .ok p=>∀v H',FO K W dr fr H p.1 p.2 v H'->Q v H'
  | .ex k=>∀H',aV (λb=>dr=some b) H H'->E (xv k) none H'
  | .bad=>False
def lR (Φ:Fm) (xv:Nat->Value):XK:=λv _ H'=>∃k,v=xv k/\Φ.Ek k/\aV (λb=>Φ.d0=some b) Φ.H0 H'
structure FX (g:G) (xv:Nat->Value) (CX:j9) (P:Program) (w:World) (K:Frag) (mg:Str->Option Value) (base:Heap) (n k:Nat) (F:FT):Prop where
 fn:∀x f np fH bf,rQ x g.fns=some (f,np,fH,bf)->∃(fa:Addr) (fd:FuncData) (ps:List Str),ps.length=np/\mg x=some (.ref fa)/\PySem.W.keepIn K (.ref fa)=true/\
  iO P w K mg base CX k fa fd ps (My K xv (F f) np (g.fr f) bf)/\(∀j,j<=fH.length->∃ds,aw ((fH.drop j).map ql) ds/\Binds K fd ps ds)/\fH.all ou=true
structure HX (g:G) (xv:Nat->Value) (CX:j9) (k:Nat) (F:FT) (Φ:Fm) (X:Cx):Prop where
 K:Φ.K=X.K
 fx:∃n,FX g xv CX X.prog X.w X.K X.mg X.base n k F
 room:iz k X.A
 cx:CX=om X.prog X.w
 st:fz X
 xgx:∀e s',kB X (lR Φ xv) e s'->X.xe e s'
def HX.pass {g:G} {xv:Nat->Value} {CX:j9} {k:Nat} {F:FT} {Φ:Fm} {X:Cx} (h:HX g xv CX k F Φ X):rD CX X (lR Φ xv):=λpins σ H s e s' I c=>by have hc:=h.cx;subst hc;exact h.xgx e s' (wq I h.st.pn c)
def a9 {X:Cx} {e:Expr} {t t':TE} (h:PE X e t) (hi:∀σ H Q,t' σ H Q->t σ H Q):PE X e t':=λpins s σ H Q I q=>h pins s σ H Q I (hi σ H Q q)
def q5 {X:Cx} {e:Expr} {t t':TT} (h:PT X e t) (hi:∀σ H Q,t' σ H Q->t σ H Q):PT X e t':=λpins s σ H Q I q=>h pins s σ H Q I (hi σ H Q q)
def wB {X:Cx} {e:Expr} {t t':TT} (h:PW X e t) (hi:∀σ H Q,t' σ H Q->t σ H Q):PW X e t':=λwh pins s σ H Q I q=>h wh pins s σ H Q I (hi σ H Q q)
def yQ {X:Cx} {e:List Expr} {t t':TA} (h:PA X e t) (hi:∀σ H Q,t' σ H Q->t σ H Q):PA X e t':=λpos pins s σ H Q I q=>h pos pins s σ H Q I (hi σ H Q q)
def nz {X:Cx} {tg e:Expr} {t t':TI} (h:PI X tg e t) (hi:∀σ H Q,t' σ H Q->t σ H Q):PI X tg e t':=λpins s σ H Q I q=>h pins s σ H Q I (hi σ H Q q)
section
variable {Φ:Fm} {Γ:Gm} {F:FT} {fr:Nat->Bool} {o:Ow} {ρ:ak} {S:Sx} {σ:L2.St} {H H':Hp}
def EO.sc {c:C} {d:Dt} (h:ou d=true):EO Φ.K fr o c H d (ql d) H:=⟨aV.refl,pC h,λ_=>pC h,λ_=>(pC h).one,λ_ ds e=>by subst e;simp[ou] at h⟩
def EO.qX {c:C} {d:Dt} {v:V} {H1:Hp} (e:aV o.d H H1) (h:EO Φ.K fr o c H1 d v H') (hf:fresh fr c=true->∀ds,d= .lst ds->∀a,H1 a=none->H a=none):EO Φ.K fr o c H d v H':=
 ⟨e.trans h.ext,h.val,h.cW,h.mX,λf ds ed=>by
  obtain⟨a,xs,h1,h2,h3⟩:=h.eW f ds ed;exact⟨a,xs,h1,hf f ds ed a h2,h3⟩⟩
def yL {X:Addr->Prop} {H1:Hp} (e:aV X H H1) (hx:∀b,X b->∃y,H1 b=some y) {a:Addr} (h:H1 a=none):H a=none:=by
 cases q:H a with
 | none=>rfl
 | some x=>obtain⟨y,z⟩:=e.al q (hx a);rw[h] at z;cases z
def ER.dO {S1:Sx} {H1:Hp} (aB:ER Φ Γ o ρ S1 σ H1) (e:aV o.d H H1) {a:Addr} (h:H1 a=none):H a=none:=yL e (λb z=>aB.al b (aB.da b z)) h
def EO.keep {c:C} {d:Dt} {v:V} {H1 H2:Hp} (h:EO Φ.K fr o c H d v H1) (e:aV o.d H1 H2) (wa:∀b,o.wd b->o.A b):RV Φ.K o.wd H2 v d/\(lk c=0->RV Φ.K o.A H2 v d)/\(lk c<=1->eJ Φ.K o.A H2 v d):=by
 have hd:∀b,o.d b->o.wd b:=λb z=> .inr z
 refine⟨h.val.mono e hd λ_ z=>z,λl=>(h.cW l).mono e (λb z=>wa b (hd b z)) λ_ z=>z,λl=>?_⟩;refine(h.mX l).ext e (λb z=>wa b (hd b z)) λds a ed ev z=>?_
 subst ed ev;obtain⟨b,xs,q,_,n,_⟩:=h.val.lst_inv;cases q;exact n (.inr z)
def EO.pr {c:C} {xs:List V} {ds:List Dt} {d:Dt} {v:V} {H1 H2:Hp} {S1:Sx} {f:Bool} (aB:ER Φ Γ o ρ S1 σ H1) (e:aV o.d H H1) (hv:ai Φ.K o.wd H1 xs ds) (h1:lk c<=1->lq Φ.K o.A H1 xs ds) (hl:lk c=0\/lk c=2)
  (pr:PR Φ.K f xs ds H1 d v H2) (hf:fresh fr c=true->f=true):EO Φ.K fr o c H d v H2/\ER Φ Γ o ρ S1 σ H2:=by
 have q0:lk c=0->RV Φ.K o.A H2 v d:=λl=>pr.val o.A aB.al (h1 (by omega))
 refine⟨⟨e.trans (aV.of_same pr.same),pr.val o.wd aB.yb hv.ones,q0,λl=>(q0 (by omega)).one,λfc es ed=>?_⟩,aB.grow pr.same⟩;obtain⟨a,ys,k1,k2,k3,k4⟩:=pr.eW (hf fc) es ed;exact⟨a,ys,k1,aB.dO e k2,k3,k4 o.wd aB.yb hv.ones,λl=>k4 o.A aB.al (h1 (by omega))⟩
def gZ {A:Addr->Prop} {K:Frag} {v:V} {d:Dt} (h:RV K A H v d):RV K N0 H v d:=h.weak λ_ z=>z.elim
def Dr {A:Addr->Prop} {K:Frag} {v:List V} {d:List Dt} (h:ai K A H v d):ai K N0 H v d:=h.weak λ_ z=>z.elim
end
section
variable {X:Cx} {Φ:Fm} {Γ:Gm} {F:FT} {fr:Nat->Bool} {g:G}
def pd {e:Expr} {d:Dt} (hd:ou d=true) (h:PE X e (tC (ql d))):PE X e (bD Φ Γ F fr (.con d)):=a9 h λσ H Q q=>by obtain⟨o,ρ,S,er,q⟩:=q;exact q _ _ (EO.sc hd) er
def nv {Ek:Nat->Prop} {ρ:ak} {i:Nat} {P:Dt->Prop} (h:mR Ek (ff ρ i) P):∃d,ρ[i]?=some (some d)/\P d:=by
 unfold ff at h;split at h
 ·exact⟨_,by assumption,h⟩
 ·exact h.elim
def Gi {e:Expr} {i:Nat} (h:PE X e (lA i)) (hm:eM Γ i=false):PE X e (bD Φ Γ F fr (.var i)):=a9 h λσ H Q q=>by obtain⟨o,ρ,S,er,q⟩:=q;unfold ev at q;rw[ab] at q;obtain⟨d,hd,q⟩:=nv q;obtain⟨v,h1,h2⟩:=er.val i d hd;rw[hm,if_neg (by simp)] at h2;exact⟨v,h1,q v H ⟨aV.refl,h2.weak er.gD,λ_=>h2,λ_=>h2.one,λz=>by simp[fresh] at z⟩ er⟩
def Hs {e:Expr} {i:Nat} (h:PE X e (lA i)) (hm:eM Γ i=true):PE X e (bD Φ Γ F fr (.mvr i)):=a9 h λσ H Q q=>by obtain⟨o,ρ,S,er,q⟩:=q;unfold ev at q;rw[ab] at q;obtain⟨d,hd,q⟩:=nv q;obtain⟨v,h1,h2⟩:=er.val i d hd;rw[hm,if_pos rfl] at h2;exact⟨v,h1,q v H ⟨aV.refl,h2.val er.wa er.da,λz=>by simp[lk] at z,λ_=>h2.one,λz=>by simp[fresh] at z⟩ er⟩
def jC {Ek:Nat->Prop} {r:R Dt} {P:Dt->Prop} (jA:∀k,r≠ .ex k) (h:mR Ek r P):∃d,r= .ok d/\P d:=by grind [ex,R,Dt,mR]
theorem cT {b:Bool} {α:Type} {r:R α} (h:∀k,r≠ .ex k):∀k,af b r≠ .ex k:=by
 intro k;cases b
 ·intro z;cases z
 ·exact h k
def Ea (o:Operator) (d e:Dt):∀k,nG o d e≠ .ex k:=by intro k;unfold nG;split <;> first | (intro z;cases z;done) | (exact cT (λk z=>by cases z) k)
def tv (o:CmpOp) (d e:Dt):∀k,cU o d e≠ .ex k:=by intro k;unfold cU;split <;> first | (intro z;cases z;done) | (exact cT (λk z=>by cases z) k)
theorem Cp (ds:List Dt) (i:Int):∀k,u6 ds i≠ .ex k:=by intro k;unfold u6;split <;> (intro z;cases z)
def AH (d e:Dt):∀k,c8 d e≠ .ex k:=by grind [c8,Cp,cT,Dt,ex]
def Ah (d:Dt) (lo hi:Option Int):∀k,ir d lo hi≠ .ex k:=by grind [ir,cT,Dt,ex]
def AQ (d:Dt):∀k,dC d≠ .ex k:=by grind [dC,cT,Dt,ex]
def ie {Ek:Nat->Prop} {r:R Bool} {P:Bool->Prop} (jA:∀k,r≠ .ex k) (h:mR Ek r P):∃d,r= .ok d/\P d:=by grind [ex,R,mR]
def qN {op:Operator} {a b:C}:(lk (.bin op a b)=0\/lk (.bin op a b)=2)/\(lk (.bin op a b)<=1->lk a<=1/\lk b<=1):=by grind [lk]
def F8 {a b:Expr} {a' b':C} {op:Operator} {pos:Pos} (hK:Φ.K=X.K) (ha:PE X a (bD Φ Γ F fr a')) (hb:PE X b (bD Φ Γ F fr b')):PE X (.BinOp a op b pos) (bD Φ Γ F fr (.bin op a' b')):=a9 (GY (DG op) ha hb) λσ H Q q=>by
 obtain⟨o,ρ,S,er,q⟩:=q;unfold ev at q;rw[ab] at q;refine⟨o,ρ,S,er,ae q λp _ q x H1 aY aB=>?_⟩;rw[ab] at q;refine⟨o,ρ,p.2,aB,ae q λp2 _ q y H2 eo2 f7=>?_⟩;rw[ab] at q;obtain⟨z,hz,q⟩:=jC (Ea _ _ _) q;obtain⟨k1,k2,k3⟩:=aY.keep eo2.ext er.gD;refine⟨p.1,p2.1,z,hK▸gZ k1,hK▸gZ eo2.val,hz,λv H3 pr=>?_⟩;rw[<-hK] at pr;obtain⟨e1,e2⟩:=EO.pr (fr:=fr) (H:=H) (c:= .bin op a' b') f7 (aY.ext.trans eo2.ext) (ai.cons k1 (ai.cons eo2.val ai.nil)) (λl=>⟨k3 (qN.2 l).1,eo2.mX (qN.2 l).2,trivial⟩) qN.1 pr λ_=>rfl
 exact q v H3 e1 e2
def G1 {a b:Expr} {a' b':C} {op:CmpOp} {pos:Pos} (hK:Φ.K=X.K) (hu:X.A.units + 150 < cLine) (hm:behindInMarks op b=false) (ha:PE X a (bD Φ Γ F fr a')) (hb:PE X b (bD Φ Γ F fr b')):PE X (.Compare a [op] [b] pos) (bD Φ Γ F fr (.cmp op a' b')):=a9 (Bx (yd op hu) ha hb hm) λσ H Q q=>by obtain⟨o,ρ,S,er,q⟩:=q;unfold ev at q;rw[ab] at q;refine⟨o,ρ,S,er,ae q λp _ q x H1 aY aB=>?_⟩;rw[ab] at q;refine⟨o,ρ,p.2,aB,ae q λp2 _ q y H2 eo2 f7=>?_⟩;rw[ab] at q;obtain⟨z,hz,q⟩:=ie (tv _ _ _) q;obtain⟨k1,k2,k3⟩:=aY.keep eo2.ext er.gD;refine⟨p.1,p2.1,z,hK▸gZ k1,hK▸gZ eo2.val,hz,q _ _ ?_ f7⟩;have:=EO.sc (Φ:=Φ) (fr:=fr) (o:=o) (H:=H2) (c:= .cmp op a' b') (d:= .bl z) rfl;exact this.qX (aY.ext.trans eo2.ext) λf=>by simp[fresh] at f
def Ex {a b:Expr} {a' b':C} {op:CmpOp} {pos:Pos} (hK:Φ.K=X.K) (hu:X.A.units + 150 < cLine) (hm:behindInMarks op b=false) (ha:PE X a (bD Φ Γ F fr a')) (hb:PE X b (bD Φ Γ F fr b')):PT X (.Compare a [op] [b] pos) (fg Φ Γ F (.cmp op a' b')):=q5 (z9 (yd op hu) ha hb hm) λσ H Q q=>by obtain⟨o,ρ,S,er,q⟩:=q;unfold bQ at q;rw[ab] at q;refine⟨o,ρ,S,er,ae q λp _ q x H1 aY aB=>?_⟩;rw[ab] at q;refine⟨o,ρ,p.2,aB,ae q λp2 _ q y H2 eo2 f7=>?_⟩;rw[ab] at q;obtain⟨z,hz,q⟩:=ie (tv _ _ _) q;obtain⟨k1,k2,k3⟩:=aY.keep eo2.ext er.gD;exact⟨p.1,p2.1,z,hK▸gZ k1,hK▸gZ eo2.val,hz,z,rfl,q _ (aY.ext.trans eo2.ext) f7⟩
end
section
variable {X:Cx} {Φ:Fm} {Γ:Gm} {F:FT} {fr:Nat->Bool} {g:G}
def ai.emp {K:Frag} {A:Addr->Prop} {H:Hp} {xs:List V} {ds:List Dt} (h:ai K A H xs ds):ds.isEmpty=xs.isEmpty:=by
 have:=h.length;cases xs with
 | nil=>cases ds with
  | nil=>rfl
  | cons=>simp at this
 | cons=>cases ds with
  | nil=>simp at this
  | cons=>rfl
def Fi {a:Expr} {a':C} {pos:Pos} (ha:PE X a (bD Φ Γ F fr a')):PE X (.UnaryOp .USub a pos) (bD Φ Γ F fr (.neg a')):=a9 (GR Ey ha) λσ H Q q=>by
 obtain⟨o,ρ,S,er,q⟩:=q;unfold ev at q;rw[ab] at q;refine⟨o,ρ,S,er,ae q λp _ q x H1 aY aB=>?_⟩;split at q
 ·rename_i i hi;have:=aY.val;rw[hi] at this;refine⟨i,this.int_inv,q _ _ ?_ aB⟩;exact(EO.sc (Φ:=Φ) (fr:=fr) (o:=o) (H:=H1) (c:= .neg a') (d:= .int (-i)) rfl).qX aY.ext λf=>by simp[fresh] at f
 ·exact q.elim
def KA {a:Expr} {a':C} {pos:Pos} (ha:PE X a (bD Φ Γ F fr a')):PE X (.UnaryOp .Not a pos) (bD Φ Γ F fr (.nt a')):=a9 (Er ha) λσ H Q q=>by
 obtain⟨o,ρ,S,er,q⟩:=q;unfold ev at q;rw[ab] at q;refine⟨o,ρ,S,er,ae q λp _ q x H1 aY aB=>?_⟩;split at q
 ·rename_i i hi;have:=aY.val;rw[hi] at this;refine⟨i,this.aC,q _ _ ?_ aB⟩;exact(EO.sc (Φ:=Φ) (fr:=fr) (o:=o) (H:=H1) (c:= .nt a') (d:= .bl (!i)) rfl).qX aY.ext λf=>by simp[fresh] at f
 ·exact q.elim
def Gg {a:Expr} {a':C} {pos:Pos} (ha:PT X a (fg Φ Γ F a')):PT X (.UnaryOp .Not a pos) (fg Φ Γ F (.nt a')):=q5 (CV ha) λσ H Q q=>by obtain⟨o,ρ,S,er,q⟩:=q;unfold bQ at q;rw[ab] at q;exact⟨o,ρ,S,er,ae q λp _ q H1 e1 aB=>q _ e1 aB⟩
def F3 {a b:Expr} {rest:List Expr} {a' b':C} {pos:Pos} (ha:PE X a (bD Φ Γ F fr a')) (hb:PE X (.BoolOp .And (b::rest) pos) (bD Φ Γ F fr b')):PE X (.BoolOp .And (a::b::rest) pos) (bD Φ Γ F fr (.and a' b')):=a9 (Dj ha hb) λσ H Q q=>by
 obtain⟨o,ρ,S,er,q⟩:=q;unfold ev at q;rw[ab] at q;refine⟨o,ρ,S,er,ae q λp _ q x H1 aY aB=>?_⟩;have sc:∀(H3:Hp) (t:Bool),aV o.d H H3->EO Φ.K fr o (.and a' b') H (.bl t) (.bl t) H3:=λH3 t e3=>
  (EO.sc (Φ:=Φ) (fr:=fr) (o:=o) (H:=H3) (c:= .and a' b') (d:= .bl t) rfl).qX e3 λf=>by simp[fresh] at f
 split at q
 ·rename_i hi;have:=aY.val;rw[hi] at this;refine⟨true,this.aC,?_⟩;rw[ab] at q;refine⟨o,ρ,p.2,aB,ae q λp2 _ q y H2 eo2 f7=>?_⟩;split at q
  ·rename_i c hc;have h2:=eo2.val;rw[hc] at h2;rw[h2.aC];exact q _ _ (sc H2 c (aY.ext.trans eo2.ext)) f7
  ·exact q.elim
 ·rename_i hi;have:=aY.val;rw[hi] at this;exact⟨false,this.aC,q _ _ (sc H1 false aY.ext) aB⟩
 ·exact q.elim
def K6 {a b:Expr} {rest:List Expr} {a' b':C} {pos:Pos} (ha:PE X a (bD Φ Γ F fr a')) (hb:PE X (.BoolOp .Or (b::rest) pos) (bD Φ Γ F fr b')):PE X (.BoolOp .Or (a::b::rest) pos) (bD Φ Γ F fr (.or a' b')):=a9 (Ht ha hb) λσ H Q q=>by
 obtain⟨o,ρ,S,er,q⟩:=q;unfold ev at q;rw[ab] at q;refine⟨o,ρ,S,er,ae q λp _ q x H1 aY aB=>?_⟩;have sc:∀(H3:Hp) (t:Bool),aV o.d H H3->EO Φ.K fr o (.or a' b') H (.bl t) (.bl t) H3:=λH3 t e3=>
  (EO.sc (Φ:=Φ) (fr:=fr) (o:=o) (H:=H3) (c:= .or a' b') (d:= .bl t) rfl).qX e3 λf=>by simp[fresh] at f
 split at q
 ·rename_i hi;have:=aY.val;rw[hi] at this;refine⟨false,this.aC,?_⟩;rw[ab] at q;refine⟨o,ρ,p.2,aB,ae q λp2 _ q y H2 eo2 f7=>?_⟩;split at q
  ·rename_i c hc;have h2:=eo2.val;rw[hc] at h2;rw[h2.aC];exact q _ _ (sc H2 c (aY.ext.trans eo2.ext)) f7
  ·exact q.elim
 ·rename_i hi;have:=aY.val;rw[hi] at this;exact⟨true,this.aC,q _ _ (sc H1 true aY.ext) aB⟩
 ·exact q.elim
def Do {a b:Expr} {rest:List Expr} {a' b':C} {pos:Pos} (ha:PT X a (fg Φ Γ F a')) (hb:PW X (.BoolOp .And (b::rest) pos) (fg Φ Γ F b')):PW X (.BoolOp .And (a::b::rest) pos) (fg Φ Γ F (.and a' b')):=wB (El ha hb) λσ H Q q=>by
 obtain⟨o,ρ,S,er,q⟩:=q;unfold bQ at q;rw[ab] at q;refine⟨o,ρ,S,er,ae q λp _ q H1 e1 aB=>?_⟩;cases hp:p.1 with
 | true=>rw[hp] at q;rw[if_pos rfl];exact⟨o,ρ,p.2,aB,ae q λp2 _ q H2 e2 f7=>q _ (e1.trans e2) f7⟩
 | false=>rw[hp] at q;rw[if_neg (by simp)];exact q _ e1 aB
def Gf {a b:Expr} {rest:List Expr} {a' b':C} {pos:Pos} (ha:PT X a (fg Φ Γ F a')) (hb:PW X (.BoolOp .Or (b::rest) pos) (fg Φ Γ F b')):PW X (.BoolOp .Or (a::b::rest) pos) (fg Φ Γ F (.or a' b')):=wB (FI ha hb) λσ H Q q=>by
 obtain⟨o,ρ,S,er,q⟩:=q;unfold bQ at q;rw[ab] at q;refine⟨o,ρ,S,er,ae q λp _ q H1 e1 aB=>?_⟩;cases hp:p.1 with
 | false=>rw[hp] at q;rw[if_neg (by simp)];exact⟨o,ρ,p.2,aB,ae q λp2 _ q H2 e2 f7=>q _ (e1.trans e2) f7⟩
 | true=>rw[hp] at q;rw[if_pos rfl];exact q _ e1 aB
def xU {a b:C}:(lk (.idx a b)=0\/lk (.idx a b)=2)/\(lk (.idx a b)<=1->lk a<=1):=by grind [lk]
def FS {a b:Expr} {a' b':C} {pos:Pos} (hK:Φ.K=X.K) (hs:nU b) (ha:PE X a (bD Φ Γ F fr a')) (hb:PE X b (bD Φ Γ F fr b')):PE X (.Subscript a b pos) (bD Φ Γ F fr (.idx a' b')):=a9 (Fu Em ha hb hs) λσ H Q q=>by
 obtain⟨o,ρ,S,er,q⟩:=q;unfold ev at q;rw[ab] at q;refine⟨o,ρ,S,er,ae q λp _ q x H1 aY aB=>?_⟩;rw[ab] at q;refine⟨o,ρ,p.2,aB,ae q λp2 _ q y H2 eo2 f7=>?_⟩;rw[ab] at q;obtain⟨z,hz,q⟩:=jC (AH _ _) q;obtain⟨k1,k2,k3⟩:=aY.keep eo2.ext er.gD;refine⟨p.1,p2.1,z,hK▸gZ k1,hK▸gZ eo2.val,hz,λv pr=>?_⟩;rw[<-hK] at pr;have M8:∃i,p2.1= .int i:=by
  cases hd:p2.1 with
  | int i=>exact⟨i,rfl⟩
  | _=>rw[hd] at hz;unfold c8 at hz;split at hz <;> first | (rename_i h;cases h;done) | (cases hz;done) | contradiction
 obtain⟨i,hi⟩:=M8;have v2:∀A:Addr->Prop,eJ Φ.K A H2 y p2.1:=λA=>by have:=eo2.val;rw[hi] at this ⊢;rw[this.int_inv];exact(RV.dh (K:=Φ.K) (A:=A)).one
 obtain⟨e1,e2⟩:=EO.pr (fr:=fr) (H:=H) (c:= .idx a' b') f7 (aY.ext.trans eo2.ext) (ai.cons k1 (ai.cons eo2.val ai.nil)) (λl=>⟨k3 (xU.2 l),v2 _,trivial⟩) xU.1 pr λz=>by simp[fresh] at z
 exact q v H2 e1 e2
def ik {a:Expr} {a':C} (hK:Φ.K=X.K) (ha:PE X a (bD Φ Γ F fr a')) (he:∀whole,isTrue a X.env whole=(do let v<-whole;standAt a.pos;holding [v] (truthy v)))
  (MV:∀ρ S,bQ F a' ρ S=(ev F a' ρ S).bind λx=>(dC x.1).bind λb=> .ok (b,x.2)):PT X a (fg Φ Γ F a'):=q5 (yO ha he) λσ H Q q=>by
 obtain⟨o,ρ,S,er,q⟩:=q;rw[MV,ab] at q;refine⟨o,ρ,S,er,ae q λp _ q x H1 aY aB=>?_⟩;rw[ab] at q;obtain⟨b,hb,q⟩:=ie (AQ _) q;refine⟨b,?_,q _ aY.ext aB⟩;have hv:=aY.val;rw[hK] at hv;unfold dC at hb;split at hb
 ·rename_i hd;rw[hd] at hv;cases hb;rw[hv.aF];rfl
 ·rename_i hd;rw[hd] at hv;cases hb;rw[hv.aC];rfl
 ·rename_i hd;rw[hd] at hv;cases hb;rw[hv.int_inv];rfl
 ·rename_i hd;rw[hd] at hv;obtain⟨g1,hb⟩:=aZ hb;cases hb;rw[hv.str_inv];exact⟨Pz (Po g1) bN,rfl⟩
 ·rename_i hd;rw[hd] at hv;cases hb;obtain⟨a,xs,rfl,h1,_,h2⟩:=hv.lst_inv;refine .inl ⟨xs,c6.of h1,?_⟩;rw[h2.emp]
 ·rename_i hd;rw[hd] at hv;cases hb;obtain⟨a,xs,rfl,h1,h2⟩:=hv.ag;refine .inr (.inl ⟨xs,ek.of h1,?_⟩);rw[h2.emp]
 ·rename_i hd;rw[hd] at hv;cases hb;obtain⟨a,rfl,h1⟩:=hv.iZ;refine .inl ⟨_,h1,?_⟩;simp
 ·cases hb
end
section
variable {X:Cx} {Φ:Fm} {Γ:Gm} {F:FT} {fr:Nat->Bool} {g:G}
def DP {a b:C} {c:C} (hc:lk c=if lk a<=1 then 0 else 2):(lk c=0\/lk c=2)/\(lk c<=1->lk a<=1):=by grind
def tq {o:Ow} {ρ:ak} {S:Sx} {σ:L2.St} {H H1 H2:Hp} {a' c:C} {d:Dt} {x:V} {lo hi:Option Int} {Q:VK} (hK:Φ.K=X.K) (hc:lk c=if lk a'<=1 then 0 else 2) (hf:fresh fr c=true->True) (er:ER Φ Γ o ρ S σ H2) (aY:EO Φ.K fr o a' H d x H1) (e:aV o.d H1 H2)
  (q:mR Φ.Ek (ir d lo hi) λz=>∀v H3,EO Φ.K fr o c H z v H3->ER Φ Γ o ρ S σ H3->Q v H3):rS X.K x lo hi H2 Q:=by
 obtain⟨z,hz,q⟩:=jC (Ah _ _ _) q;obtain⟨k1,k2,k3⟩:=aY.keep e er.gD;refine⟨d,z,hK▸gZ k1,hz,λv H3 pr=>?_⟩;rw[<-hK] at pr;have hl:=DP (b:=c) hc;obtain⟨e1,e2⟩:=EO.pr (fr:=fr) (H:=H) (c:=c) er (aY.ext.trans e) (ai.cons k1 ai.nil) (λl=>⟨k3 (hl.2 l),trivial⟩) hl.1 pr λ_=>rfl
 exact q v H3 e1 e2
def Ed {a l:Expr} {a' l':C} {p2 pos:Pos} (hK:Φ.K=X.K) (ha:PE X a (bD Φ Γ F fr a')) (hl:PE X l (bD Φ Γ F fr l')):PE X (.Subscript a (.Slice (some l) none none p2) pos) (bD Φ Γ F fr (.sliL a' l')):=a9 (p0 xk ha (tM hl) uu) λσ H Q q=>by
 obtain⟨o,ρ,S,er,q⟩:=q;unfold ev at q;rw[ab] at q;refine⟨o,ρ,S,er,ae q λp _ q x H1 aY aB=>?_⟩;rw[ab] at q;refine⟨o,ρ,p.2,aB,ae q λp2 _ q y H2 eo2 f7=>?_⟩;split at q
 ·rename_i i hi;have hv:=eo2.val;rw[hi] at hv;refine⟨i,hv.int_inv,?_⟩;rw[ab] at q;exact tq hK (by rw[lk]) (λ_=>trivial) f7 aY eo2.ext (ae q λz _ q v H3 e1 e2=>q v H3 e1 e2)
 ·exact q.elim
def CG {a l:Expr} {a' l':C} {p2 pos:Pos} (hK:Φ.K=X.K) (ha:PE X a (bD Φ Γ F fr a')) (hl:PE X l (bD Φ Γ F fr l')):PE X (.Subscript a (.Slice none (some l) none p2) pos) (bD Φ Γ F fr (.sliH a' l')):=a9 (p0 xk ha uu (tM hl)) λσ H Q q=>by
 obtain⟨o,ρ,S,er,q⟩:=q;unfold ev at q;rw[ab] at q;refine⟨o,ρ,S,er,ae q λp _ q x H1 aY aB=>?_⟩;rw[ab] at q;refine⟨o,ρ,p.2,aB,ae q λp2 _ q y H2 eo2 f7=>?_⟩;split at q
 ·rename_i i hi;have hv:=eo2.val;rw[hi] at hv;refine⟨i,hv.int_inv,?_⟩;rw[ab] at q;exact tq hK (by rw[lk]) (λ_=>trivial) f7 aY eo2.ext (ae q λz _ q v H3 e1 e2=>q v H3 e1 e2)
 ·exact q.elim
def Fw:PA X [] (lj Φ Γ F .nil):=yQ ft λσ H Q q=>by obtain⟨o,ρ,S,er,q⟩:=q;exact q _ _ ⟨aV.refl,ai.nil,λ_=>ai.nil,λ_=>trivial⟩ er
def CN {e:Expr} {es:List Expr} {c:C} {cs:Cs} (hs:starEach (e::es) X.env=(false,eval e X.env)::starEach es X.env) (h:PE X e (bD Φ Γ F fr c)) (hr:PA X es (lj Φ Γ F cs)):PA X (e::es) (lj Φ Γ F (.cons c cs)):=yQ (cN h hr hs) λσ H Q q=>by
 obtain⟨o,ρ,S,er,q⟩:=q;unfold fG at q;rw[ab] at q;refine⟨o,ρ,S,er,ae q λp _ q x H1 aY aB=>?_⟩;rw[ab] at q;refine⟨o,ρ,p.2,aB,ae q λp2 _ q xs H2 eo2 f7=>?_⟩;obtain⟨k1,k2,k3⟩:=aY.keep eo2.ext er.gD;have el:lL (.cons c cs)=max (lk c) (lL cs):=by rw[lL]
 exact q _ _ ⟨aY.ext.trans eo2.ext,ai.cons k1 eo2.val,λl=>ai.cons (k2 (by omega)) (eo2.cW (by omega)),λl=>⟨k3 (by omega),eo2.mX (by omega)⟩⟩ f7
def BO {cs:Cs} {c:C} (hc:lk c=if lL cs=0 then 0 else 2):(lk c<=1->lk c=0)/\(lk c=0->lL cs=0):=by grind
def HE {es:List Expr} {cs:Cs} {x1:Nat} {pos:Pos} (h:PA X es (lj Φ Γ F cs)):PE X (.Tuple es x1 pos) (bD Φ Γ F fr (.tup cs)):=a9 (DU h) λσ H Q q=>by
 obtain⟨o,ρ,S,er,q⟩:=q;unfold ev at q;rw[ab] at q;refine⟨o,ρ,S,er,ae q λp _ q xs H1 aY aB=>?_⟩;obtain⟨g1,q⟩:=aN q;refine⟨by rw[aY.val.length];exact Pz (Po g1) bN,λa ha=>?_⟩;have s:=Mx.cw ha (.tup xs);have hl:=BO (cs:=cs) (c:= .tup cs) (by rw[lk]);have q0:lk (.tup cs)=0->RV Φ.K o.A (upd H1 a (.tup xs)) (.ref a) (.tup p.1):=λl=>RV.cV az ((aY.cW (hl.2 l)).same s)
 exact q _ _ ⟨aY.ext.trans (aV.of_same s),RV.cV az (aY.val.same s),q0,λl=>(q0 (hl.1 l)).one,λz=>by simp[fresh] at z⟩ (aB.grow s)
def FC {es:List Expr} {cs:Cs} {pos:Pos} (h:PA X es (lj Φ Γ F cs)):PE X (.List es pos) (bD Φ Γ F fr (.lst cs)):=a9 (Dh h) λσ H Q q=>by
 obtain⟨o,ρ,S,er,q⟩:=q;unfold ev at q;rw[ab] at q;refine⟨o,ρ,S,er,ae q λp _ q xs H1 aY aB=>?_⟩;obtain⟨g1,q⟩:=aN q;refine⟨by rw[aY.val.length];exact Pz (Po g1) bN,λa ha=>?_⟩;have s:=Mx.cw ha (.lst xs);have hl:=BO (cs:=cs) (c:= .lst cs) (by rw[lk]);have na:¬o.A a:=λz=>by obtain⟨y,hy⟩:=aB.al a z;rw[ha] at hy;cases hy
 have q0:lk (.lst cs)=0->RV Φ.K o.A (upd H1 a (.lst xs)) (.ref a) (.lst p.1):=λl=>RV.eC az na ((aY.cW (hl.2 l)).same s)
 refine q _ _ ⟨aY.ext.trans (aV.of_same s),RV.eC az (λz=>na (aB.gD a z)) (aY.val.same s),q0,λl=>(q0 (hl.1 l)).one,λ_ ds e=>?_⟩ (aB.grow s);cases e;exact⟨a,xs,rfl,aB.dO aY.ext ha,az,(aY.val.avoid ha).same s,λl=>((aY.cW (hl.2 l)).avoid ha).same s⟩
def Ec (b:BI) (ds:List Dt):∀k,dJ b ds≠ .ex k:=by
 intro k;unfold dJ;split
 all_goals first
  | (intro z;cases z;done)
  | (exact cT (λk z=>by cases z) k)
  | (split <;> first | (intro z;cases z;done) | (exact cT (λk z=>by cases z) k) | (split <;> first | (intro z;cases z;done) | (exact cT (λk z=>by cases z) k)))
  | (rename_i T d;unfold uZ;split <;> (intro z;cases z))
def sW {b:BI} {cs:Cs}:(lk (.bi b cs)=0\/lk (.bi b cs)=2)/\(lk (.bi b cs)<=1->lL cs<=1):=by grind [lk,lL]
def yo {b:BI} {cs:Cs} {σ:L2.St} {H:Hp} {Q:VK} (hK:Φ.K=X.K) (q:bD Φ Γ F fr (.bi b cs) σ H Q):FV (rP X.K true (dJ b)) (lj Φ Γ F cs) σ H Q:=by
 obtain⟨o,ρ,S,er,q⟩:=q;unfold ev at q;rw[ab] at q;refine⟨o,ρ,S,er,ae q λp _ q xs H1 aY aB=>?_⟩;rw[ab] at q;obtain⟨z,hz,q⟩:=jC (Ec _ _) q;refine⟨p.1,z,hK▸Dr aY.val,hz,λv H3 pr=>?_⟩;rw[<-hK] at pr;obtain⟨e1,e2⟩:=EO.pr (fr:=fr) (H:=H) (c:= .bi b cs) aB aY.ext aY.val (λl=>aY.mX (sW.2 l)) sW.1 pr λ_=>rfl
 exact q v H3 e1 e2
end
end Rx
end
section
namespace Mx
open PySem PySem.W PySem.Spec PyProof.Rows L2
def vf (a v:Value):argsOk "max" ⟨[a],[("default",v)]⟩:=by unfold argsOk;kernel_rfl
section
variable {prog:Program} {w:World} {A:Around} {R:Result->Shared->Prop} {I:Addr} {fp wr:List Addr} {n:Nat} {P:Nat->Value->Prop} {St:Nat->Heap->Prop} {kw:List (Str×Value)} {bt:Nat->Nat->Bool} {S:Addr}
def tP:(toString "max"++toString ".loop":String)="max.loop":=by decide
def vv (W:Walks prog w A.in1 I fp wr n P St) (C7:CmpOf prog w A.in1 .Gt P bt) (pP:S∉fp):
  ∀(k j:Nat) (s:Shared) (vb:Value) (c:Nat),n=j + 1 + k->St (j + 1) s.heap->P (argBest bt j) vb->
  s.heap.get? S=some {cls:= .type "list",dict:=none,data:= .seq #[vb,vb] c,slots:=#[]}->
  (∀v h' tk,P (argBest bt (n - 1)) v->(∀b o,b∉wr->b≠S->s.heap.get? b=some o->h'.get? b=some o)->R (.ok (.ret v)) {s with heap:=h',toks:=tk})->
  codeAny (model prog w) A (.builtin "max.loop" ⟨[.ref I,.none,.ref S],kw⟩) R s:=by
 have Ej:S∉wr:=λh=>pP (W.sub _ h)
 intro k
 induction k with
 | zero=>intro j s vb c hk gP hPb hS hR;subst hk;refine codeAny_builtin PySem.F.entry_max_loop ?_;rw[Around.under_plainId PySem.F.plain_max_loop _];show wpAny _ A.in1 (seqItems? (.ref S) >>=_) _ _ s;refine Pi (wpAny_seqItems hS rfl ?_);show wpAny _ A.in1 (tryCatch (pyNext (.ref I)) _ >>=_) _ _ s;refine Pi (wpAny_tryCatch (W.done s _ _ gP λh' tk jt=>?_));show wpAny _ A.in1 (updateSeq S (λ_=>#[]) >>=_) _ _ _;exact Pi (wpAny_updateSeq (jt S _ Ej hS) rfl (Pi (wpAny_letGo (Pl (hR vb _ tk hPb λb o hbw xS e=>(P1 _ _ (Ne.symm xS)).trans (jt b o hbw e))))))
 | succ k ih=>
  intro j s vb c hk gP hPb hS hR;refine codeAny_builtin PySem.F.entry_max_loop ?_;rw[Around.under_plainId PySem.F.plain_max_loop _];show wpAny _ A.in1 (seqItems? (.ref S) >>=_) _ _ s;refine Pi (wpAny_seqItems hS rfl ?_);show wpAny _ A.in1 (tryCatch (pyNext (.ref I)) _ >>=_) _ _ s;refine Pi (wpAny_tryCatch (W.item (j + 1) s _ _ (by omega) gP λv h' tk hP hst' jt=>?_));have jM:=jt S _ Ej hS;show wpAny _ A.in1 (tryCatch (holding [v,v] (richCompare .Gt v vb >>=_)) _ >>=_) _ _ _;refine Pi (wpAny_tryCatch (wpAny_holding (Pi (C7 (j + 1) (argBest bt j) v vb _ _ _ hP hPb (Pi (wpAny_holding (wpAny_truthy_bool (Pi (wpAny_letGo (Pl ?_))))))))));cases hb:bt (j + 1) (argBest bt j) with
  | true=>simp only[if_true];refine Pi (wpAny_updateSeq jM rfl (Pi (wpAny_letGo ?_)));rw[tP];refine Pl ⟨plainId_quiet PySem.F.plain_max_loop _,ih (j + 1) _ v _ (by omega) (W.frame _ _ _ hst' λb hbf o e=>(P1 _ _ (λh:S=b=>pP (by rw[h];exact hbf))).trans e) (by simp only[argBest,hb,if_true];exact hP) (Heap.get?_update_self _ jM rfl) λv' h'' tk'' Ih hk''=>?_⟩;exact hR v' h'' tk'' Ih λb o hbw xS e=>hk'' b o hbw xS ((P1 _ _ (Ne.symm xS)).trans (jt b o hbw e))
  | false=>
   simp only[Bool.false_eq_true,if_false];refine Pi (wpAny_letGo ?_);rw[tP];exact Pl ⟨plainId_quiet PySem.F.plain_max_loop _,ih (j + 1) _ vb c (by omega) hst' (by simp only[argBest,hb,Bool.false_eq_true,if_false];exact hPb) jM λv' h'' tk'' Ih hk''=>
    hR v' h'' tk'' Ih λb o hbw xS e=>hk'' b o hbw xS (jt b o hbw e)⟩
def qW {x:Str} {dv:Value} (W:Walks prog w A.in1 I fp wr n P St) (C7:CmpOf prog w A.in1 .Gt P bt) (pP:S∉fp) {s:Shared} {c:Nat} (gP:St 0 s.heap)
  (hS:s.heap.get? S=some {cls:= .type "list",dict:=none,data:= .seq #[] c,slots:=#[]})
  (hR:∀v h' tk,(n=0/\v=dv\/0 < n/\P (argBest bt (n - 1)) v)->(∀b o,b∉wr->b≠S->s.heap.get? b=some o->h'.get? b=some o)->R (.ok (.ret v)) {s with heap:=h',toks:=tk}):
  codeAny (model prog w) A (.builtin "max.loop" ⟨[.ref I,.none,.ref S],[(x,dv)]⟩) R s:=by
 have Ej:S∉wr:=λh=>pP (W.sub _ h)
 refine codeAny_builtin PySem.F.entry_max_loop ?_;rw[Around.under_plainId PySem.F.plain_max_loop _];show wpAny _ A.in1 (seqItems? (.ref S) >>=_) _ _ s;refine Pi (wpAny_seqItems hS rfl ?_);show wpAny _ A.in1 (tryCatch (pyNext (.ref I)) _ >>=_) _ _ s;rcases Nat.eq_zero_or_pos n with h0 | hn
 ·subst h0;refine Pi (wpAny_tryCatch (W.done s _ _ gP λh' tk jt=>?_));show wpAny _ A.in1 (rule _ >>=_) _ _ _;exact Pi (wpAny_rule (Pl (hR dv h' tk (.inl ⟨rfl,rfl⟩) λb o hbw _ e=>jt b o hbw e)))
 ·refine Pi (wpAny_tryCatch (W.item 0 s _ _ hn gP λv h' tk hP hst' jt=>?_));have jM:=jt S _ Ej hS;show wpAny _ A.in1 (updateSeq S (λ_=>#[v,v]) >>=_) _ _ _;refine Pi (wpAny_updateSeq jM rfl ?_);rw[tP];refine Pl ⟨plainId_quiet PySem.F.plain_max_loop _,vv W C7 pP (n - 1) 0 _ v _ (by omega) (W.frame _ _ _ hst' λb hbf o e=>(P1 _ _ (λh:S=b=>pP (by rw[h];exact hbf))).trans e) hP (Heap.get?_update_self _ jM rfl) λv' h'' tk'' Ih hk''=>?_⟩;exact hR v' h'' tk'' (.inr ⟨hn,Ih⟩) λb o hbw xS e=>hk'' b o hbw xS ((P1 _ _ (Ne.symm xS)).trans (jt b o hbw e))
def zK {E:Value->Shared->Prop} {s:Shared} {id:String} {b:Builtin} {args:List Value} {Q:Value->Shared->Prop} (hk:builtinKind id=none) (hp:plainId id=true)
  (hb:entryFor table id=some b) (ha:argsOk id ⟨args,kw⟩)
  (hc:wpAny (model prog w) A.in1 (b ⟨args,kw⟩) (λfin s'=>match fin with
   | .done f=>(match (Except.ok f:Result) with | .ok (.ret v)=>Q v s' | .ok _=>False | .error e=>E e s')
   | .again c'=>c'.quiet=true/\codeAny (model prog w) A c' (λr s'=>match r with | .ok (.ret v)=>Q v s' | .ok _=>False | .error e=>E e s') s') E s):
  wpAny (model prog w) A (call (.builtin id) args kw) Q E s:=by
 refine wpAny_call (codeAny_call_builtin hp hb ?_);simp only[checkBuiltinCall,hk];cases hsig:Manifest.signature? id with
 | none=>exact Pl hc
 | some sig=>simp only[argsOk,hsig] at ha;show wpAny _ A.in1 (Bind.checkArgs id sig ⟨args,kw⟩) _ _ s;rw[show Bind.checkArgs id sig ⟨args,kw⟩=pure () from ha];exact Pl hc
def vB {E:Value->Shared->Prop} {s:Shared} {l:Addr} {xs:Array (Int×Tok)} {dv:Value} {Q:Value->Shared->Prop} (hh:A.handled=none) (hl:s.heap.IsList l (intItems xs))
  (h:∀v h' tk,(xs.size=0/\v=dv\/0 < xs.size/\(intItems xs)[argBest (λi j=>decide (numAt xs i > numAt xs j)) (xs.size - 1)]?=some v)->(∀b o,s.heap.get? b=some o->h'.get? b=some o)->Q v {s with heap:=h',toks:=tk}):
  wpAny (model prog w) A (call (.builtin "max") [.ref l] [("default",dv)]) Q E s:=by
 refine zK PySem.F.kind_max PySem.F.plain_max PySem.F.entry_max (vf _ _) ?_;show wpAny _ A.in1 (Builtin.Builtins.bindParams "max" ["key","default"] 0 ⟨[],[("default",dv)]⟩ >>=_) _ _ s;refine Pi (wpAny_of_eq (show Builtin.Builtins.bindParams "max" ["key","default"] 0 ⟨[],[("default",dv)]⟩=pure [none,some dv] from rfl) ?_);refine Pi (Pl (Pi (iter_intList hl λs₂ e st hfp hlI=>?_)));have hz:(intItems xs).size=xs.size:=by simp[intItems]
 refine Pi (wpAny_newObj_type ?_);have W:=Walks.list (prog:=prog) (w:=w) (A:=A.in1) hh s.heap.objs.size l hlI (intItems xs);have pP:s₂.heap.objs.size∉[s.heap.objs.size,l]:=λhm=>Nat.lt_irrefl _ (hfp _ hm)
 rw[tP];refine Pl ⟨plainId_quiet PySem.F.plain_max_loop _,qW W (CmpOf.ints_gt (numAt xs) (λ_ _=>intItems_at)) pP (W.frame _ _ _ st λb _ o e=>Pk _ e) (Pv _ rfl) λv h' tk hP hk=>?_⟩;rw[hz] at hP;subst e;exact h v h' tk hP (old_kept λb o hb e=>hk b o hb (P5 (Py e)) (Pk _ e))
end
def B6 (K:PySem.W.Frag) (i:Int) (ta:TE):TE:=FV (λxs H1 Q=>∃(l:Addr) (ns:List Int),xs=[.ref l]/\c6 K H1 l (ns.map V.int)/\∀m,(ns=[]->m=i)->(ns≠[]->m∈ns/\∀a∈ns,a<=m)->Q (.int m) H1) (pX ta wx)
def Aj {X:Cx} (hc:X.calm=true) {pins:List (Addr×Obj)} {s:Shared} {σ:L2.St} {H:Hp} {l:Addr} {ns:List Int} {i:Int} {t:Tok} {Q:VK} (I:Inv X pins σ H s) (hq:c6 X.K H l (ns.map V.int))
  (q:∀m,(ns=[]->m=i)->(ns≠[]->m∈ns/\∀a∈ns,a<=m)->Q (.int m) H):wpAny (model X.prog X.w) X.A (call (.builtin "max") [.ref l] [("default",.int i t)]) (EP X pins σ Q) X.xe s:=by
 obtain⟨its,rv,pl,hz⟩:=I.list hq;have i1:IntsAre its ns:=intsAre_of rv;have xc:=i1.numsOf;have hl:=pl.isList;obtain⟨xs,zU⟩:=i1.allInts.items;have kW:numsOf (intItems xs).toList=ns:=by rw[<-zU];exact xc
 rw[nums_intItems] at kW;rw[zU] at hl;have hlen:ns.length=xs.size:=by rw[<-kW,Px,PP]
 refine vB (I.ok.hd hc) hl λv h' tk hv hk=>?_
 rcases hv with ⟨h0,rfl⟩ | ⟨Ad,hv⟩
 ·exact⟨.int i,H,I.kept hk,⟨t,rfl⟩,q _ (λ_=>rfl) λz=>absurd (List.length_eq_zero_iff.mp (by omega)) z⟩
 ·obtain⟨t,rfl⟩:=intItems_at hv;obtain⟨h1,h2⟩:=argBest_gt (numAt xs) (xs.size - 1);refine⟨.int _,H,I.kept hk,⟨t,rfl⟩,q _ (λz=>by subst z;simp at hlen;omega) λ_=>⟨?_,λa ha=>?_⟩⟩
  ·rw[numAt_eq,kW];exact getD_mem (by omega)
  ·obtain⟨j,hj,rfl⟩:=mem_getD ha;rw[<-kW,<-numAt_eq];exact h2 j (by omega)
def zT {X:Cx} (hc:X.calm=true) {p cp kp pos:Pos} {kk:Nat} {i:Int} {e:Expr} {te:TE} (hg:Gl X "max") (hm:X.mg "max"=none) (he:starEach [e] X.env=[(false,eval e X.env)]) (ha:PE X e te):
  PE X (.Call (.Name "max" p) [e] [⟨some "default",.Constant (.int i) kk cp,kp⟩] pos) (B6 X.K i te):=by
 intro pins s σ H Q I h;refine wpAny_Call_Name_kw (dz I hg hm PyProof.Rows.boot_max ?_ (by decide) (by decide));unfold B6 FV at h;refine PyProof.Rows.callWith_kw (bw (cN ha ft he pos pins s σ H _ I h) λus s1 ⟨vs,H1,I1,r1,l,ns,e1,hq,q⟩=>?_) (by rw[he];rfl) (by rw[he];rfl);subst e1;obtain⟨u,rfl,ru⟩:=r1.one;cases ru;refine bw (Av (X:=X) xV DB pos pins s1 σ H1 (λws H2=>H2=H1/\ws=[.int i]) I1 ⟨rfl,rfl⟩) λws s2 ⟨zs,H2,I2,rz,e2,e3⟩=>?_
 subst e2 e3;obtain⟨u,rfl,t,rfl⟩:=rz.one;exact Aj hc I2 hq q
end Mx
end
section
namespace Rx
open PySem PySem.W PySem.Spec PyProof.Rows L2 PySem.SeqAt
def Cs.len:Cs->Nat
 | .nil=>0
 | .cons _ cs=>cs.len + 1
def sZ {F:FT}:∀{cs:Cs} {ρ:ak} {S:Sx} {p:List Dt×Sx},fG F cs ρ S= .ok p->p.1.length=cs.len
 | .nil,ρ,S,p,h=>by unfold fG at h;cases h;rfl
 | .cons c cs,ρ,S,p,h=>by
  unfold fG at h;cases h1:ev F c ρ S with
  | ok x=>
   rw[h1] at h;simp only[R.ar] at h;cases h2:fG F cs ρ x.2 with
   | ok y=>rw[h2] at h;cases h;simp[Cs.len,sZ h2]
   | ex k=>rw[h2] at h;cases h
   | bad=>rw[h2] at h;cases h
  | ex k=>rw[h1] at h;cases h
  | bad=>rw[h1] at h;cases h
section
variable {X:Cx} {Φ:Fm} {Γ:Gm} {F:FT} {g:G} {xv:Nat->Value} {CX:j9} {k:Nat}
def oB {H H':Hp} (e:aV (λb=>(none:Option Addr)=some b) H H'):bu H H':=λb o h=>e.kp b o h (by simp)
def rL {K:Frag} {A:Addr->Prop} {H:Hp}:∀{ds:List Dt},ds.all ou=true->ai K A H (ds.map ql) ds
 | [],_=>ai.nil
 | d::ds,h=>by rw[List.all_cons,Pm] at h;exact ai.cons (pC h.1) (rL h.2)
def s_call {x:Str} {f np j:Nat} {fH:List Dt} {e:Expr} {es:List Expr} {cs:Cs} {p pos:Pos} (hX:HX g xv CX k F Φ X) (hG:Gl X x) (Bd:(x==("__debug__":Str))=false) (xj:rQ x g.fns=some (f,np,fH,false)) (hj:j<=fH.length) (hn:cs.len + (fH.drop j).length=np)
  (hs:starEach (e::es) X.env=(false,eval e X.env)::starEach es X.env) (gG:(backTo pos (starEach es X.env)).any (·.1)=false) (ha:PA X (e::es) (lj Φ Γ F cs)):PE X (.Call (.Name x p) (e::es) [] pos) (bD Φ Γ F g.fr (.call f cs (fH.drop j))):=by
 obtain⟨n,fx⟩:=hX.fx;obtain⟨fa,fd,ps,vH,hmg,NB,hok,hb,zp⟩:=fx.fn x f np fH false xj;obtain⟨vn,oA,Mc⟩:=hb j hj;refine a9 (zC hok hX.room hG hmg NB Mc oA hX.pass ha Bd hs gG) λσ H Q q=>?_
 obtain⟨o,ρ,S,er,q⟩:=q;unfold ev at q;rw[ab] at q;refine⟨o,ρ,S,er,ae q λp hp q vs H1 aY aB=>?_⟩;have Mv:(fH.drop j).all ou=true:=Qa.mpr λd hd=>Qa.mp zp d (List.mem_of_mem_drop hd)
 rw[ab] at q;have el:lk (.call f cs (fH.drop j))=if lL cs=0 then 0 else 2:=by rw[lk]
 refine⟨?_,?_⟩
 ·rw[PJ,aY.val.length,Px,sZ hp];exact hn
 by_cases hl:lL cs=0
 ·rw[if_pos hl] at el;refine⟨o.A,none,p.1++fH.drop j,none,vs++(fH.drop j).map ql,⟨rfl,rfl,rfl⟩,?_,aB.al,?_⟩
  ·rw[<-hX.K];exact(aY.cW hl).append (rL Mv)
  ·cases hr:F f (p.1++fH.drop j) none with
   | ok y=>rw[hr] at q;intro v H' fo;rw[<-hX.K] at fo;have sm:=oB fo.ext;refine q v H' ⟨aY.ext.trans (aV.of_same sm),fo.val.weak aB.gD,λ_=>fo.val,λ_=>fo.val.one,λfc ds ed=>?_⟩ (aB.grow sm);obtain⟨a,xs,h1,h2,h3,h4⟩:=fo.eW fc ds ed;exact⟨a,xs,h1,aB.dO aY.ext h2,h3,h4.weak λb z=>z.elim (λz=> .inl (aB.gD b z)) .inr,λ_=>h4⟩
   | ex kk=>rw[hr] at q;intro H' e';exact⟨kk,rfl,q,aB.ent.trans (e'.mono λb z=>by cases z)⟩
   | bad=>rw[hr] at q;exact q.elim
 ·rw[if_neg hl] at el;refine⟨o.wd,none,p.1++fH.drop j,none,vs++(fH.drop j).map ql,⟨rfl,rfl,rfl⟩,?_,aB.yb,?_⟩
  ·rw[<-hX.K];exact aY.val.append (rL Mv)
  ·cases hr:F f (p.1++fH.drop j) none with
   | ok y=>rw[hr] at q;intro v H' fo;rw[<-hX.K] at fo;have sm:=oB fo.ext;refine q v H' ⟨aY.ext.trans (aV.of_same sm),fo.val,λz=>by rw[el] at z;omega,λz=>by rw[el] at z;omega,λfc ds ed=>?_⟩ (aB.grow sm);obtain⟨a,xs,h1,h2,h3,h4⟩:=fo.eW fc ds ed;exact⟨a,xs,h1,aB.dO aY.ext h2,h3,h4,λz=>by rw[el] at z;omega⟩
   | ex kk=>rw[hr] at q;intro H' e';exact⟨kk,rfl,q,aB.ent.trans (e'.mono λb z=>by cases z)⟩
   | bad=>rw[hr] at q;exact q.elim
def A6 {t:Str} {T:String} (h:rG t=some T):bootBuiltins t=some (.type T):=by
 unfold rG at h;split at h
 ·rename_i e;cases h;rw[PV e];exact PyProof.Rows.boot_str
 split at h
 ·rename_i e;cases h;rw[PV e];exact PyProof.Rows.boot_int
 split at h
 ·rename_i e;cases h;rw[PV e];exact PyProof.Rows.boot_bool
 split at h
 ·rename_i e;cases h;rw[PV e];exact PyProof.Rows.boot_list
 split at h
 ·rename_i e;cases h;rw[PV e];exact PyProof.Rows.boot_tuple
 ·cases h
def AR {t:Str} {T:String} (h:rG t=some T):T="str"\/T="int"\/T="bool"\/T="list"\/T="tuple":=by grind [rG]
def Dx {K:Frag} {A:Addr->Prop} {H:Hp} {x:V} {d:Dt} {T:String} {b:Bool} (hT:T="str"\/T="int"\/T="bool"\/T="list"\/T="tuple") (hx:RV K A H x d) (h:uZ T d= .ok b):∃t,gS K H x t/\PySem.W.kitOne K t (.type T)=some b:=by
 unfold uZ at h;split at h
 ·cases h;rw[hx.str_inv];refine⟨_,.str _,?_⟩;rcases hT with rfl | rfl | rfl | rfl | rfl <;> rfl
 ·cases h;rw[hx.int_inv];refine⟨_,.int _,?_⟩;rcases hT with rfl | rfl | rfl | rfl | rfl <;> rfl
 ·cases h;rw[hx.aC];refine⟨_,.bl _,?_⟩;rcases hT with rfl | rfl | rfl | rfl | rfl <;> rfl
 ·cases h;obtain⟨a,xs,rfl,h1,_⟩:=hx.lst_inv;refine⟨_,.lst h1,?_⟩;rcases hT with rfl | rfl | rfl | rfl | rfl <;> rfl
 ·cases h;obtain⟨a,xs,rfl,h1,_⟩:=hx.ag;refine⟨_,.tup h1,?_⟩;rcases hT with rfl | rfl | rfl | rfl | rfl <;> rfl
 ·cases h;rw[hx.aF];refine⟨_,.bo,?_⟩;rcases hT with rfl | rfl | rfl | rfl | rfl <;> rfl
 ·cases h
def Bk (T:String) (d:Dt):∀k,uZ T d≠ .ex k:=by intro k;unfold uZ;split <;> (intro z;cases z)
def Ie {a:Expr} {a':C} {t:Str} {T:String} {p tp pos:Pos} (hK:Φ.K=X.K) (hG:Gl X "isinstance") (hm:X.mg "isinstance"=none) (Nr:Gl X t) (Nh:X.mg t=none) (hT:rG t=some T) (hn:t≠"__name__") (Bd:(t==("__debug__":Str))=false)
  (hs:starEach (a::[.Name t tp]) X.env=(false,eval a X.env)::starEach [.Name t tp] X.env) (ha:PE X a (bD Φ Γ F g.fr a')):PE X (.Call (.Name "isinstance" p) [a,.Name t tp] [] pos) (bD Φ Γ F g.fr (.bi (.isi T) (.cons a' .nil))):=by
 refine a9 (pB Mx.yq hG hm PyProof.Rows.boot_isinstance (cN ha (cN (A9 (v:= .ty T) Nr Nh (A6 hT) rfl hn Bd) ft) hs) (by decide) (by decide) hs) λσ H Q q=>?_
 obtain⟨o,ρ,S,er,q⟩:=q;unfold ev fG fG at q;rw[ab,ab] at q;refine⟨o,ρ,S,er,ae q λp hp q x H1 aY aB=>?_⟩;simp only[R.ar] at q;have q:mR Φ.Ek ((dJ (.isi T) [p.1]).bind λd=>R.ok (d,p.2)) _:=q;unfold dJ at q;simp only at q;rw[ab,ab] at q;obtain⟨b,hb,q⟩:=ie (Bk _ _) q;obtain⟨ty,k1,k2⟩:=Dx (AR hT) (hK▸aY.val) hb;refine⟨x,T,ty,b,rfl,k1,k2,q _ _ ?_ aB⟩;exact(EO.sc (Φ:=Φ) (fr:=g.fr) (o:=o) (H:=H1) (c:= .bi (.isi T) (.cons a' .nil)) (d:= .bl b) rfl).qX aY.ext λf=>by simp[fresh] at f
def EN {a:Expr} {a':C} {i:Int} {kk:Nat} {p cp kp pos:Pos} (hK:Φ.K=X.K) (hc:X.calm=true) (hG:Gl X "max") (hm:X.mg "max"=none) (hs:starEach [a] X.env=[(false,eval a X.env)]) (ha:PE X a (bD Φ Γ F g.fr a')):
  PE X (.Call (.Name "max" p) [a] [⟨some "default",.Constant (.int i) kk cp,kp⟩] pos) (bD Φ Γ F g.fr (.bi (.maxD i) (.cons a' .nil))):=by
 refine a9 (Mx.zT hc hG hm hs ha) λσ H Q q=>?_
 obtain⟨o,ρ,S,er,q⟩:=q;unfold ev fG fG at q;rw[ab,ab] at q;refine⟨o,ρ,S,er,ae q λp hp q x H1 aY aB=>?_⟩;simp only[R.ar] at q;have q:mR Φ.Ek ((dJ (.maxD i) [p.1]).bind λd=>R.ok (d,p.2)) _:=q;cases hd:p.1 with
 | lst ds=>
  rw[hd] at q;have hv:=aY.val;rw[hd] at hv;obtain⟨b,xs,rfl,f1,_,f2⟩:=hv.lst_inv;unfold dJ at q;simp only at q;cases hi:intsOf ds with
  | none=>rw[hi] at q;exact q.elim
  | some ns=>
   rw[hi] at q;rw[gT f2 hi] at f1;refine⟨b,ns,rfl,c6.of f1,λm m1 m2=>?_⟩;have e:m=if ns.isEmpty then i else eQ ns:=by
    cases ns with
    | nil=>exact m1 rfl
    | cons n ns=>have k:=j6 (n::ns) (by simp);exact Int.le_antisymm (k.2 _ (m2 (by simp)).1) ((m2 (by simp)).2 _ k.1)
   rw[e];exact q _ _ ((EO.sc (Φ:=Φ) (fr:=g.fr) (o:=o) (H:=H1) (c:= .bi (.maxD i) (.cons a' .nil)) (d:= .int _) rfl).qX aY.ext λf=>by simp[fresh] at f) aB
 | _=>rw[hd] at q;exact q.elim
def boot_set:bootBuiltins "set"=some (.type "set"):=by decide +kernel
def Hy (te:TE):TE:=λσ H Q=>te σ H λv H1=>∃b l ys,v= .ref l/\H1 l=some (Mx.ij b (ys.map V.str))/\ys.length < 4000/\∀n zs es,H1 n=none->Mx.aX H1 zs es->es=aK ((dd ys).map Mx.D.str)->Q (.ref n) (upd H1 n (.lst zs))
def AI {e:Expr} {te:TE} {p p2 pos fA:Pos} (hc:X.calm=true) (hu:X.A.units + 150 < cLine) (hg:Gl X "sorted") (hm:X.mg "sorted"=none) (oV:Gl X "set") (zk:X.mg "set"=none) (he:PE X e te)
  (hs:starEach [e] X.env=[(false,eval e X.env)]) (qD:starEach [.Call (.Name "set" p2) [e] [] fA] X.env=[(false,eval (.Call (.Name "set" p2) [e] [] fA) X.env)]:=by rfl):
  PE X (.Call (.Name "sorted" p) [.Call (.Name "set" p2) [e] [] fA] [] pos) (Hy te):=by
 intro pins s σ H Q I h;refine wpAny_Call_Name_kw (dz I hg hm PyProof.Rows.boot_sorted ?_ (by decide) (by decide));refine PyProof.Rows.callWith_builtin1 ?_ (by rw[qD];rfl) (by rfl);rw[qD];show wpAny _ _ (spliced ((false,eval (.Call (.Name "set" p2) [e] [] fA) X.env)::backTo pos [])) _ _ s;refine Calls.spliced_cons ?_;refine wpAny_Call_Name_kw (dz I oV zk boot_set ?_ (by decide) (by decide));refine PyProof.Rows.callWith_type1 ?_ (by rw[hs];rfl) (by rfl);rw[hs];show wpAny _ _ (spliced ((false,eval e X.env)::backTo fA [])) _ _ s;refine Calls.spliced_cons (bw (he pins s σ H _ I h) λu s1 ⟨v,H1,I1,r1,b,l,ys,e1,hl,hlen,q⟩=>?_);subst e1;cases r1;refine Calls.spliced_nil ?_;obtain⟨its,r',pl⟩:=Mx.bj I1 hl;have L1:its.toArray.size=ys.length:=by have:=r'.length;rw[Px] at this;simp[this]
 refine Mx.nh (I1.ok.hd hc) pl (by simpa using r') (by rw[L1];unfold scanBound;omega) λh' tk ks hS hmem kk=>?_
 refine Calls.spliced_nil ?_;have I2:Inv X pins σ H1 {s1 with heap:=h',toks:=tk}:=I1.kept kk;have eS:ks.Nodup:=by obtain⟨_,_,_,_,z,_⟩:=hS;exact z
 have pm:ks.Perm (dd ys):=lz eS (kP ys) λx=>(hmem x).trans (nM ys x).symm
 refine Mx.rH hu hc I2 hS (by rw[pm.length_eq];exact Nat.lt_of_le_of_lt (xT ys) (Nat.lt_trans hlen (by decide))) λn zs es hn hz hso=>q n zs es hn hz ?_
 exact pO ⟨hso.1.trans (pm.map _),hso.2⟩
def gw {K:Frag} {A:Addr->Prop} {H:Hp} {x:V} {d:Dt} {ds:List Dt} (h:bF d=some ds) (hv:RV K A H x d):∃b l xs,x= .ref l/\H l=some (Mx.ij b xs)/\ai K A H xs ds:=by
 unfold bF at h;split at h
 ·cases h;obtain⟨a,xs,rfl,f1,fn,f2⟩:=hv.lst_inv;exact⟨false,a,xs,rfl,f1,f2⟩
 ·cases h;obtain⟨a,xs,rfl,f1,f2⟩:=hv.ag;exact⟨true,a,xs,rfl,f1,f2⟩
 ·cases h
def Ct {a:Expr} {a':C} {p p2 pos fA:Pos} (hK:Φ.K=X.K) (hc:X.calm=true) (hu:X.A.units + 150 < cLine) (hG:Gl X "sorted") (hm:X.mg "sorted"=none) (LK:Gl X "set") (zk:X.mg "set"=none) (hs:starEach [a] X.env=[(false,eval a X.env)]) (ha:PE X a (bD Φ Γ F g.fr a')):
  PE X (.Call (.Name "sorted" p) [.Call (.Name "set" p2) [a] [] fA] [] pos) (bD Φ Γ F g.fr (.bi .sset (.cons a' .nil))):=by
 refine a9 (AI hc hu hG hm LK zk ha hs) λσ H Q q=>?_
 obtain⟨o,ρ,S,er,q⟩:=q;unfold ev fG fG at q;rw[ab,ab] at q;refine⟨o,ρ,S,er,ae q λp hp q x H1 aY aB=>?_⟩;simp only[R.ar] at q;have q:mR Φ.Ek ((dJ .sset [p.1]).bind λd=>R.ok (d,p.2)) _:=q;unfold dJ at q;simp only at q;split at q
 ·rename_i ds x8;split at q
  ·rename_i ys hys;rw[ab] at q;obtain⟨gl,q⟩:=aN q;obtain⟨b,l,xs,rfl,f1,f2⟩:=gw x8 aY.val;rw[o6 f2 hys] at f1;refine⟨b,l,ys,rfl,f1,Po gl,λn zs es hn hz Ly=>?_⟩;have pr:PR Φ.K true [.ref l] [p.1] H1 (.lst (aa es)) (.ref n) (upd H1 n (.lst zs)):=PR.mZ hn λA w=>ai.mN hz
   have hl:=sW (b:= .sset) (cs:= .cons a' .nil);have el:lL (.cons a' .nil)=max (lk a') 0:=by rw[lL,lL]
   obtain⟨e1,e2⟩:=EO.pr (fr:=g.fr) (H:=H) (c:= .bi .sset (.cons a' .nil)) aB aY.ext (ai.cons aY.val ai.nil) (λl=>⟨aY.mX (by have:=hl.2 l;omega),trivial⟩) hl.1 pr λ_=>rfl
   rw[Ly] at e1;exact q _ _ e1 e2
  ·exact q.elim
 ·exact q.elim
def jx {K:Frag} {A:Addr->Prop} {H:Hp} {l:Addr} {d:Dt} {ds:List Dt} {b:Bool} {xs:List V} (h:bF d=some ds) (w:eJ K A H (.ref l) d) (f:H l=some (Mx.ij b xs)):True/\ai K A H xs ds:=by
 refine⟨trivial,?_⟩;unfold bF at h;split at h
 ·cases h;obtain⟨a,nC,e,f1,f2⟩:=w;cases e;rw[f] at f1;cases b with
  | false=>cases f1;exact f2
  | true=>cases f1
 ·cases h;obtain⟨a,nC,e,f1,f2⟩:=w;cases e;rw[f] at f1;cases b with
  | false=>cases f1
  | true=>cases f1;exact f2
 ·cases h
def qv {K:Frag} {A:Addr->Prop} {H:Hp}:∀{xs ys:List V} {ps:List Addr} {ds es:List Dt},ai K A H xs ds->ai K A H ys es->ps.length=min xs.length ys.length->Mx.Zd xs ys H ps->ai K A H (ps.map V.ref) (fk ds es)
 | [],ys,ps,ds,es,h1,h2,hl,hz=>by
  have:ps=[]:=List.length_eq_zero_iff.mp (by simpa using hl);subst this;have e:ds=[]:=by
   cases ds with
   | nil=>rfl
   | cons d r=>exact absurd h1.length (by simp)
  subst e;exact ai.nil
 | x::xs,[],ps,ds,es,h1,h2,hl,hz=>by
  have:ps=[]:=List.length_eq_zero_iff.mp (by simpa using hl);subst this;have e:es=[]:=by
   cases es with
   | nil=>rfl
   | cons d r=>exact absurd h2.length (by simp)
  subst e;unfold fk;rw[List.zipWith_nil_right];exact ai.nil
 | x::xs,y::ys,ps,ds,es,h1,h2,hl,hz=>by
  cases ds with
  | nil=>exact absurd h1.length (by simp)
  | cons d ds=>
   cases es with
   | nil=>exact absurd h2.length (by simp)
   | cons e es=>
    cases ps with
    | nil=>simp at hl
    | cons p ps=>obtain⟨x',r1,e1,k1,k2⟩:=h1.cons_inv;cases e1;obtain⟨y',r2,e2,l1,l2⟩:=h2.cons_inv;cases e2;refine ai.cons (RV.cV (hz 0 x y p rfl rfl rfl) (ai.cons k1 (ai.cons l1 ai.nil))) ?_;exact qv k2 l2 (by simp at hl;omega) λj a b q h1 h2 h3=>hz (j + 1) a b q h1 h2 h3
def C3 {a b:Expr} {a' b':C} {p p2 pos fA:Pos} (hK:Φ.K=X.K) (hc:X.calm=true) (hG:Gl X "list") (hm:X.mg "list"=none) (LK:Gl X "zip") (zk:X.mg "zip"=none) (hs:starEach [a,b] X.env=[(false,eval a X.env),(false,eval b X.env)]) (se:starEach [b] X.env=[(false,eval b X.env)]) (ha:PA X [a,b] (lj Φ Γ F (.cons a' (.cons b' .nil)))):
  PE X (.Call (.Name "list" p) [.Call (.Name "zip" p2) [a,b] [] fA] [] pos) (bD Φ Γ F g.fr (.bi .zipL (.cons a' (.cons b' .nil)))):=by
 refine a9 (Mx.r8 hc hG hm LK zk ha hs se) λσ H Q q=>?_
 obtain⟨o,ρ,S,er,q⟩:=q;unfold ev at q;rw[ab] at q;refine⟨o,ρ,S,er,ae q λp hp q vs H1 eo aB=>?_⟩;obtain⟨p1,p2⟩:=p;have hlen:=eo.val.length
 match p1,vs,eo,q with
 | [d,e],vs,eo,q=>
  obtain⟨x,y,rfl,hx,hy⟩:=uv eo.val;unfold dJ at q;simp only at q;split at q
  ·rename_i ds es x8 hes;rw[ab] at q;obtain⟨gl,q⟩:=aN q;obtain⟨b1,l1,xs,rfl,f1,f2⟩:=gw x8 hx;obtain⟨b2,l2,ys,rfl,g1,g2⟩:=gw hes hy;refine⟨b1,b2,l1,l2,xs,ys,rfl,f1,g1,?_,λn ps H2 hn td hN vH hz=>?_⟩
   ·rw[f2.length];exact Pz (Po gl) bN
   ·have pr:PR Φ.K true [.ref l1,.ref l2] [d,e] H1 (.lst (fk ds es)) (.ref n) H2:=by
     have rv:∀A:Addr->Prop,lq Φ.K A H1 [.ref l1,.ref l2] [d,e]->ai Φ.K A H2 (ps.map V.ref) (fk ds es):=λA w=>by obtain⟨Mi,k1⟩:=jx x8 w.1 f1;obtain⟨Pa,k2⟩:=jx hes w.2.1 g1;exact qv (k1.same td) (k2.same td) vH hz
     refine⟨td,λA hA w=>RV.eC hN (λz=>?_) (rv A w),λ_ cQ ee=>⟨n,_,rfl,hn,hN,λA hA w=>?_⟩⟩
     ·obtain⟨o',oy⟩:=hA n z;rw[hn] at oy;cases oy
     ·cases ee;refine(qv ?_ ?_ vH hz)
      ·obtain⟨Mi,k1⟩:=jx x8 w.1 f1;exact(k1.bz (B:=λb=>A b\/b=n) λb z=>z.elim .inl λe=> .inr (by rw[e];exact hn)).same td
      ·obtain⟨Mi,k1⟩:=jx hes w.2.1 g1;exact(k1.bz (B:=λb=>A b\/b=n) λb z=>z.elim .inl λe=> .inr (by rw[e];exact hn)).same td
    have hl:=sW (b:= .zipL) (cs:= .cons a' (.cons b' .nil));obtain⟨e1,e2⟩:=EO.pr (fr:=g.fr) (H:=H) (c:= .bi .zipL (.cons a' (.cons b' .nil))) aB eo.ext eo.val (λl=>eo.mX (hl.2 l)) hl.1 pr λ_=>rfl
    exact q _ _ e1 e2
  ·exact q.elim
 | [],vs,eo,q=>exact q.elim
 | [d],vs,eo,q=>exact q.elim
 | d::e::f::r,vs,eo,q=>exact q.elim
end
def Li (K:Frag) (tl:TE):TI:=λσ H R=>tl σ H λx H1=>(∃a xs,x= .ref a/\c6 K H1 a xs/\R (Iu K a) H1)\/(∃a xs,x= .ref a/\ek K H1 a xs/\R (Kp K a) H1)
def C6 {X:Cx} {tg l:Expr} {tl:TE} (hl:PE X l tl):PI X tg l (Li X.K tl):=by
 intro pins s σ H R I h;refine bw (hl pins s σ H _ I h) λv s1 ⟨x,H1,I1,r1,q1⟩=>?_
 rcases q1 with ⟨a,xs,e,hq,q⟩ | ⟨a,xs,e,hq,q⟩
 ·subst e;cases r1;obtain⟨its,rv,p,hz⟩:=I1.list hq;refine wpAny_pyIter_list p.isList ?_;refine⟨s1.heap.objs.size,[s1.heap.objs.size],_,_,H1,rfl,I1.kept (t':=s1.toks) λb o e=>Pk _ e,u5 a _,⟨_,Pv _ rfl,rfl,rfl⟩,λb hb=>?_,q⟩;have e:b=s1.heap.objs.size:=by simpa using hb
  subst e;exact I1.pA (Pt _) (I1.hok.fresh (Pt _))
 ·subst e;cases r1;obtain⟨its,rv,p,hz⟩:=I1.tuple hq;refine wpAny_pyIter_tuple (show s1.heap.IsTuple a its.toArray from p) ?_;refine⟨s1.heap.objs.size,[s1.heap.objs.size],_,_,H1,rfl,I1.kept (t':=s1.toks) λb o e=>Pk _ e,rg a _,⟨_,Pv _ rfl,rfl,rfl⟩,λb hb=>?_,q⟩;have e:b=s1.heap.objs.size:=by simpa using hb
  subst e;exact I1.pA (Pt _) (I1.hok.fresh (Pt _))
section
variable {X:Cx} {Φ:Fm} {Γ:Gm} {F:FT} {g:G} {xv:Nat->Value} {CX:j9} {k:Nat} {K:Frag}
def sS {A Y:Addr->Prop} {a:Addr} {xs:List V} {ds:List Dt} {H:Hp} (ha:H a=some (.lst xs)) (hn:¬Y a) (hY:∀b,Y b->A b) (h:ai K A H xs ds):Wk K A Y (Iu K a) H ds where
 go:=λi H1 hi e=>⟨xs,xs[i]'(by rw[h.length];exact hi),c6.of (e.kp _ _ ha hn),by simp⟩
 stop:=λH1 e=>⟨xs,c6.of (e.kp _ _ ha hn),by rw[h.length];exact Pt _⟩
 yld:=λi x H1 H2 hi e y=>by obtain⟨rfl,y⟩:=y;obtain⟨d,h1,h2⟩:=h.get (y xs (c6.of (e.kp _ _ ha hn)));exact⟨bu.refl _,d,h1,λB hB=>(h2.bz (B:=λb=>A b\/B b) λb z=>z.elim .inl (hB b)).mono e (λb z=> .inl (hY b z)) λ_ z=> .inr z⟩
def qG {A Y:Addr->Prop} {a:Addr} {xs:List V} {ds:List Dt} {H:Hp} (ha:H a=some (.tup xs)) (hY:∀b,Y b->A b) (h:ai K A H xs ds):Wk K A Y (Kp K a) H ds where
 go:=λi H1 hi e=>⟨xs,xs[i]'(by rw[h.length];exact hi),ek.of (e.tp _ _ ha),by simp⟩
 stop:=λH1 e=>⟨xs,ek.of (e.tp _ _ ha),by rw[h.length];exact Pt _⟩
 yld:=λi x H1 H2 hi e y=>by obtain⟨rfl,y⟩:=y;obtain⟨d,h1,h2⟩:=h.get (y xs (ek.of (e.tp _ _ ha)));exact⟨bu.refl _,d,h1,λB hB=>(h2.bz (B:=λb=>A b\/B b) λb z=>z.elim .inl (hB b)).mono e (λb z=> .inl (hY b z)) λ_ z=> .inr z⟩
def ye {A Y:Addr->Prop} {a:Addr} {ns:List Int} {H:Hp} (ha:(Rd H a (.lst (ns.map V.int))/\¬Y a)\/KL K a (ns.map V.int)):Wk K A Y (Iu K a) H (ns.map Dt.int):=by
 have sq:∀H1,aV Y H H1->c6 K H1 a (ns.map V.int):=λH1 e=>by
  rcases ha with ⟨h,n⟩ | h
  ·exact .inl (yl e n h)
  ·exact .inr h
 refine⟨λi H1 hi e=>?_,λH1 e=>⟨_,sq H1 e,by simp⟩,λi x H1 H2 hi e y=>?_⟩
 ·rw[Px] at hi;exact⟨_,.int ns[i],sq H1 e,by simp[hi]⟩
 ·obtain⟨rfl,y⟩:=y;have:=y _ (sq _ e);rw[PN] at this;obtain⟨m,h1,rfl⟩:=PH.mp this;exact⟨bu.refl _,.int m,by simp[h1],λ_ _=>RV.dh⟩
def su {A Y:Addr->Prop} {lo:Int} {n:Nat} {H:Hp}:Wk K A Y (IE lo n) H (bU lo n) where
 go:=λi H1 hi e=>by unfold bU at hi;simp at hi;exact hi
 stop:=λH1 e=>by unfold bU;simp only[Px,List.length_range];exact Pt _
 yld:=λi x H1 H2 hi e y=>by obtain⟨rfl,rfl⟩:=y;unfold bU at hi;simp at hi;exact⟨bu.refl _,.int (lo + i),by unfold bU;simp[hi],λ_ _=>RV.dh⟩
def wF {tg a:Expr} {a':C} (hK:Φ.K=X.K) (ha:PE X a (bD Φ Γ F g.fr a')):PI X tg a (nL Φ Γ F (.seq a')):=nz (C6 ha) λσ H Q q=>by
 obtain⟨o,ρ,S,er,q⟩:=q;unfold dI at q;rw[ab] at q;refine⟨o,ρ,S,er,ae q λp he q x H1 aY aB=>?_⟩;have uL:qk (.seq a')=lk a':=rfl;cases hd:p.1 with
 | lst ds=>
  rw[hd] at q;have hv:=aY.val;have h0:=aY.cW;have h1:=aY.mX;rw[hd] at hv h0 h1;obtain⟨b,xs,rfl,f1,fn,f2⟩:=hv.lst_inv;refine .inl ⟨b,xs,rfl,c6.of f1,q _ _ ⟨aY.ext,λl=>?_,λl=>?_,λl=>by unfold kK at l;rw[he] at l;simp only[hd,gk] at l;cases l⟩ aB⟩
  ·rw[<-hK];exact sS f1 (λz=>fn (.inr z)) aB.da (eJ.aM (h1 (by rw[uL] at l;exact l)) f1)
  ·rw[<-hK];have:=h0 (by rw[uL] at l;exact l);obtain⟨b',nC,e',g1,gn,g2⟩:=this.lst_inv;cases e';exact sS g1 gn (λ_ z=>z) g2
 | tup ds=>
  rw[hd] at q;have hv:=aY.val;have h0:=aY.cW;have h1:=aY.mX;rw[hd] at hv h0 h1;obtain⟨b,xs,rfl,f1,f2⟩:=hv.ag;refine .inr ⟨b,xs,rfl,ek.of f1,q _ _ ⟨aY.ext,λl=>?_,λl=>?_,λl=>?_⟩ aB⟩
  ·rw[<-hK];exact qG f1 aB.da (eJ.ax (h1 (by rw[uL] at l;exact l)) f1)
  ·rw[<-hK];exact qG f1 (λ_ z=>z) (eJ.ax (h0 (by rw[uL] at l;exact l)).one f1)
  ·rw[<-hK];unfold kK at l;rw[he] at l;simp only[hd] at l;exact qG f1 (λ_ z=>z) (eJ.ax (hv.gk l:RV Φ.K o.A H1 (.ref b) (.tup ds)).one f1)
 | bK ns=>
  rw[hd] at q;have hv:=aY.val;have h0:=aY.cW;rw[hd] at hv h0;obtain⟨b,rfl,hb⟩:=hv.fL;have Jg:c6 X.K H1 b (ns.map V.int):=by
   rw[<-hK];rcases hb with hb | hb
   ·exact .inl hb.1
   ·exact .inr hb
  refine .inl ⟨b,_,rfl,Jg,q _ _ ⟨aY.ext,λl=>?_,λl=>?_,λl=>by unfold kK at l;rw[he] at l;simp only[hd,gk] at l;cases l⟩ aB⟩
  ·rw[<-hK];exact ye (hb.imp (λz=>⟨z.1,λw=>z.2 (.inr w)⟩) id)
  ·rw[<-hK];obtain⟨b',e',lX⟩:=(h0 (by rw[uL] at l;exact l)).fL;cases e';exact ye lX
 | _=>rw[hd] at q;exact q.elim
def DH {tg a:Expr} {a':C} {p pos:Pos} (hG:Gl X "range") (hm:X.mg "range"=none) (hs:starEach [a] X.env=[(false,eval a X.env)]) (ha:PE X a (bD Φ Γ F g.fr a')):PI X tg (.Call (.Name "range" p) [a] [] pos) (nL Φ Γ F (.rng1 a')):=
 nz (vz hG hm (cN ha ft (by rw[hs];rfl)) hs) λσ H Q q=>by
 obtain⟨o,ρ,S,er,q⟩:=q;unfold dI at q;rw[ab] at q;refine⟨o,ρ,S,er,ae q λp _ q x H1 aY aB=>?_⟩;cases hd:p.1 with
 | int j=>rw[hd] at q;obtain⟨g1,q⟩:=aN q;rw[Pm] at g1;have a1:=Po g1.1;have a2:=Po g1.2;have hl:lim=1000000:=rfl;have hv:=aY.val;rw[hd] at hv;exact⟨j,by rw[hv.int_inv],by omega,by omega,q _ _ ⟨aY.ext,λ_=>su,λ_=>su,λ_=>su⟩ aB⟩
 | _=>rw[hd] at q;exact q.elim
def xx {A Y:Addr->Prop} {b1 b2:Bool} {l1 l2:Addr} {xs ys:List V} {ds es:List Dt} {H:Hp} (h1:H l1=some (Mx.ij b1 xs)) (h2:H l2=some (Mx.ij b2 ys)) (n1:b1=false->¬Y l1) (n2:b2=false->¬Y l2) (hY:∀b,Y b->A b) (g1:ai K A H xs ds) (g2:ai K A H ys es):Wk K A Y (Mx.JP b1 b2 l1 l2) H (fk ds es):=by
 have k1:∀H1,aV Y H H1->H1 l1=some (Mx.ij b1 xs):=λH1 e=>by
  cases b1 with
  | false=>exact e.kp _ _ h1 (n1 rfl)
  | true=>exact e.tp _ _ h1
 have k2:∀H1,aV Y H H1->H1 l2=some (Mx.ij b2 ys):=λH1 e=>by
  cases b2 with
  | false=>exact e.kp _ _ h2 (n2 rfl)
  | true=>exact e.tp _ _ h2
 have hz:(fk ds es).length=min xs.length ys.length:=by unfold fk;rw[List.length_zipWith,g1.length,g2.length]
 refine⟨λi H1 hi e=>?_,λH1 e=>?_,λi x H1 H2 hi e y=>?_⟩
 ·rw[hz] at hi;exact⟨xs,ys,xs[i]'(by omega),ys[i]'(by omega),k1 H1 e,k2 H1 e,by simp,by simp⟩
 ·exact⟨xs,ys,k1 H1 e,k2 H1 e,by omega⟩
 ·obtain⟨p,x1,y1,rfl,hp,rfl,q⟩:=y;obtain⟨q1,q2⟩:=q xs ys (k1 H1 e) (k2 H1 e);obtain⟨d,a1,a2⟩:=g1.get q1;obtain⟨c,c1,c2⟩:=g2.get q2;have s:=Mx.cw hp (.tup [x1,y1]);refine⟨s,.tup [d,c],by unfold fk;rw[List.getElem?_zipWith,a1,c1],λB hB=>RV.cV az ?_⟩;have av:∀{v:V} {dd:Dt},RV K A H v dd->RV K B (upd H1 p (.tup [x1,y1])) v dd:=λh=>((h.bz (B:=λb=>A b\/B b) λb z=>z.elim .inl (hB b)).mono e (λb z=> .inl (hY b z)) λ_ z=> .inr z).same s
  exact ai.cons (av a2) (ai.cons (av c2) ai.nil)
def cu {A B:Addr->Prop} {H:Hp} {x:V} {d:Dt} {ds:List Dt} (h:bF d=some ds) (hv:RV K A H x d) (h1:eJ K B H x d):∃b l xs,x= .ref l/\H l=some (Mx.ij b xs)/\(b=false->¬A l)/\ai K B H xs ds:=by
 unfold bF at h;split at h
 ·cases h;obtain⟨a,xs,rfl,f1,fn,f2⟩:=hv.lst_inv;exact⟨false,a,xs,rfl,f1,λ_=>fn,eJ.aM h1 f1⟩
 ·cases h;obtain⟨a,xs,rfl,f1,f2⟩:=hv.ag;exact⟨true,a,xs,rfl,f1,λz=>(by cases z),eJ.ax h1 f1⟩
 ·cases h
def HY {es:List Expr} {kk:Nat} {tp:Pos} {a b:Expr} {a' b':C} {p pos:Pos} (hK:Φ.K=X.K) (hG:Gl X "zip") (hm:X.mg "zip"=none) (hs:starEach [a,b] X.env=[(false,eval a X.env),(false,eval b X.env)]) (qD:starEach [b] X.env=[(false,eval b X.env)]) (ha:PE X a (bD Φ Γ F g.fr a')) (hb:PE X b (bD Φ Γ F g.fr b')):
  PI X (.Tuple es kk tp) (.Call (.Name "zip" p) [a,b] [] pos) (nL Φ Γ F (.zip a' b')):=
 nz (Mx.zQ hG hm (cN ha (cN hb ft (by rw[qD];rfl)) (by rw[hs,qD])) hs qD) λσ H Q q=>by
 obtain⟨o,ρ,S,er,q⟩:=q;unfold dI at q;rw[ab] at q;refine⟨o,ρ,S,er,ae q λp _ q x H1 aY aB=>?_⟩;rw[ab] at q;refine⟨o,ρ,p.2,aB,ae q λp2 _ q y H2 eo2 f7=>?_⟩;have uL:qk (.zip a' b')=max (lk a') (lk b'):=rfl;split at q
 ·rename_i ds es e1 e2;obtain⟨k1,k2,k3⟩:=aY.keep eo2.ext er.gD;obtain⟨c1,l1,xs,rfl,f1,KG,f2⟩:=cu e1 k1 k1.one;obtain⟨c2,l2,ys,rfl,g1,Od,g2⟩:=cu e2 eo2.val eo2.val.one;refine⟨c1,c2,l1,l2,xs,ys,rfl,f1,g1,q _ _ ⟨aY.ext.trans eo2.ext,λl=>?_,λl=>?_,λl=>by unfold kK at l;cases l⟩ f7⟩
  ·rw[uL] at l;obtain⟨wN,Jp,nC,e',qO,_,DF⟩:=cu e1 k1 (k3 (by omega));obtain⟨GQ,NZ,Jc,E6,Ds,_,Kq⟩:=cu e2 eo2.val (eo2.mX (by omega));cases e';cases E6;have i1:c1=wN/\xs=nC:=by rw[f1] at qO;cases c1 <;> cases wN <;> first | (cases qO;exact⟨rfl,rfl⟩) | cases qO
   have i2:c2=GQ/\ys=Jc:=by rw[g1] at Ds;cases c2 <;> cases GQ <;> first | (cases Ds;exact⟨rfl,rfl⟩) | cases Ds
   obtain⟨rfl,rfl⟩:=i1;obtain⟨rfl,rfl⟩:=i2;exact xx f1 g1 (λz w=>KG z (.inr w)) (λz w=>Od z (.inr w)) f7.da DF Kq
  ·rw[uL] at l;obtain⟨wN,Jp,nC,e',qO,FD,DF⟩:=cu e1 (k2 (by omega)) (k2 (by omega)).one;obtain⟨GQ,NZ,Jc,E6,Ds,IW,Kq⟩:=cu e2 (eo2.cW (by omega)) (eo2.cW (by omega)).one;cases e';cases E6;have i1:c1=wN/\xs=nC:=by rw[f1] at qO;cases c1 <;> cases wN <;> first | (cases qO;exact⟨rfl,rfl⟩) | cases qO
   have i2:c2=GQ/\ys=Jc:=by rw[g1] at Ds;cases c2 <;> cases GQ <;> first | (cases Ds;exact⟨rfl,rfl⟩) | cases Ds
   obtain⟨rfl,rfl⟩:=i1;obtain⟨rfl,rfl⟩:=i2;exact xx f1 g1 FD IW (λ_ z=>z) DF Kq
 ·exact q.elim
def lM:∀(ds:List Dt) (k i:Nat) (d:Dt),ds[i]?=some d->(de k ds)[i]?=some (.tup [.int ((k + i:Nat):Int),d])
 | [],k,i,d,h=>by simp at h
 | x::ds,k,0,d,h=>by simp at h;subst h;rfl
 | x::ds,k,i + 1,d,h=>by have:=lM ds (k + 1) i d (by simpa using h);show (de (k + 1) ds)[i]?=_;rw[this,show k + 1 + i=k + (i + 1) by omega]
def lE:∀(ds:List Dt) (k:Nat),(de k ds).length=ds.length
 | [],_=>rfl
 | x::ds,k=>by show (de (k + 1) ds).length + 1=_;rw[lE ds (k + 1)];rfl
def tS {A Y:Addr->Prop} {b:Bool} {l:Addr} {xs:List V} {ds:List Dt} {H:Hp} (h1:H l=some (Mx.ij b xs)) (n1:b=false->¬Y l) (hY:∀b,Y b->A b) (g1:ai K A H xs ds):Wk K A Y (Mx.Kf b l) H (de 0 ds):=by
 have k1:∀H1,aV Y H H1->H1 l=some (Mx.ij b xs):=λH1 e=>by
  cases b with
  | false=>exact e.kp _ _ h1 (n1 rfl)
  | true=>exact e.tp _ _ h1
 have hl:=g1.length;have hz:=lE ds 0;refine⟨λi H1 hi e=>?_,λH1 e=>?_,λi x H1 H2 hi e y=>?_⟩
 ·exact⟨xs,xs[i]'(by omega),k1 H1 e,by simp⟩
 ·exact⟨xs,k1 H1 e,by omega⟩
 ·obtain⟨p,x1,rfl,hp,rfl,q⟩:=y;have q1:=q xs (k1 H1 e);obtain⟨d,a1,a2⟩:=g1.get q1;have s:=Mx.cw hp (.tup [.int i,x1]);refine⟨s,.tup [.int i,d],by rw[lM ds 0 i d a1,Nat.zero_add],λB hB=>RV.cV az ?_⟩;exact ai.cons RV.dh (ai.cons (((a2.bz (B:=λb=>A b\/B b) λb z=>z.elim .inl (hB b)).mono e (λb z=> .inl (hY b z)) λ_ z=> .inr z).same s) ai.nil)
def Dc {es:List Expr} {kk:Nat} {tp:Pos} {a:Expr} {a':C} {p pos:Pos} (hK:Φ.K=X.K) (hG:Gl X "enumerate") (hm:X.mg "enumerate"=none) (hs:starEach [a] X.env=[(false,eval a X.env)]) (ha:PE X a (bD Φ Γ F g.fr a')):
  PI X (.Tuple es kk tp) (.Call (.Name "enumerate" p) [a] [] pos) (nL Φ Γ F (.enum a')):=
 nz (Mx.xP hG hm (cN ha ft (by rw[hs];rfl)) hs) λσ H Q q=>by
 obtain⟨o,ρ,S,er,q⟩:=q;unfold dI at q;rw[ab] at q;refine⟨o,ρ,S,er,ae q λp _ q x H1 aY aB=>?_⟩;have uL:qk (.enum a')=lk a':=rfl;split at q
 ·rename_i ds e1;obtain⟨c1,l1,xs,rfl,f1,KG,f2⟩:=cu e1 aY.val aY.val.one;refine⟨c1,l1,xs,rfl,f1,q _ _ ⟨aY.ext,λl=>?_,λl=>?_,λl=>by unfold kK at l;cases l⟩ aB⟩
  ·rw[uL] at l;obtain⟨wN,Jp,nC,e',qO,_,DF⟩:=cu e1 aY.val (aY.mX l);cases e';have i1:c1=wN/\xs=nC:=by rw[f1] at qO;cases c1 <;> cases wN <;> first | (cases qO;exact⟨rfl,rfl⟩) | cases qO
   obtain⟨rfl,rfl⟩:=i1;exact tS f1 (λz w=>KG z (.inr w)) aB.da DF
  ·rw[uL] at l;obtain⟨wN,Jp,nC,e',qO,FD,DF⟩:=cu e1 (aY.cW l) (aY.cW l).one;cases e';have i1:c1=wN/\xs=nC:=by rw[f1] at qO;cases c1 <;> cases wN <;> first | (cases qO;exact⟨rfl,rfl⟩) | cases qO
   obtain⟨rfl,rfl⟩:=i1;exact tS f1 FD (λ_ z=>z) DF
 ·exact q.elim
end
def xB:List Nat->xR
 | []=>Cr
 | i::is=>wm (dU i) (xB is)
def BV (K:Frag):Tg->TG
 | .nm i=>dU i
 | .tp is=>Cw K is.length (xB is)
section
variable {X:Cx} {Φ:Fm} {Γ:Gm} {F:FT} {g:G} {xv:Nat->Value} {CX:j9} {k:Nat} {K:Frag}
theorem jT {x:Str} {i:Nat} (h:f9 Γ x=some i):ym (Γ.names.lookup x)=true/\eE x=true/\Γ.N[i]?=some x:=by grind [f9,mW]
def tu {x:Str} {i:Nat} (h:slot Γ x=some i):xi (Γ.names.lookup x)=true/\eE x=true/\Γ.N[i]?=some x:=by grind [slot,mW]
theorem gR {e:Expr} {i:Nat} (h:mq Γ e=some i):∃x p,e= .Name x p/\f9 Γ x=some i/\plainS Γ i=true:=by
 unfold mq at h;split at h
 ·rename_i x p;obtain⟨j,h1,h2⟩:=Pj.mp h;split at h2
  ·cases h2;exact⟨x,p,rfl,h1,by assumption⟩
  ·cases h2
 ·cases h
def Cd {e:Expr} {i:Nat} (gx:GX g Γ X) (h:mq Γ e=some i):PG X e (dU i):=by grind [gR,jT,zL,GX,mq,PG,dU]
def BH (gx:GX g Γ X):∀{es:List Expr} {is:List Nat},iN Γ es=some is->FQ X es (xB is)/\es.length=is.length/\∀e∈es,∃x p,e= .Name x p
 | [],is,h=>by cases h;exact⟨Ax,rfl,λe z=>by cases z⟩
 | e::es,is,h=>by
  unfold iN at h;obtain⟨i,h1,h2⟩:=Pj.mp h;obtain⟨js,h3,rfl⟩:=PH.mp h2;obtain⟨k1,k2,k3⟩:=BH gx h3;obtain⟨x,p,ex,_⟩:=gR h1;refine⟨yF (Cd gx h1) k1 (by subst ex;rfl),by simp[k2],λe' z=>?_⟩;rcases PC.mp z with rfl | z
  ·exact⟨x,p,ex⟩
  ·exact k3 e' z
def kN {env:Env}:∀{es:List Expr},(∀e∈es,∃x p,e=Expr.Name x p)->(assignEach es env).length=es.length/\(assignEach es env).findIdx? (·.1)=none
 | [],_=>⟨rfl,rfl⟩
 | e::es,h=>by
  obtain⟨x,p,rfl⟩:=h e Pu;obtain⟨h1,h2⟩:=kN (es:=es) (env:=env) λe' z=>h e' (Pq _ z)
  have q:assignEach (Expr.Name x p::es) env=(false,assign (.Name x p) env)::assignEach es env:=rfl;rw[q];refine⟨by simp[h1],?_⟩;rw[List.findIdx?_cons];simp[h2]
def sE {e:Expr} {t:Tg} (gx:GX g Γ X) (h:rY Γ e=some t):PG X e (BV X.K t):=by
 unfold rY at h;split at h
 ·obtain⟨i,h1,rfl⟩:=PH.mp h;exact Cd gx h1
 ·obtain⟨is,h1,rfl⟩:=PH.mp h;obtain⟨k1,k2,k3⟩:=BH gx h1;obtain⟨n1,n2⟩:=kN (env:=X.env) k3;exact DR gx.calm k1 (by rw[n1,k2]) n2
 ·cases h
def fj {e:Expr} {t:Tg} (h:rY Γ e=some t):∀i∈aS t,plainS Γ i=true/\∃x,f9 Γ x=some i:=by
 have many:∀{es:List Expr} {is:List Nat},iN Γ es=some is->∀i∈is,plainS Γ i=true/\∃x,f9 Γ x=some i:=by
  intro es
  induction es with
  | nil=>intro is h i hi;cases h;cases hi
  | cons e es ih=>
   intro is h i hi;unfold iN at h;obtain⟨j,h1,h2⟩:=Pj.mp h;obtain⟨js,h3,rfl⟩:=PH.mp h2;rcases PC.mp hi with rfl | hi
   ·obtain⟨x,p,_,k1,k2⟩:=gR h1;exact⟨k2,x,k1⟩
   ·exact ih h3 i hi
 unfold rY at h;split at h
 ·obtain⟨j,h1,rfl⟩:=PH.mp h;intro i hi;have:i=j:=by simpa [aS] using hi
  subst this;obtain⟨x,p,_,k1,k2⟩:=gR h1;exact⟨k2,x,k1⟩
 ·obtain⟨is,h1,rfl⟩:=PH.mp h;exact many h1
 ·cases h
def gO {i:Nat} (h:plainS Γ i=true):eM Γ i=false/\Γ.δ≠some i:=by grind [plainS]
def ER.set {o:Ow} {ρ:ak} {S:Sx} {σ:L2.St} {H:Hp} {i:Nat} {v:V} {d:Dt} (er:ER Φ Γ o ρ S σ H) (hp:plainS Γ i=true) (h:RV Φ.K o.A H v d):ER Φ Γ o (ρ.set i (some d)) S (σ.set i (some v)) H where
 len:=by rw[List.length_set,List.length_set];exact er.len
 wa:=er.wa
 da:=er.da
 al:=er.al
 val:=λj e he=>by
  by_cases hj:j=i
  ·subst hj;rw[List.getElem?_set] at he;simp only[if_true] at he;split at he
   ·rename_i cz;cases he;refine⟨v,by rw[Qj (by rw[er.len];exact cz)],?_⟩;rw[(gO hp).1,if_neg (by simp)];exact h
   ·cases he
  ·rw[PL (Ne.symm hj)] at he;obtain⟨w,h1,h2⟩:=er.val j e he;exact⟨w,by rw[PL (Ne.symm hj)];exact h1,h2⟩
 inj:=λa b c e f ha hb h1 h2 h3 h4=>by
  have na:a≠i:=λz=>by rw[z,(gO hp).1] at ha;cases ha
  have nb:b≠i:=λz=>by rw[z,(gO hp).1] at hb;cases hb
  rw[PL (Ne.symm na)] at h1 h3;rw[PL (Ne.symm nb)] at h2 h4;exact er.inj a b c e f ha hb h1 h2 h3 h4
 drw:=er.drw
 drn:=er.drn
 drs:=λj a hj ha=>by rw[PL (λz=>(gO hp).2 (by rw[z];exact hj))];exact er.drs j a hj ha
 dr0:=er.dr0
 ent:=er.ent
def uB {o:Ow} {S:Sx} {H:Hp} {Q:L2.St->Hp->Prop}:∀{is:List Nat} {ds:List Dt} {xs:List V} {ρ ρ1:ak} {σ:L2.St},ER Φ Γ o ρ S σ H->(∀i∈is,plainS Γ i=true)->ai Φ.K o.A H xs ds->dq is ds ρ= .ok ρ1->(∀σ1,ER Φ Γ o ρ1 S σ1 H->(∀k,k∉is->σ1[k]?=σ[k]?/\ρ1[k]?=ρ[k]?)->Q σ1 H)->xB is xs σ H Q/\xs.length=is.length
 | [],ds,xs,ρ,ρ1,σ,er,_,hx,h,q=>by
  cases ds with
  | nil=>cases h;rw[hx.nil_inv];exact⟨⟨rfl,q σ er λ_ _=>⟨rfl,rfl⟩⟩,rfl⟩
  | cons=>cases h
 | i::is,ds,xs,ρ,ρ1,σ,er,hp,hx,h,q=>by
  cases ds with
  | nil=>cases h
  | cons d ds=>
   obtain⟨x,r,rfl,h1,h2⟩:=hx.cons_inv;obtain⟨k1,k2⟩:=uB (er.set (hp i Pu) h1) (λj hj=>hp j (Pq _ hj)) h2 h λσ1 aB hk=>q σ1 aB λk jt=>by
    have n1:k≠i:=λz=>jt (by rw[z];exact Pu)
    obtain⟨a1,a2⟩:=hk k λz=>jt (Pq _ z)
    rw[PL (Ne.symm n1)] at a1 a2;exact⟨a1,a2⟩
   exact⟨⟨x,r,rfl,k1⟩,by simp[k2]⟩
def wj {o:Ow} {S:Sx} {H:Hp} {Q:L2.St->Hp->Prop} {t:Tg} {d:Dt} {x:V} {ρ ρ1:ak} {σ:L2.St} (er:ER Φ Γ o ρ S σ H) (hp:∀i∈aS t,plainS Γ i=true) (hx:RV Φ.K o.A H x d) (h:bY t d ρ= .ok ρ1) (q:∀σ1,ER Φ Γ o ρ1 S σ1 H->(∀k,k∉aS t->σ1[k]?=σ[k]?/\ρ1[k]?=ρ[k]?)->Q σ1 H):BV Φ.K t x σ H Q:=by
 cases t with
 | nm i=>
  cases h;exact q _ (er.set (hp i (by simp[aS])) hx) λk hk=>by
   have n1:k≠i:=λz=>hk (by simp[aS,z])
   rw[PL (Ne.symm n1),PL (Ne.symm n1)];exact⟨rfl,rfl⟩
 | tp is=>
  unfold bY at h;cases d with
  | tup ds=>obtain⟨a,xs,rfl,h1,h2⟩:=hx.ag;obtain⟨k1,k2⟩:=uB er hp h2 h q;exact⟨a,xs,rfl,ek.of h1,k2,k1⟩
  | _=>cases h
def oO:∀(is:List Nat) (ds:List Dt) (ρ:ak) (k:Nat),dq is ds ρ≠ .ex k
 | [],[],_,_=>λz=>by cases z
 | [],_::_,_,_=>λz=>by cases z
 | _::_,[],_,_=>λz=>by cases z
 | _::is,_::ds,ρ,k=>oO is ds _ k
def oJ (t:Tg) (d:Dt) (ρ:ak):∀k,bY t d ρ≠ .ex k:=by
 intro k;cases t with
 | nm i=>intro z;cases z
 | tp is=>
  cases d with
  | tup ds=>exact oO is ds ρ k
  | _=>intro z;cases z
def pk {Ek:Nat->Prop} {α:Type} {r:R α} {P:α->Prop} (jA:∀k,r≠ .ex k) (h:mR Ek r P):∃d,r= .ok d/\P d:=by grind [ex,R,mR]
def qI {sc:Scope} (gx:GX g Γ X) (hk:sc.kind= .function) (hb:xq sc.names Γ.names (aW Γ sc).1.N Γ.N (aW Γ sc).2=true):eF X sc (aW Γ sc).1.N (aW Γ sc).2:=by grind [xq,aW,GX,eF]
def eB {sc:Scope} {C:Addr} {s:Shared} {H:Hp} {fp:List Addr} {xe:Value->Shared->Prop} (gx:GX g Γ X) (B:eF X sc (aW Γ sc).1.N (aW Γ sc).2) (eS:(aW Γ sc).1.N.Nodup):GX g (aW Γ sc).1 (eR X sc (aW Γ sc).1.N C s H fp xe) where
 N:=rfl
 nd:=eS
 vis:=λx h=>by
  have hn:(aW Γ sc).1.names=sc.names:=rfl;rw[hn] at h;cases hl:sc.names.lookup x with
  | none=>rw[hl] at h;cases h
  | some kk=>
   have q:=aT (env:=X.env) hl;have q':(eR X sc (aW Γ sc).1.N C s H fp xe).env.scope.names.lookup x=_:=q;by_cases hc:(kk==NameKind.free&&X.env.scope.kind== .function&&X.env.kindOf x==some .cell)=true
   ·rw[if_pos hc] at q';exact .inr (.inl q')
   ·rw[if_neg hc] at q';rw[hl] at h;cases kk with
    | «local»=>exact .inl q'
    | cell=>exact .inr (.inl q')
    | free=>exact .inr (.inr q')
    | globalExplicit=>cases h
    | globalImplicit=>cases h
 loc:=λx h=>by
  have hn:(aW Γ sc).1.names=sc.names:=rfl;rw[hn] at h;cases hl:sc.names.lookup x with
  | none=>rw[hl] at h;cases h
  | some kk=>
   have q:=aT (env:=X.env) hl;have q':(eR X sc (aW Γ sc).1.N C s H fp xe).env.scope.names.lookup x=_:=q;rw[hl] at h;cases kk with
   | «local»=>rw[if_neg (by simp)] at q';exact⟨.inl q',.inr q'⟩
   | cell=>rw[if_neg (by simp)] at q';exact⟨.inr q',.inl (by show (sc.names.lookup x==some .cell)=true;rw[hl];rfl)⟩
   | free=>cases h
   | globalExplicit=>cases h
   | globalImplicit=>cases h
 gl:=λx h=>by
  have hn:(aW Γ sc).1.names=sc.names:=rfl;rw[hn] at h;cases hl:sc.names.lookup x with
  | none=>rw[hl] at h;cases h
  | some kk=>
   have q:=aT (env:=X.env) hl;have q':(eR X sc (aW Γ sc).1.N C s H fp xe).env.scope.names.lookup x=_:=q;rw[hl] at h;cases kk with
   | globalImplicit=>rw[if_neg (by simp)] at q';exact q'
   | «local»=>cases h
   | cell=>cases h
   | free=>cases h
   | globalExplicit=>cases h
 fre:=λx h=>by
  have hn:(aW Γ sc).1.names=sc.names:=rfl;rw[hn] at h;rcases h with hl | hl
  ·have q:=aT (env:=X.env) hl;have q':(eR X sc (aW Γ sc).1.N C s H fp xe).env.scope.names.lookup x=_:=q;rw[if_neg (by simp)] at q';exact .inl q'
  ·have q:=aT (env:=X.env) hl;have q':(eR X sc (aW Γ sc).1.N C s H fp xe).env.scope.names.lookup x=_:=q;by_cases hc:(NameKind.free==NameKind.free&&X.env.scope.kind== .function&&X.env.kindOf x==some .cell)=true
   ·rw[if_pos hc] at q';exact .inl q'
   ·rw[if_neg hc] at q';exact .inr q'
 calm:=gx.calm
 un:=gx.un
 con:=gx.con
 bl:=gx.bl
end
def join_some {α:Type} {o:Option (Option α)} {a:α} (h:o.join=some a):o=some (some a):=by
 cases o with
 | none=>cases h
 | some x=>cases x with
  | none=>cases h
  | some y=>simp at h;rw[h]
def iE {cap:List (Option Nat)} {ρ:ak} {j:Nat} {d:Dt} (h:(fX cap ρ)[j]?=some (some d)):∃i,cap[j]?=some (some i)/\ρ[i]?=some (some d):=by
 unfold fX at h;rw[PN] at h;cases hc:cap[j]? with
 | none=>rw[hc] at h;cases h
 | some o=>
  rw[hc] at h;cases o with
  | none=>cases h
  | some i=>refine⟨i,rfl,join_some ?_⟩;simpa using h
def d7 {cap:List (Option Nat)} {σ:L2.St} {i j:Nat} {v:V} (hc:cap[j]?=some (some i)) (h:σ[i]?=some (some v)):(cO cap σ)[j]?=some (some v):=by unfold cO;rw[PN,hc];simp[h]
def tQ {δ:Option Nat}:∀{cap:List (Option Nat)} {j:Nat},Fb δ cap=some j->∃i,δ=some i/\cap[j]?=some (some i)
 | [],j,h=>by simp[Fb] at h
 | o::r,j,h=>by
  unfold Fb at h;split at h
  ·rename_i c;rw[Pm] at c;cases h;cases δ with
   | none=>simp at c
   | some i=>exact⟨i,rfl,by simp[PV c.2]⟩
  ·obtain⟨k,h1,rfl⟩:=PH.mp h;obtain⟨i,h2,h3⟩:=tQ h1;exact⟨i,h2,by simpa using h3⟩
section
variable {X:Cx} {Φ:Fm} {Γ:Gm} {F:FT} {g:G} {xv:Nat->Value} {CX:j9} {k:Nat} {K:Frag}
def Ow.plus (o:Ow) (D:Addr):Ow:=⟨o.W,λb=>o.A b\/b=D,o.dr⟩
def jq {sc:Scope} {i j:Nat} (hc:(aW Γ sc).2[j]?=some (some i)):eM (aW Γ sc).1 j=eM Γ i:=by grind [aW,G3,eM]
theorem ER.aW {sc:Scope} {o:Ow} {ρ:ak} {S:Sx} {σ:L2.St} {H:Hp} {D:Addr} (er:ER Φ Γ o ρ S σ H) (B:eF X sc (aW Γ sc).1.N (aW Γ sc).2) (eS:(Rx.aW Γ sc).1.N.Nodup) (hD:H D=none):
  ER Φ (Rx.aW Γ sc).1 (o.plus D) (fX (Rx.aW Γ sc).2 ρ) S (cO (Rx.aW Γ sc).2 σ) (upd H D (.lst [])):=by
 have s:=Mx.cw hD (.lst []);have av:∀b,(o.A b\/b=D)->o.A b\/H b=none:=λb z=>z.elim .inl λe=> .inr (by rw[e];exact hD)
 refine⟨?_,λa h=> .inl (er.wa a h),λa h=> .inl (er.da a h),λa h=>?_,λj d h=>?_,λj j' a d e hm hm' h1 h2 h3 h4=>?_,λa h=>?_,er.drn,λj a hj ha=>?_,er.dr0,er.ent.trans (aV.of_same s)⟩
 ·unfold cO fX;rw[Px,Px]
 ·rcases h with h | h
  ·obtain⟨x,hx⟩:=er.al a h;exact⟨x,s _ _ hx⟩
  ·subst h;exact⟨_,az⟩
 ·obtain⟨i,hc,hr⟩:=iE h;obtain⟨v,h1,h2⟩:=er.val i d hr;refine⟨v,d7 hc h1,?_⟩;rw[jq hc];by_cases hm:eM Γ i=true
  ·rw[if_pos hm] at h2 ⊢;cases d with
   | lst ds=>obtain⟨a,xs,e1,e2,e3,e4,e5,e6,e7⟩:=h2;exact⟨a,xs,e1,s _ _ e2,.inl e3,e4,e5,e6,(e7.bz av).same s⟩
   | _=>exact RV.same (RV.bz av h2) s
  ·rw[if_neg hm] at h2 ⊢;exact(h2.bz av).same s
 ·obtain⟨i,hc,hr⟩:=iE h1;obtain⟨i',ng,gM⟩:=iE h2;rw[jq hc] at hm;rw[jq ng] at hm';obtain⟨v,k1,_⟩:=er.val i _ hr;obtain⟨v',MB,_⟩:=er.val i' _ gM;rw[d7 hc k1] at h3;rw[d7 ng MB] at h4;cases h3;cases h4;have:=er.inj i i' a d e hm hm' hr gM k1 MB;subst this;obtain⟨x,n1,n2,_⟩:=B.AS j i hc;obtain⟨x',FD,IW,_⟩:=B.AS j' i ng;rw[n2] at IW;cases IW;exact kJ eS n1 FD
 ·obtain⟨ns,e1,e2⟩:=er.drw a h;exact⟨ns,e1,s _ _ e2⟩
 ·obtain⟨i,h1,h2⟩:=tQ (show Fb Γ.δ (Rx.aW Γ sc).2=some j from hj);exact d7 h2 (er.drs i a h1 ha)
def zd {sc:Scope} {x:Str} {i:Nat} (B:eF X sc (aW Γ sc).1.N (aW Γ sc).2) (h:f9 (aW Γ sc).1 x=some i):(aW Γ sc).2[i]?=some none:=by
 obtain⟨a,b,c⟩:=jT h;have cz:i < (aW Γ sc).2.length:=by rw[B.len];exact(Pp.mp c).1
 cases hc:(aW Γ sc).2[i]? with
 | none=>rw[List.getElem?_eq_none_iff] at hc;omega
 | some o=>
  cases o with
  | none=>rfl
  | some j=>obtain⟨y,n1,_,n3⟩:=B.AS i j hc;rw[c] at n1;cases n1;have hn:(aW Γ sc).1.names=sc.names:=rfl;rw[hn,n3] at a;cases a
def qS {cap:List (Option Nat)} {σ:L2.St} {i:Nat} (h:cap[i]?=some none):(cO cap σ)[i]?=some none:=by unfold cO;rw[PN,h];rfl
def ka {σ0:L2.St} {t:Tg} {K:Frag} (h:∀i∈aS t,σ0[i]?=some none):GL σ0 (BV K t):=by
 have many:∀{is:List Nat},(∀i∈is,σ0[i]?=some none)->Gr σ0 (xB is):=by
  intro is
  induction is with
  | nil=>intro _;exact zX
  | cons i is ih=>intro hs;exact wU (hs i Pu) (ih λj hj=>hs j (Pq _ hj))
 cases t with
 | nm i=>exact zN (h i (by simp[aS]))
 | tp is=>exact Df (many h)
def mU {sc:Scope} {e:Expr} {t:Tg} {σ:L2.St} (B:eF X sc (aW Γ sc).1.N (aW Γ sc).2) (h:rY (aW Γ sc).1 e=some t):∀i∈aS t,(cO (aW Γ sc).2 σ)[i]?=some none:=λi hi=>by obtain⟨_,x,hx⟩:=fj h i hi;exact qS (zd B hx)
def C0 (Γ:Gm) (ρ:ak) (σ:L2.St) (D:Addr):Prop:=∀(j:Nat) (d:List Dt),eM Γ j=true->ρ[j]?=some (some (.lst d))->σ[j]?≠some (some (.ref D))
def ud {H:Hp} {D:Addr} {acc dM:List V} (hD:H D=some (.lst acc)):aV (λb=>b=D) H (upd H D (.lst dM)):=⟨λb o h n=>by rw[ao n];exact h,Mx.kz hD⟩
def ER.emit {o:Ow} {ρ:ak} {S:Sx} {σ:L2.St} {H:Hp} {D:Addr} {acc dM:List V} (er:ER Φ Γ o ρ S σ H) (hD:H D=some (.lst acc)) (hn:C0 Γ ρ σ D) (oD:o.A D) (nd:o.dr≠some D) (h0:∀x,Φ.H0 D=some x->Φ.d0=some D):ER Φ Γ o ρ S σ (upd H D (.lst dM)):=by
 have up:aV (λb=>b=D) H (upd H D (.lst dM)):=ud hD;have uA:∀b,b=D->o.A b:=λb z=>by rw[z];exact oD
 refine⟨er.len,er.wa,er.da,λa ha=>?_,λj dd h=>?_,er.inj,λa ha=>?_,er.drn,er.drs,er.dr0,?_⟩
 ·obtain⟨x,hx⟩:=er.al a ha;exact up.al hx λz=>⟨_,by rw[z];exact az⟩
 ·obtain⟨w,h1,h2⟩:=er.val j dd h;refine⟨w,h1,?_⟩;by_cases hm:eM Γ j=true
  ·rw[if_pos hm] at h2 ⊢;cases dd with
   | lst ds=>
    obtain⟨a,xs,e1,e2,e3,e4,e5,e6,e7⟩:=h2;have aD:a≠D:=λz=>hn j ds hm h (by rw[h1,e1,z])
    exact⟨a,xs,e1,up.kp _ _ e2 aD,e3,e4,e5,e6,e7.mono up uA λ_ z=>z⟩
   | _=>exact RV.mono up uA (λ_ z=>z) h2
  ·rw[if_neg hm] at h2 ⊢;exact h2.mono up uA λ_ z=>z
 ·obtain⟨ns,e1,e2⟩:=er.drw a ha;exact⟨ns,e1,up.kp _ _ e2 (λz=>nd (by rw[<-z];exact ha))⟩
 ·refine⟨λb x h n=>up.kp _ _ (er.ent.kp b x h n) λz=>?_,λb xs h=>up.tp _ _ (er.ent.tp b xs h)⟩;subst z;exact n (h0 x h)
def Wk.less {A Y Y':Addr->Prop} {J:It} {H:Hp} {ds:List Dt} (w:Wk K A Y J H ds) (h:∀b,Y' b->Y b):Wk K A Y' J H ds:=⟨λi H1 hi e=>w.go i H1 hi (e.mono h),λH1 e=>w.stop H1 (e.mono h),λi x H1 H2 hi e y=>w.yld i x H1 H2 hi (e.mono h) y⟩
def IO.MA {Φ:Fm} {Γ:Gm} {o:Ow} {ρ:ak} {S:Sx} {σ:L2.St} {it:l0} {nl:Bool} {H H1:Hp} {ds:List Dt} {J:It} (io:IO Φ.K o it nl H ds J H1) (er:ER Φ Γ o ρ S σ H1) (h:(decide (qk it<=1)||nl)=true):Wk Φ.K o.A o.d J H1 ds:=by
 rcases Bool.or_eq_true_iff.mp h with h | h
 ·exact io.w1 (Po h)
 ·exact(io.w2 h).less er.da
def Wk.plus {A Y:Addr->Prop} {J:It} {H:Hp} {ds:List Dt} {D:Addr} (w:Wk K A Y J H ds) (hD:H D=none):Wk K (λb=>A b\/b=D) (λb=>Y b\/b=D) J (upd H D (.lst [])) ds:=by
 have ex:∀H1,aV (λb=>Y b\/b=D) (upd H D (.lst [])) H1->aV Y H H1:=λH1 e=>⟨λb o h n=>by
   have nb:b≠D:=λz=>by rw[z,hD] at h;cases h
   exact e.kp b o (by rw[ao nb];exact h) λz=>z.elim n nb,λb xs h=>by
   have nb:b≠D:=λz=>by rw[z,hD] at h;cases h
   exact e.tp b xs (by rw[ao nb];exact h)⟩
 refine⟨λi H1 hi e=>w.go i H1 hi (ex H1 e),λH1 e=>w.stop H1 (ex H1 e),λi x H1 H2 hi e y=>?_⟩;obtain⟨s,d,hd,hv⟩:=w.yld i x H1 H2 hi (ex H1 e) y;refine⟨s,d,hd,λB hB=>hv B λb hb=>?_⟩;rcases hB b hb with (z | z) | z
 ·exact .inl z
 ·exact .inr (by rw[z];exact hD)
 ·by_cases nb:b=D
  ·exact .inr (by rw[nb];exact hD)
  ·rw[ao nb] at z;exact .inr z
structure Aw (Φ:Fm) (Γ:Gm) (o:Ow) (D:Addr) (ρ:ak) (σ:L2.St) (S:Sx) (acc:List V) (es:List Dt) (H:Hp):Prop where
 at':H D=some (.lst acc)
 rv:ai Φ.K o.A H acc es
 er:ER Φ Γ o ρ S σ H
structure IS (Φ:Fm) (o:Ow) (D:Addr):Prop where
 oD:o.A D
 nd:o.dr≠some D
 h0:∀x,Φ.H0 D=some x->Φ.d0=some D
def Yd (o:Ow) (D:Addr):Addr->Prop:=λb=>o.d b\/b=D
def ER.back {o:Ow} {ρ ρ':ak} {S S':Sx} {σ σ':L2.St} {H H':Hp} {D:Addr} (fx:IS Φ o D) (hn:C0 Γ ρ σ D) (er:ER Φ Γ o ρ S σ H) (C5:ER Φ Γ o ρ' S' σ' H') (e:aV (Yd o D) H H'):ER Φ Γ o ρ S' σ H':=by
 have uA:∀b,Yd o D b->o.A b:=λb z=>z.elim (er.da b) λq=>by rw[q];exact fx.oD
 refine⟨er.len,er.wa,er.da,C5.al,λj dd h=>?_,er.inj,C5.drw,C5.drn,er.drs,er.dr0,C5.ent⟩;obtain⟨w,h1,h2⟩:=er.val j dd h;refine⟨w,h1,?_⟩;by_cases hm:eM Γ j=true
 ·rw[if_pos hm] at h2 ⊢;cases dd with
  | lst ds=>
   obtain⟨a,xs,e1,e2,e3,e4,e5,e6,e7⟩:=h2;have aD:a≠D:=λz=>hn j ds hm h (by rw[h1,e1,z])
   exact⟨a,xs,e1,e.kp _ _ e2 (λz=>z.elim e5 aD),e3,e4,e5,e6,e7.mono e uA λ_ z=>z⟩
  | _=>exact RV.mono e uA (λ_ z=>z) h2
 ·rw[if_neg hm] at h2 ⊢;exact h2.mono e uA λ_ z=>z
def sk {tg:Tg} {ts:Cs} {o:Ow} {D:Addr} {ρ:ak} {σ:L2.St} {J:It} {ds:List Dt} {H1:Hp} {tb:TB} {fb:ak->Sx->R (List Dt×Sx)} {m a0:Nat} (fx:IS Φ o D) (hp:∀i∈aS tg,plainS Γ i=true) (wk:Wk Φ.K o.A (Yd o D) J H1 ds) (hn:C0 Γ ρ σ D)
  (hb:∀(ρ1:ak) (σ1:L2.St) (S:Sx) (acc:List V) (es:List Dt) (H2:Hp) (P:List Dt×Sx->Prop),C0 Γ ρ1 σ1 D->(∀k,k∉aS tg->σ1[k]?=σ[k]?/\ρ1[k]?=ρ[k]?)->Aw Φ Γ o D ρ1 σ1 S acc es H2->aV (Yd o D) H1 H2->acc.length + m<=a0 + ds.length * m->0 < ds.length->mR Φ.Ek (fb ρ1 S) P->
   ∀Q:Hp->Prop,(∀H5 r iB,P r->Aw Φ Γ o D ρ1 σ1 r.2 iB (es++r.1) H5->aV (Yd o D) H2 H5->iB.length<=acc.length + m->Q H5)->tb σ1 H2 Q)
  {S:Sx} {acc:List V} {es:List Dt} {P:List Dt×Sx->Prop} (c:Aw Φ Γ o D ρ σ S acc es H1) (ha:acc.length<=a0) (q:mR Φ.Ek (bg (br tg (cA F ts) fb ρ) ds S) P) {Fn:Hp->Prop}
  (fin:∀H5 r iB,P r->Aw Φ Γ o D ρ σ r.2 iB (es++r.1) H5->aV (Yd o D) H1 H5->iB.length<=a0 + ds.length * m->Fn H5):oN J (BV Φ.K tg) (pD Φ Γ F ts) tb σ Fn H1:=by
 refine⟨λi mm H2=>mm=ds.length - i/\i<=ds.length/\∃S2 nF rR,Aw Φ Γ o D ρ σ S2 nF (es++rR) H2/\aV (Yd o D) H1 H2/\nF.length<=a0 + i * m/\mR Φ.Ek (bg (br tg (cA F ts) fb ρ) (ds.drop i) S2) λr=>P (rR++r.1,r.2),
  ⟨_,rfl,Nat.zero_le _,S,acc,[],by rw[Qd];exact c,aV.refl,by omega,q⟩,?_⟩
 rintro i mm H2 ⟨rfl,hi,S2,nF,rR,c2,zy,cX,q⟩;by_cases cz:i < ds.length
 ·refine .inr ⟨wk.go i H2 cz zy,λx H3 y=>?_⟩;obtain⟨s3,d,hd,hx⟩:=wk.yld i x H2 H3 cz zy y;have rd:=hx o.A λb z=> .inl z
  have Ha:=c2.er.grow s3;have KC:ds.drop i=d::ds.drop (i + 1):=by rw[List.drop_eq_getElem_cons cz];congr 1;exact(Pp.mp hd).2
  rw[KC] at q;unfold bg at q;rw[ab] at q;unfold br at q;rw[ab] at q;obtain⟨ρ1,hρ,q⟩:=pk (oJ _ _ _) q;refine wj Ha hp rd hρ λσ1 Lm hk=>?_
  rw[ab] at q;refine⟨o,ρ1,S2,Lm,ae q λb _ q H4 e4 Ij=>?_⟩;have MO:aV (Yd o D) H3 H4:=e4.mono λb z=> .inl z
  have N7:C0 Γ ρ1 σ1 D:=λj dd hm h1 h2=>by
   have nj:j∉aS tg:=λz=>by rw[(gO (hp j z)).1] at hm;cases hm
   obtain⟨k1,k2⟩:=hk j nj;rw[k1] at h2;rw[k2] at h1;exact hn j dd hm h1 h2
  have uA:∀b,Yd o D b->o.A b:=λb z=>z.elim (Ha.da b) λq=>by rw[q];exact fx.oD
  have Hn:H4 D=some (.lst nF):=e4.kp _ _ (s3 _ _ c2.at') fx.nd;have MN:ai Φ.K o.A H4 nF (es++rR):=(c2.rv.same s3).mono MO uA λ_ z=>z
  have Fy:aV (Yd o D) H2 H4:=(aV.of_same s3).trans MO;have hmul:ds.length * m=(ds.length - (i + 1)) * m + (i * m + m):=by rw[<-Nat.succ_mul i m,<-Nat.add_mul];congr 1;omega
  have Mw:(i + 1) * m=i * m + m:=Nat.succ_mul i m;have hz:0<=(ds.length - (i + 1)) * m:=Nat.zero_le _;cases lX:b.1 with
  | false=>rw[lX] at q;refine G2 ?_;refine⟨ds.length - (i + 1),by omega,rfl,cz,b.2,nF,rR,⟨Hn,MN,c2.er.back fx hn Ij Fy⟩,zy.trans Fy,by omega,?_⟩;simp only[Bool.false_eq_true,if_false] at q;have q:mR Φ.Ek ((bg (br tg (cA F ts) fb ρ) (ds.drop (i + 1)) b.2).bind λq=>R.ok (([]:List Dt)++q.1,q.2)) _:=q;rw[ab] at q;exact ae q λr _ q=>q
  | true=>
   rw[lX] at q;refine FY ?_;simp only[if_true] at q;refine hb ρ1 σ1 b.2 nF (es++rR) H4 _ N7 hk ⟨Hn,MN,Ij⟩ (zy.trans Fy) (by omega) (by omega) q _ λH5 r iB q c5 e5 l5=>?_
   rw[ab] at q;refine⟨ds.length - (i + 1),by omega,rfl,cz,r.2,iB,rR++r.1,⟨c5.at',by rw[<-PF];exact c5.rv,c2.er.back fx hn c5.er (Fy.trans e5)⟩,(zy.trans Fy).trans e5,by omega,ae q λr' _ q=>?_⟩;have q:P (rR++(r.1++r'.1),r'.2):=q;rw[PF];exact q
 ·have e:i=ds.length:=by omega
  subst e;refine .inl ⟨wk.stop H2 zy,?_⟩;rw[List.drop_length] at q;have q:P (rR++[],S2):=q;rw[Qd] at q;exact fin H2 (rR,S2) nF q c2 zy cX
def xu {o:Ow} {D:Addr} {c:C} {ρ:ak} {σ:L2.St} {S:Sx} {acc:List V} {es:List Dt} {H:Hp} {P:List Dt×Sx->Prop} (fx:IS Φ o D) (hn:C0 Γ ρ σ D) (cs:Aw Φ Γ o D ρ σ S acc es H) (hl:acc.length < sizeLine)
  (q:mR Φ.Ek ((ev F c ρ S).bind λy=>af (bJ c y.1) (.ok ([y.1],y.2))) P) (Q:Hp->Prop) (fin:∀H5 r iB,P r->Aw Φ Γ o D ρ σ r.2 iB (es++r.1) H5->aV (Yd o D) H H5->iB.length<=acc.length + 1->Q H5):ub D (bD Φ Γ F g.fr c) σ H Q:=by
 rw[ab] at q;refine⟨o,ρ,S,cs.er,ae q λy _ q v H5 eo5 er6=>?_⟩;obtain⟨gs,q⟩:=aN q;have e5:aV (Yd o D) H H5:=eo5.ext.mono λb z=> .inl z
 have Ju:H5 D=some (.lst acc):=eo5.ext.kp _ _ cs.at' fx.nd;have uA:∀b,Yd o D b->o.A b:=λb z=>z.elim (cs.er.da b) λq=>by rw[q];exact fx.oD
 have hv:RV Φ.K o.A H5 v y.1:=by
  unfold bJ at gs;rw[Qe] at gs;rcases gs with gs | gs
  ·exact eo5.cW (Po gs)
  ·exact eo5.val.gk gs
 have up:aV (λb=>b=D) H5 (upd H5 D (.lst (acc++[v]))):=ud Ju;refine⟨acc,Ju,hl,fin _ ([y.1],y.2) (acc++[v]) q ⟨az,?_,er6.emit Ju hn fx.oD fx.nd fx.h0⟩ (e5.trans (up.mono λb z=> .inr z)) (by simp)⟩;exact((cs.rv.mono e5 uA λ_ z=>z).append (ai.cons hv ai.nil)).mono up (λb z=>by rw[z];exact fx.oD) λ_ z=>z
def tD:2 * lim < sizeLine:=by rw[sizeLine_eq];decide
def mB {sc:Scope} {o:Ow} {ρ:ak} {S:Sx} {σ:L2.St} {H:Hp} {D:Addr} (er:ER Φ Γ o ρ S σ H) (B:eF X sc (aW Γ sc).1.N (aW Γ sc).2) (eS:(Rx.aW Γ sc).1.N.Nodup) (hD:H D=none):
  IS Φ (o.plus D) D/\C0 (aW Γ sc).1 (fX (aW Γ sc).2 ρ) (cO (aW Γ sc).2 σ) D/\Aw Φ (aW Γ sc).1 (o.plus D) D (fX (aW Γ sc).2 ρ) (cO (aW Γ sc).2 σ) S [] [] (upd H D (.lst [])):=by
 refine⟨⟨.inr rfl,λz=>?_,λx hx=>?_⟩,λj d hm h1 h2=>?_,⟨az,ai.nil,er.aW B eS hD⟩⟩
 ·obtain⟨y,hy⟩:=er.al D (er.da D z);rw[hD] at hy;cases hy
 ·by_cases hz:Φ.d0=some D
  ·exact hz
  ·have:=er.ent.kp D x hx hz;rw[hD] at this;cases this
 ·obtain⟨ii,hc,Nc⟩:=iE h1;obtain⟨w',k1,k2⟩:=er.val ii _ Nc;rw[<-jq hc,if_pos hm] at k2;obtain⟨a',nC,JO,E6,_⟩:=k2;rw[d7 hc k1] at h2;cases h2;cases JO;rw[hD] at E6;cases E6
def ue {sc:Scope} {o:Ow} {ρ:ak} {S S2:Sx} {σ:L2.St} {H H1 H2:Hp} {D:Addr} {acc:List V} {ds:List Dt} {c:C} (hc:lk c=0) (io:aV o.d H H1) (aB:ER Φ Γ o ρ S σ H1) (hD:H1 D=none) {ρ2:ak} {σ2:L2.St} (cs:Aw Φ (aW Γ sc).1 (o.plus D) D ρ2 σ2 S2 acc ds H2) (ex:aV (Yd (o.plus D) D) (upd H1 D (.lst [])) H2):
  EO Φ.K g.fr o c H (.lst ds) (.ref D) H2/\ER Φ Γ o ρ S2 σ H2:=by
 have zy:aV o.d H1 H2:=⟨λb x h n=>by
   have nb:b≠D:=λz=>by rw[z,hD] at h;cases h
   exact ex.kp b x (by rw[ao nb];exact h) λz=>z.elim n nb,λb xs h=>by
   have nb:b≠D:=λz=>by rw[z,hD] at h;cases h
   exact ex.tp b xs (by rw[ao nb];exact h)⟩
 have nA:¬o.A D:=λz=>by obtain⟨y,hy⟩:=aB.al D z;rw[hD] at hy;cases hy
 have dn:H D=none:=aB.dO io hD;have v0:RV Φ.K o.A H2 (.ref D) (.lst ds):=RV.eC cs.at' nA (cs.rv.weak λb z=> .inl z);refine⟨⟨io.trans zy,v0.weak aB.gD,λ_=>v0,λ_=>v0.one,λ_ vM ed=>?_⟩,aB.step zy (λa ha=>cs.er.drw a ha) cs.er.drn⟩;cases ed;exact⟨D,acc,rfl,dn,cs.at',cs.rv.weak λb z=>z.elim (λz=> .inl (aB.gD b z)) .inr,λ_=>cs.rv⟩
def yz {sc:Scope} {tg:Expr} {it:l0} {t:Tg} {ts:Cs} {c:C} (hK:Φ.K=X.K) (B:eF X sc (aW Γ sc).1.N (aW Γ sc).2) (eS:(aW Γ sc).1.N.Nodup) (FE:rY (aW Γ sc).1 tg=some t) {σ:L2.St} {H:Hp} {Q:VK}
  (q:bD Φ Γ F g.fr (.comp (aW Γ sc).2 it t ts c) σ H Q):mV (aW Γ sc).2 (nL Φ Γ F it) (BV X.K t) (pD Φ (aW Γ sc).1 F ts) (λD=>ub D (bD Φ (aW Γ sc).1 F g.fr c)) σ H Q:=by
 obtain⟨o,ρ,S,er,q⟩:=q;unfold ev at q;rw[ab] at q;refine⟨o,ρ,S,er,ae q λp _ q J H1 io aB D hD=>⟨ka (mU B FE),?_⟩⟩;obtain⟨g1,q⟩:=aN q;rw[Pm] at g1;have dN:=Po g1.1;have wk:=(io.MA aB g1.2).plus hD;rw[ab] at q;have ib:=tD;obtain⟨fx,hn,cs⟩:=mB (X:=X) aB B eS hD;rw[<-hK];refine sk (m:=1) (a0:=0) fx (λi hi=>(fj FE i hi).1) wk hn (λρ1 σ1 S1 acc es H2 P n1 hk c1 e1 hl _ q Q fin=>xu fx n1 c1 (by omega) q Q fin) cs (Nat.zero_le _) q λH5 r iB q c5 e5 l5=>?_
 obtain⟨k1,k2⟩:=ue (g:=g) (c:= .comp (aW Γ sc).2 it t ts c) rfl io.ext aB hD c5 e5;exact q _ _ k1 k2
def uG {sc:Scope} {tg tg2:Expr} {it it2:l0} {t t2:Tg} {ts EV:Cs} {c:C} (hK:Φ.K=X.K) (B:eF X sc (aW Γ sc).1.N (aW Γ sc).2) (eS:(aW Γ sc).1.N.Nodup) (FE:rY (aW Γ sc).1 tg=some t) (GU:rY (aW Γ sc).1 tg2=some t2) (FR:∀i∈aS t2,i∉aS t) {σ:L2.St} {H:Hp} {Q:VK}
  (q:bD Φ Γ F g.fr (.ja (aW Γ sc).2 it t ts it2 t2 EV c) σ H Q):mV (aW Γ sc).2 (nL Φ Γ F it) (BV X.K t) (pD Φ (aW Γ sc).1 F ts) (λD=>FH (nL Φ (aW Γ sc).1 F it2) (BV X.K t2) (pD Φ (aW Γ sc).1 F EV) (ub D (bD Φ (aW Γ sc).1 F g.fr c))) σ H Q:=by
 obtain⟨o,ρ,S,er,q⟩:=q;unfold ev at q;rw[ab] at q;refine⟨o,ρ,S,er,ae q λp _ q J H1 io aB D hD=>⟨ka (mU B FE),?_⟩⟩;obtain⟨g1,q⟩:=aN q;rw[Pm] at g1;have dN:=Po g1.1;have wk:=(io.MA aB g1.2).plus hD;rw[ab] at q;have ib:=tD;obtain⟨fx,hn,cs⟩:=mB (X:=X) aB B eS hD;rw[<-hK];have hdiv:p.1.length * (lim / p.1.length)<=lim:=Nat.mul_div_le _ _;refine sk (m:=lim / p.1.length) (a0:=0) fx (λi hi=>(fj FE i hi).1) wk hn (λρ1 σ1 S1 acc es H2 P n1 hk c1 e1 hl Hf q Q fin=>?_) cs (Nat.zero_le _) q λH5 r iB q c5 e5 l5=>?_
 ·refine⟨ka λi hi=>?_,?_⟩
  ·rw[(hk i (FR i hi)).1];exact mU B GU i hi
  ·rw[ab] at q;refine⟨o.plus D,ρ1,S1,c1.er,ae q λx2 _ q J2 H3 io2 Ha=>?_⟩;obtain⟨g2,q⟩:=aN q;rw[Pm] at g2;have cX:=Po g2.1;have uA:∀b,Yd (o.plus D) D b->(o.plus D).A b:=λb z=>z.elim (Ha.da b) λq=> .inr q
   have OT:=(io2.w0 (Po g2.2)).less uA;have e3:aV (Yd (o.plus D) D) H2 H3:=io2.ext.mono λb z=> .inl z
   have zk:x2.1.length<=lim / p.1.length:=(Nat.le_div_iff_mul_le Hf).mpr (by rw[Nat.mul_comm];exact cX);refine sk (m:=1) (a0:=acc.length) fx (λi hi=>(fj GU i hi).1) OT n1 (λρ2 σ2 S2 nF rR H4 P2 n2 hk2 c2 e2 hl _ q Q fin=>xu fx n2 c2 (by omega) q Q fin) ⟨io2.ext.kp _ _ c1.at' fx.nd,c1.rv.mono e3 uA λ_ z=>z,Ha⟩ (Pt _) q λH5 r iB q c5 e5 l5=>?_
   exact fin H5 r iB q c5 (e3.trans e5) (by omega)
 ·obtain⟨k1,k2⟩:=ue (g:=g) (c:= .ja (aW Γ sc).2 it t ts it2 t2 EV c) rfl io.ext aB hD c5 e5;exact q _ _ k1 k2
end
def uI:Expr->Bool
 | .Starred ..=>false
 | .Slice ..=>false
 | .Set ..=>false
 | .Call (.Name _ _) [] _ _=>false
 | _=>true
def bq {e:Expr} (h:uI e=true) (es:List Expr) (env:Env):starEach (e::es) env=(false,eval e env)::starEach es env:=by cases e <;> first | rfl | (simp[uI] at h)
def GZ {e:Expr} (h:uI e=true):nU e:=by intro o i;cases e <;> first | rfl | (simp[uI] at h)
def zY {e:Expr} (h:uI e=true) (op:CmpOp):behindInMarks op e=false:=by cases e <;> first | rfl | (simp[uI] at h)
def gL {e:Expr} (h:uI e=true) (env:Env):∀x,foldedSetIterable e env x=pure x:=by intro x;cases e <;> first | rfl | (simp[uI] at h)
def cJ {X:Cx} {Φ:Fm} {Γ:Gm} {F:FT} {e:Expr} {c:C} (h:∀ρ S,bQ F c ρ S= .bad):PT X e (fg Φ Γ F c):=λpins s σ H Q I q=>by obtain⟨o,ρ,S,er,q⟩:=q;rw[h] at q;exact q.elim
section
variable {g:G} {xv:Nat->Value} {CX:j9} {k:Nat} {F:FT}
structure Nu (g:G) (F:FT) (n:Nat) (Γ:Gm) (X:Cx) (Φ:Fm):Prop where
 e:∀e c,cE n g Γ e=some c->PE X e (bD Φ Γ F g.fr c)/\PT X e (fg Φ Γ F c)/\uI e=true
 es:∀es cs,vK n g Γ es=some cs->PA X es (lj Φ Γ F cs)/\cs.len=es.length/\∀e∈es,uI e=true
 ts:∀es cs,Bu n g Γ es=some cs->BX X es (pD Φ Γ F cs)
 b:∀o es c pos,cB n g Γ o es=some c->PE X (.BoolOp o es pos) (bD Φ Γ F g.fr c)/\PW X (.BoolOp o es pos) (fg Φ Γ F c)
 i:∀tg e it,cI n g Γ tg e=some it->PI X tg e (nL Φ Γ F it)/\uI e=true
 c:∀f a as c p pos,tW n g Γ f a as=some c->PE X (.Call (.Name f p) (a::as) [] pos) (bD Φ Γ F g.fr c)/\PT X (.Call (.Name f p) (a::as) [] pos) (fg Φ Γ F c)
def pj {es:List Expr} {env:Env} {pos:Pos} (h:∀e∈es,uI e=true):(backTo pos (starEach es env)).any (·.1)=false:=by
 induction es with
 | nil=>rfl
 | cons e es ih=>rw[bq (h e Pu)];show (false||(backTo pos (starEach es env)).any (·.1))=false;rw[ih λe' z=>h e' (Pq _ z)];rfl
def rZ {x y:Str} (h:(x==y)=false):x≠y:=λe=>by subst e;rw[beq_self_eq_true] at h;cases h
def dW {x:Str} (h:eE x=true):(x==("__debug__":Str))=false/\(x==("__classdict__":Str))=false/\x≠"__name__":=by simp_all [eE,rZ]
def vQ:∀t∈wK,BR t.2.2=true/\bootBuiltins t.1=some (ET t.2.2):=by
 intro t ht;simp only[wK,PC,PD,or_false] at ht;rcases ht with rfl | rfl | rfl | rfl | rfl | rfl | rfl
 ·exact⟨rfl,PySem.boot_len⟩
 ·exact⟨rfl,PyProof.Rows.boot_min⟩
 ·exact⟨rfl,PyProof.Rows.boot_sum⟩
 ·exact⟨rfl,PyProof.Rows.boot_max⟩
 ·exact⟨rfl,PyProof.Rows.boot_sorted⟩
 ·exact⟨rfl,PyProof.Rows.boot_tuple⟩
 ·exact⟨rfl,PyProof.Rows.boot_list⟩
def Bj {x:Str} {n:Nat} {b:BI} (h:qT x n=some b):BR b=true/\bootBuiltins x=some (ET b):=by unfold qT at h;obtain⟨t,h1,rfl⟩:=PH.mp h;have hm:=List.mem_of_find?_eq_some h1;have hp:=List.find?_some h1;rw[Pm] at hp;rw[<-PV hp.1];exact vQ t hm
def Ci {b:BI} (h:BR b=true):(∃id,ET b= .builtin id)\/∃T,ET b= .type T:=by cases b <;> first | exact .inl ⟨_,rfl⟩ | exact .inr ⟨_,rfl⟩ | cases h
def fh {x:Str} (h:g.bls.contains x=true):x∈g.bls:=by simpa using h
def J1 {X:Cx} {Φ:Fm} {Γ:Gm} {x:Str} {n:Nat} {b:BI} {a:Expr} {as:List Expr} {cs:Cs} {p pos:Pos} (hK:Φ.K=X.K) (gx:GX g Γ X) (hG:Gl X x) (hm:X.mg x=none) (hx:eE x=true) (hb:qT x n=some b) (hs:starEach (a::as) X.env=(false,eval a X.env)::starEach as X.env) (gG:(backTo pos (starEach as X.env)).any (·.1)=false)
  (ha:PA X (a::as) (lj Φ Γ F cs)):PE X (.Call (.Name x p) (a::as) [] pos) (bD Φ Γ F g.fr (.bi b cs)):=by
 obtain⟨h1,h2⟩:=Bj hb;obtain⟨n1,n2,n3⟩:=dW hx;have hc:=Ae (X:=X) b h1 gx.calm gx.un;rcases Ci h1 with ⟨id,e⟩ | ⟨T,e⟩
 ·rw[e] at h2 hc;exact a9 (pB hc hG hm h2 ha n3 n1 hs gG) λσ H Q q=>yo hK q
 ·rw[e] at h2 hc;exact a9 (vg hc hG hm h2 ha n3 n1 hs gG) λσ H Q q=>yo hK q
def sf {X:Cx} {Φ:Fm} {sc:Scope} {N':List Str} {C:Addr} {s:Shared} {H:Hp} {fp:List Addr} (hX:HX g xv CX k F Φ X):HX g xv CX k F Φ (eR X sc N' C s H fp (rW X sc N' (lR Φ xv) C s H fp)) where
 K:=hX.K
 fx:=hX.fx
 room:=hX.room
 cx:=hX.cx
 st:=nJ hX.st
 xgx:=λe s' h=>yA h
def iF (n:Nat):∀(Γ:Gm) (X:Cx) (Φ:Fm),GX g Γ X->HX g xv CX k F Φ X->Nu g F n Γ X Φ:=by
 induction n with
 | zero=>intro Γ X Φ gx hX;exact⟨λe c h=>by simp[cE] at h,λe c h=>by simp[vK] at h,λe c h=>by simp[Bu] at h,λo e c p h=>by simp[cB] at h,λo e c h=>by simp[cI] at h,λf a as c p q h=>by simp[tW] at h⟩
 | succ n ih=>
  intro Γ X Φ gx hX;have I:=ih Γ X Φ gx hX;have hK:=hX.K;have hu:=gx.un;refine⟨λe c h=>?_,λes cs h=>?_,λes cs h=>?_,λo es c pos h=>?_,λtg e it h=>?_,λf a as c p pos h=>?_⟩
  ·
   unfold cE at h;split at h
   ·cases h;exact⟨pd rfl xV,cJ λρ S=>by rw[bQ] <;> nofun,rfl⟩
   ·cases h;exact⟨pd rfl DO,cJ λρ S=>by rw[bQ] <;> nofun,rfl⟩
   ·cases h;exact⟨pd rfl Hl,cJ λρ S=>by rw[bQ] <;> nofun,rfl⟩
   ·cases h;exact⟨pd rfl CY,cJ λρ S=>by rw[bQ] <;> nofun,rfl⟩
   ·
    rename_i x p;split at h
    ·rename_i i hi;obtain⟨v1,v2,v3⟩:=tu hi;obtain⟨n1,n2,n3⟩:=dW v2;have hv:PE X (.Name x p) (lA i):=xg (by rw[gx.N];exact v3) (gx.vis x v1) n1 n2;split at h
     ·cases h
     split at h
     ·rename_i hm;cases h;have:=Hs (Φ:=Φ) (F:=F) (fr:=g.fr) hv hm;exact⟨this,ik hK this (λ_=>rfl) (λρ S=>by rw[bQ,ev];cases ff ρ i <;> rfl),rfl⟩
     ·rename_i hm;cases h;have:=Gi (Φ:=Φ) (F:=F) (fr:=g.fr) hv (by simpa using hm);exact⟨this,ik hK this (λ_=>rfl) (λρ S=>by rw[bQ,ev];cases ff ρ i <;> rfl),rfl⟩
    ·split at h
     ·rename_i hg;rw[Pm] at hg;obtain⟨d,h1,rfl⟩:=PH.mp h;obtain⟨u,k1,k2,k3⟩:=gx.con x d h1;exact⟨pd k1 (AK (gx.gl x hg.1) k2 k3 (dW hg.2).1),cJ λρ S=>by rw[bQ] <;> nofun,rfl⟩
     ·cases h
   ·obtain⟨a',h1,h⟩:=Pj.mp h;obtain⟨b',h2,h⟩:=Pj.mp h;cases h;exact⟨F8 hK (I.e _ _ h1).1 (I.e _ _ h2).1,cJ λρ S=>by rw[bQ] <;> nofun,rfl⟩
   ·obtain⟨a',h1,h⟩:=Pj.mp h;cases h;exact⟨Fi (I.e _ _ h1).1,cJ λρ S=>by rw[bQ] <;> nofun,rfl⟩
   ·obtain⟨a',h1,h⟩:=Pj.mp h;cases h;exact⟨KA (I.e _ _ h1).1,Gg (I.e _ _ h1).2.1,rfl⟩
   ·obtain⟨k1,k2⟩:=I.b _ _ _ _ h;exact⟨k1,k2.pt,rfl⟩
   ·cases h
   ·obtain⟨a',h1,h⟩:=Pj.mp h;obtain⟨b',h2,h⟩:=Pj.mp h;cases h;have hm:=zY (I.e _ _ h2).2.2;exact⟨G1 hK hu (hm _) (I.e _ _ h1).1 (I.e _ _ h2).1,Ex hK hu (hm _) (I.e _ _ h1).1 (I.e _ _ h2).1,rfl⟩
   ·cases h
   ·obtain⟨a',h1,h⟩:=Pj.mp h;obtain⟨b',h2,h⟩:=Pj.mp h;cases h;exact⟨Ed hK (I.e _ _ h1).1 (I.e _ _ h2).1,cJ λρ S=>by rw[bQ] <;> nofun,rfl⟩
   ·obtain⟨a',h1,h⟩:=Pj.mp h;obtain⟨b',h2,h⟩:=Pj.mp h;cases h;exact⟨CG hK (I.e _ _ h1).1 (I.e _ _ h2).1,cJ λρ S=>by rw[bQ] <;> nofun,rfl⟩
   ·cases h
   ·obtain⟨a',h1,h⟩:=Pj.mp h;obtain⟨b',h2,h⟩:=Pj.mp h;cases h;have k1:=λpos=>FS (pos:=pos) hK (GZ (I.e _ _ h2).2.2) (I.e _ _ h1).1 (I.e _ _ h2).1
    refine⟨k1 _,ik hK (k1 _) (λ_=>rfl) (λρ S=>?_),rfl⟩;rw[bQ,ev];cases ev F a' ρ S with
    | ok x=>
     simp only[R.ar];cases ev F b' ρ x.2 with
     | ok y=>simp only[R.ar];cases c8 x.1 y.1 <;> rfl
     | ex k=>rfl
     | bad=>rfl
    | ex k=>rfl
    | bad=>rfl
   ·obtain⟨cQ,h1,h⟩:=Pj.mp h;cases h;exact⟨HE (I.es _ _ h1).1,cJ λρ S=>by rw[bQ] <;> nofun,rfl⟩
   ·obtain⟨cQ,h1,h⟩:=Pj.mp h;cases h;exact⟨FC (I.es _ _ h1).1,cJ λρ S=>by rw[bQ] <;> nofun,rfl⟩
   ·obtain⟨k1,k2⟩:=I.c _ _ _ _ _ _ h;exact⟨k1,k2,rfl⟩
   ·
    split at h
    ·rename_i hg;simp only[Pm] at hg;obtain⟨⟨⟨h1,h2⟩,h3⟩,h4⟩:=hg;have e1:=PV h1;have e2:=PV h2;subst e1 e2;obtain⟨a',h5,h⟩:=Pj.mp h;cases h;have k1:=λp kk cp kp pos i=>EN (p:=p) (kk:=kk) (cp:=cp) (kp:=kp) (pos:=pos) (i:=i) hK gx.calm (gx.gl _ h3) (gx.bl _ (fh h4)) (bq (I.e _ _ h5).2.2 [] _) (I.e _ _ h5).1
     refine⟨k1 _ _ _ _ _ _,ik hK (k1 _ _ _ _ _ _) (λ_=>rfl) (λρ S=>?_),rfl⟩;rw[bQ,ev];cases fG F (.cons a' .nil) ρ S with
     | ok x=>simp only[R.ar];cases dJ (.maxD _) x.1 <;> rfl
     | ex k=>rfl
     | bad=>rfl
    ·cases h
   ·cases h
   ·cases h
   ·
    rename_i elt tg it ifs sc pos;split at h
    ·rename_i hk;obtain⟨ji,h1,h⟩:=Pj.mp h;obtain⟨kO,h2,h⟩:=Pj.mp h;obtain⟨oz,h3,h⟩:=Pj.mp h;obtain⟨e',h4,h⟩:=Pj.mp h;split at h
     ·rename_i hb;cases h;rw[Pm] at hb;have CP:sc.kind= .function:=PV hk;have B:=qI gx CP hb.1;have eS:(aW Γ sc).1.N.Nodup:=Po hb.2;have J:=λC s H fp=>ih (aW Γ sc).1 (eR X sc (aW Γ sc).1.N C s H fp (rW X sc (aW Γ sc).1.N (lR Φ xv) C s H fp)) Φ (eB gx B eS) (sf hX)
      refine⟨a9 (pz (xb:=rW X sc (aW Γ sc).1.N (lR Φ xv)) (body:=λacc env=>gF elt acc env) gx.calm B (jF hX.st hX.xgx) (I.i _ _ _ h1).1 (λot acc env=>p9 ..) (λC s H fp=>sE (eB gx B eS) h2) (λC s H fp=>(J C s H fp).ts _ _ h3) (λC s H fp D=>jI ((J C s H fp).e _ _ h4).1) (gL (I.i _ _ _ h1).2 _)) λσ H Q q=>yz hK B eS h2 q,cJ λρ S=>by rw[bQ] <;> nofun,rfl⟩
     ·cases h
    ·cases h
   ·
    rename_i elt tg it ifs tg2 it2 ck sc pos;split at h
    ·rename_i hk;obtain⟨ji,h1,h⟩:=Pj.mp h;obtain⟨kO,h2,h⟩:=Pj.mp h;obtain⟨oz,h3,h⟩:=Pj.mp h;obtain⟨qh,h5,h⟩:=Pj.mp h;obtain⟨kr,h6,h⟩:=Pj.mp h;obtain⟨oI,h7,h⟩:=Pj.mp h;obtain⟨e',h4,h⟩:=Pj.mp h;split at h
     ·rename_i hb;cases h;rw[Pm,Pm] at hb;have CP:sc.kind= .function:=PV hk;have B:=qI gx CP hb.1.1;have eS:(aW Γ sc).1.N.Nodup:=Po hb.1.2;have FR:∀i∈aS kr,i∉aS kO:=λi hi z=>by have:=Qa.mp hb.2 i hi;simp[z] at this
      have J:=λC s H fp=>ih (aW Γ sc).1 (eR X sc (aW Γ sc).1.N C s H fp (rW X sc (aW Γ sc).1.N (lR Φ xv) C s H fp)) Φ (eB gx B eS) (sf hX)
      refine⟨a9 (pz (xb:=rW X sc (aW Γ sc).1.N (lR Φ xv)) (body:=λacc env=>nextOf (.ListComp elt [⟨tg,it,ifs,0⟩,⟨tg2,it2,ck,0⟩] sc pos) 1 it2 acc env) gx.calm B (jF hX.st hX.xgx) (I.i _ _ _ h1).1 (λot acc env=>o7 ..) (λC s H fp=>sE (eB gx B eS) h2) (λC s H fp=>(J C s H fp).ts _ _ h3)
       (λC s H fp D=>sU gx.calm (sI hX.st) ((J C s H fp).i _ _ _ h5).1 (sE (eB gx B eS) h6) ((J C s H fp).ts _ _ h7) (jI ((J C s H fp).e _ _ h4).1) (gL ((J C s H fp).i _ _ _ h5).2 _)) (gL (I.i _ _ _ h1).2 _)) λσ H Q q=>uG hK B eS h2 h6 FR q,cJ λρ S=>by rw[bQ] <;> nofun,rfl⟩
     ·cases h
    ·cases h
   ·cases h
  ·
   unfold vK at h;split at h
   ·cases h;exact⟨Fw,rfl,λe z=>by cases z⟩
   ·obtain⟨e',h1,h⟩:=Pj.mp h;obtain⟨cQ,h2,h⟩:=Pj.mp h;cases h;obtain⟨k1,k2,k3⟩:=I.es _ _ h2;refine⟨CN (bq (I.e _ _ h1).2.2 _ _) (I.e _ _ h1).1 k1,by simp[Cs.len,k2],λe z=>?_⟩;rcases PC.mp z with rfl | z
    ·exact(I.e _ _ h1).2.2
    ·exact k3 e z
  ·
   unfold Bu at h;split at h
   ·cases h;exact λpins s σ H Q I q=>Bt pins s σ H Q I (by obtain⟨o,ρ,S,er,q⟩:=q;rw[cA] at q;exact q _ aV.refl er)
   ·obtain⟨e',h1,h⟩:=Pj.mp h;cases h;refine λpins s σ H Q I' q=>A2 (I.e _ _ h1).2.1 pins s σ H Q I' ?_
    obtain⟨o,ρ,S,er,q⟩:=q;rw[cA] at q;exact⟨o,ρ,S,er,q⟩
   ·cases h
  ·
   unfold cB at h;split at h
   ·rename_i e;have k1:=(I.e _ _ h).1;have k2:=(I.e _ _ h).2.1;refine⟨DD k1,?_⟩;cases o with
    | And=>exact zV k2
    | Or=>exact Cg k2
   ·rename_i e es jA;obtain⟨e',h1,h⟩:=Pj.mp h;obtain⟨cQ,h2,h⟩:=Pj.mp h;cases h;cases es with
    | nil=>exact(jA rfl).elim
    | cons b rest=>
     obtain⟨k1,k2⟩:=I.b o _ _ pos h2;cases o with
     | And=>exact⟨F3 (I.e _ _ h1).1 k1,Do (I.e _ _ h1).2.1 k2⟩
     | Or=>exact⟨K6 (I.e _ _ h1).1 k1,Gf (I.e _ _ h1).2.1 k2⟩
   ·cases h
  ·
   unfold cI at h;split at h
   ·rename_i f p a q;split at h
    ·rename_i hf;have ef:=PV hf;subst ef;split at h
     ·rename_i hg;rw[Pm] at hg;obtain⟨a',h1,h⟩:=Pj.mp h;cases h;exact⟨DH (gx.gl _ hg.1) (gx.bl _ (fh hg.2)) (bq (I.e _ _ h1).2.2 [] _) (I.e _ _ h1).1,rfl⟩
     ·cases h
    split at h
    ·rename_i hf;have ef:=PV hf;subst ef;split at h
     ·split at h
      ·rename_i hg;rw[Pm] at hg;obtain⟨a',h1,h⟩:=Pj.mp h;cases h;exact⟨Dc hK (gx.gl _ hg.1) (gx.bl _ (fh hg.2)) (bq (I.e _ _ h1).2.2 [] _) (I.e _ _ h1).1,rfl⟩
      ·cases h
     ·cases h
    ·obtain⟨c,h1,h⟩:=Pj.mp h;cases h;exact⟨wF hK (I.e _ _ h1).1,rfl⟩
   ·rename_i f p a b q;split at h
    ·rename_i hf;have ef:=PV hf;subst ef;split at h
     ·cases h
     ·cases h
    split at h
    ·rename_i hf;have ef:=PV hf;subst ef;split at h
     ·split at h
      ·rename_i hg;rw[Pm] at hg;obtain⟨a',h1,h⟩:=Pj.mp h;obtain⟨b',h2,h⟩:=Pj.mp h;cases h;have e2:=bq (I.e _ _ h2).2.2 [] X.env;exact⟨HY hK (gx.gl _ hg.1) (gx.bl _ (fh hg.2)) (by rw[bq (I.e _ _ h1).2.2,e2];rfl) e2 (I.e _ _ h1).1 (I.e _ _ h2).1,rfl⟩
      ·cases h
     ·cases h
    ·obtain⟨c,h1,h⟩:=Pj.mp h;cases h;exact⟨wF hK (I.e _ _ h1).1,rfl⟩
   ·obtain⟨c,h1,h⟩:=Pj.mp h;cases h;exact⟨wF hK (I.e _ _ h1).1,(I.e _ _ h1).2.2⟩
  ·
   have tr:∀{c:C},(∀ρ S,bQ F c ρ S=(ev F c ρ S).bind λx=>(dC x.1).bind λb=> .ok (b,x.2))->PE X (.Call (.Name f p) (a::as) [] pos) (bD Φ Γ F g.fr c)->PE X (.Call (.Name f p) (a::as) [] pos) (bD Φ Γ F g.fr c)/\PT X (.Call (.Name f p) (a::as) [] pos) (fg Φ Γ F c):=λhe h=>⟨h,ik hK h (λ_=>rfl) he⟩
   have IP:∀(b:BI) (cs:Cs) ρ S,bQ F (.bi b cs) ρ S=(ev F (.bi b cs) ρ S).bind λx=>(dC x.1).bind λb=> .ok (b,x.2):=λb cs ρ S=>by
    rw[bQ,ev];cases fG F cs ρ S with
    | ok x=>simp only[R.ar];cases dJ b x.1 <;> rfl
    | ex k=>rfl
    | bad=>rfl
   have M9:∀(f:Nat) (cs:Cs) (ds:List Dt) ρ S,bQ F (.call f cs ds) ρ S=(ev F (.call f cs ds) ρ S).bind λx=>(dC x.1).bind λb=> .ok (b,x.2):=λf cs ds ρ S=>by
    rw[bQ,ev];cases fG F cs ρ S with
    | ok x=>simp only[R.ar];cases F f (x.1++ds) none <;> rfl
    | ex k=>rfl
    | bad=>rfl
   have O3:∀(f:Nat) (cs:Cs) ρ S,bQ F (.callD f cs) ρ S=(ev F (.callD f cs) ρ S).bind λx=>(dC x.1).bind λb=> .ok (b,x.2):=λf cs ρ S=>by
    rw[bQ,ev];cases S.isSome with
    | false=>rfl
    | true=>
     simp only[guard_true];cases fG F cs ρ S with
     | ok x=>
      simp only[R.ar];cases x.2 with
      | none=>rfl
      | some s=>rfl
     | ex k=>rfl
     | bad=>rfl
   unfold tW at h;split at h
   ·rename_i hg;rw[Pm] at hg;have HJ:=gx.gl f hg.1;obtain⟨n1,n2,n3⟩:=dW hg.2;split at h
    ·rename_i kk np fH bf xj;split at h
     ·
      rename_i hdp;have:bf=true:=hdp;subst this;split at h
      ·rename_i y yp;split at h
       ·rename_i i hi;split at h
        ·cases h
        ·cases h
       ·cases h
      ·cases h
     ·rename_i hdp;have:bf=false:=by simpa using hdp
      subst this;split at h
      ·rename_i hn;rw[Pm] at hn;have a1:=Po hn.1;have a2:=Po hn.2;obtain⟨es,h1,h⟩:=Pj.mp h;cases h;obtain⟨k1,k2,k3⟩:=I.es _ _ h1;refine tr (M9 _ _ _) (s_call hX HJ n1 xj (Nat.sub_le _ _) ?_ (bq (k3 a Pu) _ _) (pj λe z=>k3 e (Pq _ z)) k1);rw[k2,List.length_drop,PM];omega
      ·cases h
    ·split at h
     ·rename_i hbl;have hm:=gx.bl f (fh hbl);split at h
      ·cases h
      split at h
      ·rename_i hisi;have ef:=PV hisi;subst ef;split at h
       ·rename_i t tp hnl;split at h
        ·rename_i oV;rw[Pm] at oV;obtain⟨T,h1,h⟩:=Pj.mp h;obtain⟨a',h2,h⟩:=Pj.mp h;cases h;have tn:t≠"__name__"/\(t==("__debug__":Str))=false:=by
          unfold rG at h1;split at h1
          ·rename_i e;rw[PV e];exact⟨by decide,by decide⟩
          split at h1
          ·rename_i e;rw[PV e];exact⟨by decide,by decide⟩
          split at h1
          ·rename_i e;rw[PV e];exact⟨by decide,by decide⟩
          split at h1
          ·rename_i e;rw[PV e];exact⟨by decide,by decide⟩
          split at h1
          ·rename_i e;rw[PV e];exact⟨by decide,by decide⟩
          ·cases h1
         exact tr (IP _ _) (Ie hK HJ hm (gx.gl t oV.1) (gx.bl t (fh oV.2)) h1 tn.1 tn.2 (bq (I.e _ _ h2).2.2 _ _) (I.e _ _ h2).1)
        ·cases h
       ·cases h
      ·have regular:∀{c:C},((qT f (as.length + 1)).bind λi=>(vK n g Γ (a::as)).bind λes=>some (C.bi i es))=some c->PE X (.Call (.Name f p) (a::as) [] pos) (bD Φ Γ F g.fr c)/\PT X (.Call (.Name f p) (a::as) [] pos) (fg Φ Γ F c):=λ {c} h=>by obtain⟨b,h1,h⟩:=Pj.mp h;obtain⟨es,h2,h⟩:=Pj.mp h;cases h;obtain⟨k1,k2,k3⟩:=I.es _ _ h2;exact tr (IP _ _) (J1 hK gx HJ hm hg.2 h1 (bq (k3 a Pu) _ _) (pj λe z=>k3 e (Pq _ z)) k1)
       split at h
       ·rename_i r rp b rq;split at h
        ·cases h
        split at h
        ·rename_i hr;have er:=PV hr;subst er;split at h
         ·rename_i oV;rw[Pm,Pm] at oV;have ef:=PV oV.2;subst ef;obtain⟨b',h1,h9⟩:=Pj.mp h;cases h9;exact tr (IP _ _) (Ct hK gx.calm gx.un HJ hm (gx.gl _ oV.1.1) (gx.bl _ (fh oV.1.2)) (bq (I.e _ _ h1).2.2 [] _) (I.e _ _ h1).1)
         ·cases h
        ·exact regular h
       ·rename_i r rp b c rq zz;split at h
        ·rename_i hr;have er:=PV hr;subst er;split at h
         ·rename_i oV;rw[Pm,Pm] at oV;have ef:=PV oV.2;subst ef;obtain⟨cQ,h1,h9⟩:=Pj.mp h;cases h9;obtain⟨k1,k2,k3⟩:=I.es _ _ h1;have hb:=k3 b (by simp);have hc:=k3 c (by simp);have e2:=bq hc [] X.env
          match cQ,k1,k2 with
          | .cons b' (.cons c' .nil),k1,k2=>exact tr (IP _ _) (C3 hK gx.calm HJ hm (gx.gl _ oV.1.1) (gx.bl _ (fh oV.1.2)) (by rw[bq hb,e2];rfl) e2 k1)
          | .nil,k1,k2=>exact absurd k2 (by simp[Cs.len])
          | .cons b' .nil,k1,k2=>exact absurd k2 (by simp[Cs.len])
          | .cons b' (.cons c' (.cons d' r')),k1,k2=>exact absurd k2 (by simp[Cs.len])
         ·cases h
        ·exact regular h
       ·exact regular h
     ·cases h
   ·cases h
end
structure OI (Φ:Fm) (W:Addr->Prop) (o:Ow):Prop where
 w:o.W=W
 d:∀a,Φ.d0=some a->o.dr=some a
structure SO (Φ:Fm) (Γ:Gm) (W:Addr->Prop) (o:Ow) (H:Hp) (ρ':ak) (S':Sx) (σ':L2.St) (H':Hp):Prop where
 ex:∃o',OI Φ W o'/\ER Φ Γ o' ρ' S' σ' H'/\∀b,o'.A b->o.A b\/H b=none
 ext:aV o.A H H'
 al:∀b x,H b=some x->∃y,H' b=some y
structure RO (Φ:Fm) (W:Addr->Prop) (fF:Bool) (d:Dt) (S':Sx) (v:V) (H':Hp):Prop where
 val:RV Φ.K W H' v d
 ent:aV (λb=>Φ.d0=some b) Φ.H0 H'
 drw:∀a,Φ.d0=some a->∃ns:List Int,S'=some ns/\H' a=some (.lst (ns.map V.int))
 eW:fF=true->∀ds,d= .lst ds->∃a xs,v= .ref a/\Φ.H0 a=none/\H' a=some (.lst xs)/\ai Φ.K (λb=>W b\/b=a) H' xs ds
def dD (Φ:Fm) (Γ:Gm) (W:Addr->Prop) (fF:Bool) (o:Ow) (H:Hp) (D:Ends) (p:Fl×ak×Sx):Prop:=match p.1 with
 | .next=>∀σ' H',SO Φ Γ W o H p.2.1 p.2.2 σ' H'->D.nx σ' H'
 | .brk=>∀σ' H',SO Φ Γ W o H p.2.1 p.2.2 σ' H'->D.bk σ' H'
 | .cnt=>∀σ' H',SO Φ Γ W o H p.2.1 p.2.2 σ' H'->D.ct σ' H'
 | .ret d=>∀v H',RO Φ W fF d p.2.2 v H'->D.rt v H'
def k8 (Φ:Fm) (Γ:Gm) (F:FT) (W:Addr->Prop) (fF:Bool) (t:T):TS:=λD σ H=>∃o ρ S,OI Φ W o/\ER Φ Γ o ρ S σ H/\mR Φ.Ek (ex F t ρ S) (dD Φ Γ W fF o H D)
def qd (Φ:Fm) (Γ:Gm) (F:FT) (W:Addr->Prop) (fF:Bool) (t:Ts):TS:=λD σ H=>∃o ρ S,OI Φ W o/\ER Φ Γ o ρ S σ H/\mR Φ.Ek (aR F t ρ S) (dD Φ Γ W fF o H D)
def bA {X:Cx} {e:Stmt} {t t':TS} (h:PS X e t) (hi:∀D σ H,t' D σ H->t D σ H):PS X e t':=λpins s σ H D I q=>h pins s σ H D I (hi D σ H q)
def tI {X:Cx} {e:List Stmt} {t t':TS} (h:qM X e t) (hi:∀D σ H,t' D σ H->t D σ H):qM X e t':=λpins s σ H D I q=>h pins s σ H D I (hi D σ H q)
section
variable {X:Cx} {Φ:Fm} {Γ:Gm} {F:FT} {g:G} {W:Addr->Prop} {fF:Bool} {o:Ow} {ρ:ak} {S:Sx} {σ:L2.St} {H H':Hp}
def ER.dA (er:ER Φ Γ o ρ S σ H) {H1:Hp} (e:aV o.d H H1):aV o.A H H1:=e.mono er.da
def ER.B9 {S1:Sx} {ρ1:ak} {σ1:L2.St} {H1:Hp} (aB:ER Φ Γ o ρ1 S1 σ1 H1) (e:aV o.d H H1):∀b x,H b=some x->∃y,H1 b=some y:=λb x h=>e.al h λz=>aB.al b (aB.da b z)
def SO.iM {S':Sx} {ρ':ak} {σ':L2.St} (oi:OI Φ W o) (er:ER Φ Γ o ρ' S' σ' H') (e:aV o.d H H'):SO Φ Γ W o H ρ' S' σ' H':=⟨⟨o,oi,er,λb z=> .inl z⟩,e.mono er.da,er.B9 e⟩
theorem SO.go {o':Ow} {H1 H2:Hp} {ρ2:ak} {S2:Sx} {σ2:L2.St} (e:aV o.A H H1) (hA:∀b,o'.A b->o.A b\/H b=none) (Br:∀b x,H b=some x->∃y,H1 b=some y) (h:SO Φ Γ W o' H1 ρ2 S2 σ2 H2):SO Φ Γ W o H ρ2 S2 σ2 H2:=by
 obtain⟨⟨o2,IU,f7,Fs⟩,e2,a2⟩:=h;refine⟨⟨o2,IU,f7,λb z=>?_⟩,⟨λb x h n=>?_,λb xs h=>e2.tp _ _ (e.tp _ _ h)⟩,λb x h=>?_⟩
 ·rcases Fs b z with q | q
  ·exact hA b q
  ·refine .inr ?_;cases hb:H b with
   | none=>rfl
   | some x=>obtain⟨y,hy⟩:=Br b x hb;rw[q] at hy;cases hy
 ·refine e2.kp _ _ (e.kp _ _ h n) λz=>?_
  rcases hA b z with q | q
  ·exact n q
  ·rw[h] at q;cases q
 ·obtain⟨y,hy⟩:=Br b x h;exact a2 b y hy
def tm {fr:Nat->Bool} {c:C} {d:Dt} {v:V} {H1:Hp} (h:bJ c d=true) (eo:EO Φ.K fr o c H d v H1):RV Φ.K o.A H1 v d:=by
 unfold bJ at h;rw[Qe] at h;rcases h with h | h
 ·exact eo.cW (Po h)
 ·exact eo.val.gk h
def Ga {i:Nat} {c:C} {st:Stmt} (hp:plainS Γ i=true) (h:PS X st (qr (bD Φ Γ F g.fr c) (dU i))):PS X st (k8 Φ Γ F W fF (.asg i c)):=bA h λD σ H q=>by obtain⟨o,ρ,S,oi,er,q⟩:=q;unfold ex at q;rw[ab] at q;refine⟨o,ρ,S,er,ae q λp _ q v H1 eo aB=>?_⟩;obtain⟨gs,q⟩:=aN q;exact q _ _ (SO.iM oi (aB.set hp (tm gs eo)) eo.ext)
def ER.own {S1:Sx} {H1:Hp} {fr:Nat->Bool} {c:C} {d:Dt} {v:V} {i:Nat} (oi:OI Φ W o) (er:ER Φ Γ o ρ S σ H) (aB:ER Φ Γ o ρ S1 σ H1) (hm:eM Γ i=true) (hδ:Γ.δ≠some i) (hf:fresh fr c=true) (hl:ml c d=true) (eo:EO Φ.K fr o c H d v H1):
  ∃o',OI Φ W o'/\ER Φ Γ o' (ρ.set i (some d)) S1 (σ.set i (some v)) H1/\∀b,o'.A b->o.A b\/H b=none:=by
 by_cases hd:∃ds,d= .lst ds
 ·obtain⟨ds,rfl⟩:=hd;obtain⟨a,xs,rfl,h1,h2,h3,h4⟩:=eo.eW hf ds rfl;have h4:ai Φ.K (λb=>o.A b\/b=a) H1 xs ds:=by
   unfold ml at hl;rcases Bool.or_eq_true_iff.mp hl with l | l
   ·exact h4 (Po l)
   ·exact h3.gI l
  have nA:¬o.A a:=λz=>by obtain⟨y,hy⟩:=er.al a z;rw[h1] at hy;cases hy
  have h0:Φ.H0 a=none:=by
   cases q:Φ.H0 a with
   | none=>rfl
   | some x=>
    by_cases zu:Φ.d0=some a
    ·exact absurd (er.da a (oi.d a zu)) nA
    ·rw[er.ent.kp a x q zu] at h1;cases h1
  have av:∀b,(o.A b\/b=a)->o.A b\/H b=none:=λb z=>z.elim .inl λe=> .inr (by rw[e];exact h1)
  have dA:∀b,o.d b->(o.A b\/b=a):=λb z=> .inl (er.da b z)
  refine⟨⟨o.W,λb=>o.A b\/b=a,o.dr⟩,⟨oi.w,oi.d⟩,⟨?_,λb z=> .inl (er.wa b z),λb z=> .inl (er.da b z),λb z=>?_,λj e he=>?_,λj j' b e e' m m' k1 k2 k3 k4=>?_,aB.drw,aB.drn,λj b hj hb=>?_,aB.dr0,aB.ent⟩,av⟩
  ·rw[List.length_set,List.length_set];exact er.len
  ·rcases z with z | z
   ·exact aB.al b z
   ·rw[z];exact⟨_,h2⟩
  ·by_cases hj:j=i
   ·subst hj;rw[List.getElem?_set] at he;simp only[if_true] at he;split at he
    ·rename_i cz;cases he;refine⟨.ref a,by rw[Qj (by rw[er.len];exact cz)],?_⟩;rw[if_pos hm];exact⟨a,xs,rfl,h2,.inr rfl,λz=>nA (er.wa a z),λz=>nA (er.da a z),h0,h4⟩
    ·cases he
   ·rw[PL (Ne.symm hj)] at he;obtain⟨w,k1,k2⟩:=er.val j e he;refine⟨w,by rw[PL (Ne.symm hj)];exact k1,?_⟩;by_cases hmj:eM Γ j=true
    ·rw[if_pos hmj] at k2 ⊢;cases e with
     | lst es=>obtain⟨b,ys,e1,e2,e3,e4,e5,e6,e7⟩:=k2;exact⟨b,ys,e1,eo.ext.kp _ _ e2 e5,.inl e3,e4,e5,e6,(e7.bz av).mono eo.ext dA λ_ z=>z⟩
     | _=>exact(RV.bz av k2).mono eo.ext dA λ_ z=>z
    ·rw[if_neg hmj] at k2 ⊢;exact(k2.bz av).mono eo.ext dA λ_ z=>z
  ·
   have other:∀{j:Nat} {e:List Dt} {b:Addr},j≠i->eM Γ j=true->(ρ.set i (some (.lst ds)))[j]?=some (some (.lst e))->(σ.set i (some (.ref a)))[j]?=some (some (.ref b))->b≠a/\ρ[j]?=some (some (.lst e))/\σ[j]?=some (some (.ref b)):=λ {j e b} hj m k1 k3=>by rw[PL (Ne.symm hj)] at k1 k3;obtain⟨w,n1,n2⟩:=er.val j _ k1;rw[if_pos m] at n2;obtain⟨b',ys,e1,e2,_⟩:=n2;rw[k3] at n1;cases n1;cases e1;refine⟨λz=>?_,k1,k3⟩;rw[z,h1] at e2;cases e2
   by_cases hj:j=i
   ·by_cases zt:j'=i
    ·rw[hj,zt]
    ·obtain⟨n,_,_⟩:=other zt m' k2 k4;subst hj;have cz:j < σ.length:=by have:=(Pp.mp k3).1;rw[List.length_set] at this;exact this
     rw[Qj cz] at k3;cases k3;exact absurd rfl n
   ·obtain⟨n,p1,p2⟩:=other hj m k1 k3;by_cases zt:j'=i
    ·subst zt;have cz:j' < σ.length:=by have:=(Pp.mp k4).1;rw[List.length_set] at this;exact this
     rw[Qj cz] at k4;cases k4;exact absurd rfl n
    ·obtain⟨_,p3,p4⟩:=other zt m' k2 k4;exact er.inj j j' b e e' m m' p1 p3 p2 p4
  ·rw[PL (λz=>hδ (by rw[z];exact hj))];exact aB.drs j b hj hb
 ·
  have nl:∀e,d≠ .lst e:=λe z=>hd ⟨e,z⟩
  have hv:RV Φ.K o.A H1 v d:=by
   unfold ml at hl;rcases Bool.or_eq_true_iff.mp hl with l | l
   ·exact eo.cW (Po l)
   ·cases d with
    | lst ds=>exact absurd rfl (nl ds)
    | _=>exact eo.val.gk l
  refine⟨o,oi,⟨?_,aB.wa,aB.da,aB.al,λj e he=>?_,λj j' b e e' m m' k1 k2 k3 k4=>?_,aB.drw,aB.drn,λj b hj hb=>?_,aB.dr0,aB.ent⟩,λb z=> .inl z⟩
  ·rw[List.length_set,List.length_set];exact er.len
  ·by_cases hj:j=i
   ·subst hj;rw[List.getElem?_set] at he;simp only[if_true] at he;split at he
    ·rename_i cz;cases he;refine⟨v,by rw[Qj (by rw[er.len];exact cz)],?_⟩;rw[if_pos hm];cases d with
     | lst ds=>exact absurd rfl (nl ds)
     | _=>exact hv
    ·cases he
   ·rw[PL (Ne.symm hj)] at he;obtain⟨w,k1,k2⟩:=aB.val j e he;exact⟨w,by rw[PL (Ne.symm hj)];exact k1,k2⟩
  ·have other:∀{j:Nat} {e:List Dt},(ρ.set i (some d))[j]?=some (some (.lst e))->j≠i:=λ {j e} k1 z=>by
    subst z;rw[List.getElem?_set] at k1;simp only[if_true] at k1;split at k1
    ·cases k1;exact nl e rfl
    ·cases k1
   have n1:=other k1;have n2:=other k2;rw[PL (Ne.symm n1)] at k1 k3;rw[PL (Ne.symm n2)] at k2 k4;exact aB.inj j j' b e e' m m' k1 k2 k3 k4
  ·rw[PL (λz=>hδ (by rw[z];exact hj))];exact aB.drs j b hj hb
def CI {i:Nat} {c:C} {st:Stmt} (hm:eM Γ i=true) (hδ:Γ.δ≠some i) (hf:fresh g.fr c=true) (h:PS X st (qr (bD Φ Γ F g.fr c) (dU i))):PS X st (k8 Φ Γ F W fF (.asgM i c)):=bA h λD σ H q=>by obtain⟨o,ρ,S,oi,er,q⟩:=q;unfold ex at q;rw[ab] at q;refine⟨o,ρ,S,er,ae q λp _ q v H1 eo aB=>?_⟩;obtain⟨gs,q⟩:=aN q;exact q _ _ ⟨ER.own oi er aB hm hδ hf gs eo,er.dA eo.ext,aB.B9 eo.ext⟩
end
section
variable {X:Cx} {Φ:Fm} {Γ:Gm} {F:FT} {g:G} {W:Addr->Prop} {fF:Bool} {o:Ow} {ρ:ak} {S:Sx} {σ:L2.St} {H H':Hp}
def jE {Ek:Nat->Prop} {ρ:ak} {i:Nat} {P:List Dt->Prop} (h:mR Ek (oZ ρ i) P):∃ds,ρ[i]?=some (some (.lst ds))/\P ds:=by
 unfold oZ at h;split at h
 ·exact⟨_,by assumption,h⟩
 ·exact h.elim
def xO {a:Addr} {u:HO}:∀b x,H b=some x->∃y,upd H a u b=some y:=by grind [az,ao]
def nX {ρ:ak} {i:Nat} (h:isLE ρ i=true):∃ds,ρ[i]?=some (some (.lst ds)):=by
 unfold isLE at h;split at h
 ·exact⟨_,by assumption⟩
 ·cases h
def ER.chg {i:Nat} {a:Addr} {ds es:List Dt} {xs ys:List V} (er:ER Φ Γ o ρ S σ H) (hm:eM Γ i=true) (hr:ρ[i]?=some (some (.lst ds))) (hs:σ[i]?=some (some (.ref a))) (hx:H a=some (.lst xs)) (hy:ai Φ.K o.A H ys es):
  ER Φ Γ o (ρ.set i (some (.lst es))) S σ (upd H a (.lst ys))/\aV o.A H (upd H a (.lst ys))/\∀b x,H b=some x->∃y,upd H a (.lst ys) b=some y:=by
 obtain⟨v,h1,h2⟩:=er.val i _ hr;rw[if_pos hm] at h2;rw[hs] at h1;cases h1;obtain⟨b,zs,e1,e2,e3,e4,e5,e6,e7⟩:=h2;cases e1;have up:aV (λb=>b=a) H (upd H a (.lst ys)):=⟨λb o h n=>by rw[ao n];exact h,Mx.kz hx⟩;have sub:∀b,b=a->o.A b:=λb z=>by rw[z];exact e3
 refine⟨⟨by rw[List.length_set];exact er.len,er.wa,er.da,λb hb=>?_,λj d hd=>?_,λj j' b d d' m m' k1 k2 k3 k4=>?_,λb hb=>?_,er.drn,er.drs,er.dr0,?_⟩,up.mono sub,xO⟩
 ·obtain⟨x,hx⟩:=er.al b hb;exact xO b x hx
 ·by_cases hj:j=i
  ·subst hj;rw[List.getElem?_set] at hd;simp only[if_true] at hd;split at hd
   ·cases hd;refine⟨.ref a,hs,?_⟩;rw[if_pos hm];exact⟨a,ys,rfl,az,e3,e4,e5,e6,hy.mono up sub λ_ z=>z⟩
   ·cases hd
  ·rw[PL (Ne.symm hj)] at hd;obtain⟨w,k1,k2⟩:=er.val j d hd;refine⟨w,k1,?_⟩;by_cases hmj:eM Γ j=true
   ·rw[if_pos hmj] at k2 ⊢;cases d with
    | lst dl=>obtain⟨b,Ni,n1,n2,n3,n4,n5,n6,n7⟩:=k2;refine⟨b,Ni,n1,up.kp _ _ n2 (λz=>?_),n3,n4,n5,n6,n7.mono up sub λ_ z=>z⟩;subst n1 z;exact hj (er.inj j i b dl ds hmj hm hd hr k1 hs)
    | _=>exact RV.mono up sub (λ_ z=>z) k2
   ·rw[if_neg hmj] at k2 ⊢;exact k2.mono up sub λ_ z=>z
 ·have same:∀{j:Nat} {d:List Dt},(ρ.set i (some (.lst es)))[j]?=some (some (.lst d))->∃d',ρ[j]?=some (some (.lst d')):=λ {j d} q=>by
   by_cases hj:j=i
   ·subst hj;exact⟨ds,hr⟩
   ·rw[PL (Ne.symm hj)] at q;exact⟨d,q⟩
  obtain⟨d1,q1⟩:=same k1;obtain⟨d2,q2⟩:=same k2;exact er.inj j j' b d1 d2 m m' q1 q2 k3 k4
 ·obtain⟨ns,n1,n2⟩:=er.drw b hb;exact⟨ns,n1,up.kp _ _ n2 λz=>e5 (by rw[<-z];exact hb)⟩
 ·refine⟨λb x h n=>up.kp _ _ (er.ent.kp b x h n) λz=>?_,λb xs h=>up.tp _ _ (er.ent.tp b xs h)⟩;subst z;rw[h] at e6;cases e6
def gA {i:Nat} {ds:List Dt} (er:ER Φ Γ o ρ S σ H) (hm:eM Γ i=true) (hr:ρ[i]?=some (some (.lst ds))):∃a xs,σ[i]?=some (some (.ref a))/\H a=some (.lst xs)/\ai Φ.K o.A H xs ds:=by obtain⟨v,h1,h2⟩:=er.val i _ hr;rw[if_pos hm] at h2;obtain⟨a,xs,e1,e2,e3,e4,e5,e6,e7⟩:=h2;subst e1;exact⟨a,xs,h1,e2,e7⟩
def F0 {i:Nat} {c:C} {st:Stmt} (hm:eM Γ i=true) (h:PS X st (pV (Ki X.K "list" ua (lA i) (pX (bD Φ Γ F g.fr c) wx)))):PS X st (k8 Φ Γ F W fF (.app i c)):=bA h λD σ H q=>by obtain⟨o,ρ,S,oi,er,q⟩:=q;unfold ex at q;obtain⟨gl,q⟩:=aN q;obtain⟨ds,hr⟩:=nX gl;obtain⟨a,xs,h1,h2,h3⟩:=gA er hm hr;rw[ab] at q;refine⟨.ref a,h1,.inl ⟨rfl,_,c6.of h2⟩,o,ρ,S,er,ae q λp _ q v H1 eo aB=>?_⟩;obtain⟨gs,q⟩:=aN q;rw[ab] at q;obtain⟨vM,e1,q⟩:=jE q;rw[hr] at e1;cases e1;obtain⟨gl,q⟩:=aN q;obtain⟨a',nC,iJ,l6,BS⟩:=gA aB hm hr;rw[h1] at iJ;cases iJ;have ib:=bN;have tF:=sizeLine_eq;have OY:lim=1000000:=rfl;have wL:=Po gl;refine⟨a,nC,v,rfl,rfl,l6,by rw[BS.length];omega,?_⟩;obtain⟨k1,k2,k3⟩:=aB.chg hm hr h1 l6 (BS.append (ai.cons (tm gs eo) ai.nil));exact q _ _ (SO.go (er.dA eo.ext) (λb z=> .inl z) (aB.B9 eo.ext) ⟨⟨o,oi,k1,λb z=> .inl z⟩,k2,k3⟩)
def G0 {i:Nat} {c:C} {st:Stmt} (hm:eM Γ i=true) (h:PS X st (pV (Ki X.K "list" uk (lA i) (pX (bD Φ Γ F g.fr c) wx)))):PS X st (k8 Φ Γ F W fF (.xtd i c)):=bA h λD σ H q=>by
 obtain⟨o,ρ,S,oi,er,q⟩:=q;unfold ex at q;obtain⟨gl,q⟩:=aN q;obtain⟨ds,hr⟩:=nX gl;obtain⟨a,xs,h1,h2,h3⟩:=gA er hm hr;rw[ab] at q;refine⟨.ref a,h1,.inl ⟨rfl,_,c6.of h2⟩,o,ρ,S,er,ae q λp _ q v H1 eo aB=>?_⟩;obtain⟨gs,q⟩:=aN q;rw[ab] at q;obtain⟨vM,e1,q⟩:=jE q;rw[hr] at e1;cases e1;obtain⟨a',nC,iJ,l6,BS⟩:=gA aB hm hr;rw[h1] at iJ;cases iJ;cases hd:p.1 with
 | lst es=>rw[hd] at q eo;obtain⟨gl,q⟩:=aN q;obtain⟨b,zs,rfl,f1,f2⟩:=eo.mX (Po gs);have ib:=bN;have wL:=Po gl;refine⟨a,b,nC,zs,rfl,rfl,l6,f1,by rw[BS.length,f2.length];omega,?_⟩;obtain⟨k1,k2,k3⟩:=aB.chg hm hr h1 l6 (BS.append f2);exact q _ _ (SO.go (er.dA eo.ext) (λb z=> .inl z) (aB.B9 eo.ext) ⟨⟨o,oi,k1,λb z=> .inl z⟩,k2,k3⟩)
 | _=>rw[hd] at q;exact q.elim
def HZ {i:Nat} {st:Stmt} (hm:eM Γ i=true) (h:PS X st (pV (Ge X.K "list" xN (lA i)))):PS X st (k8 Φ Γ F W fF (.clr i)):=bA h λD σ H q=>by obtain⟨o,ρ,S,oi,er,q⟩:=q;unfold ex at q;rw[ab] at q;obtain⟨ds,hr,q⟩:=jE q;obtain⟨a,xs,h1,h2,h3⟩:=gA er hm hr;obtain⟨k1,k2,k3⟩:=er.chg hm hr h1 h2 (ai.nil (K:=Φ.K) (A:=o.A));exact⟨.ref a,h1,.inl ⟨rfl,_,c6.of h2⟩,a,xs,rfl,rfl,h2,q _ _ ⟨⟨o,oi,k1,λb z=> .inl z⟩,k2,k3⟩⟩
def DN {i:Nat} {k v:C} {st:Stmt} (hm:eM Γ i=true) (h:PS X st (qr (bD Φ Γ F g.fr v) (GD (lA i) (bD Φ Γ F g.fr k) B5))):PS X st (k8 Φ Γ F W fF (.yH i k v)):=bA h λD σ H q=>by
 obtain⟨o,ρ,S,oi,er,q⟩:=q;unfold ex at q;obtain⟨gl,q⟩:=aN q;obtain⟨ds,hr⟩:=nX gl;obtain⟨a,xs,h1,h2,h3⟩:=gA er hm hr;rw[ab] at q;refine⟨o,ρ,S,er,ae q λp _ q x H1 eo aB=>?_⟩;rw[ab] at q;refine⟨.ref a,h1,o,ρ,p.2,aB,ae q λp2 _ q y H2 eo2 f7=>?_⟩;obtain⟨gs,q⟩:=aN q;rw[ab] at q;obtain⟨vM,e1,q⟩:=jE q;rw[hr] at e1;cases e1;obtain⟨a',nC,iJ,l6,BS⟩:=gA f7 hm hr;rw[h1] at iJ;cases iJ;cases hd:p2.1 with
 | int n=>
  rw[hd] at q eo2;simp only at q;cases hj:ox ds.length n with
  | none=>rw[hj] at q;exact q.elim
  | some j=>
   rw[hj] at q;have hx:RV Φ.K o.A H2 x p.1:=by
    unfold bJ at gs;rw[Qe] at gs;obtain⟨k1,k2,k3⟩:=eo.keep eo2.ext er.gD;rcases gs with gs | gs
    ·exact k2 (Po gs)
    ·exact k1.gk gs
   refine⟨a,nC,n,j,rfl,eo2.val.int_inv,l6,by rw[BS.length];exact hj,?_⟩;obtain⟨k1,k2,k3⟩:=f7.chg hm hr h1 l6 (BS.set j hx);exact q _ _ (SO.go (er.dA (eo.ext.trans eo2.ext)) (λb z=> .inl z) (f7.B9 (eo.ext.trans eo2.ext)) ⟨⟨o,oi,k1,λb z=> .inl z⟩,k2,k3⟩)
 | _=>rw[hd] at q;exact q.elim
def Gd {c:C} {st:Stmt} (h:PS X st (pV (bD Φ Γ F g.fr c))):PS X st (k8 Φ Γ F W fF (.Ky c)):=bA h λD σ H q=>by obtain⟨o,ρ,S,oi,er,q⟩:=q;unfold ex at q;rw[ab] at q;exact⟨o,ρ,S,er,ae q λp _ q v H1 eo aB=>q _ _ (SO.iM oi aB eo.ext)⟩
def ER.h0 {a:Addr} (oi:OI Φ W o) (er:ER Φ Γ o ρ S σ H) (h:H a=none):Φ.H0 a=none:=by
 cases q:Φ.H0 a with
 | none=>rfl
 | some x=>
  by_cases zu:Φ.d0=some a
  ·obtain⟨y,hy⟩:=er.al a (er.da a (oi.d a zu));rw[h] at hy;cases hy
  ·rw[er.ent.kp a x q zu] at h;cases h
def BY {c:C} {st:Stmt} (hf:fF=true->fresh g.fr c=true) (h:PS X st (Dd (bD Φ Γ F g.fr c))):PS X st (k8 Φ Γ F W fF (.ret c)):=bA h λD σ H q=>by
 obtain⟨o,ρ,S,oi,er,q⟩:=q;unfold ex at q;rw[ab] at q;refine⟨o,ρ,S,er,ae q λp MV q v H1 eo aB=>?_⟩;have hw:∀b,W b->o.wd b:=λb z=> .inl (by rw[oi.w];exact z)
 refine q _ _ ⟨eo.val.weak hw,aB.ent,λa ha=>aB.drw a (oi.d a ha),λhfF ds ed=>?_⟩;obtain⟨a,xs,h1,h2,h3,h4,_⟩:=eo.eW (hf hfF) ds ed;exact⟨a,xs,h1,er.h0 oi h2,h3,h4.weak λb z=>z.imp (hw b) id⟩
def Ee {i:Nat} {st:Stmt} (hm:eM Γ i=true) (h:PS X st (Dd (lA i))):PS X st (k8 Φ Γ F W fF (.ret (.mvr i))):=bA h λD σ H q=>by
 obtain⟨o,ρ,S,oi,er,q⟩:=q;unfold ex ev at q;rw[ab,ab] at q;obtain⟨d,hd,q⟩:=nv q;obtain⟨v,k1,k2⟩:=er.val i d hd;rw[if_pos hm] at k2;have hw:∀b,W b->o.wd b:=λb z=> .inl (by rw[oi.w];exact z)
 have NF:∀b,W b->o.A b:=λb z=>er.wa b (by rw[oi.w];exact z)
 refine⟨v,k1,q _ _ ⟨(k2.val er.wa er.da).weak hw,er.ent,λa ha=>er.drw a (oi.d a ha),λhfF ds ed=>?_⟩⟩;simp only at ed;subst ed;obtain⟨a,xs,e1,e2,e3,e4,e5,e6,e7⟩:=k2;exact⟨a,xs,e1,e6,e2,e7.weak λb z=>z.elim (NF b) λy=>by rw[y];exact e3⟩
def C4 {st:Stmt} (h:PS X st BQ):PS X st (k8 Φ Γ F W fF .retN):=bA h λD σ H q=>by obtain⟨o,ρ,S,oi,er,q⟩:=q;exact q _ _ ⟨RV.gE,er.ent,λa ha=>er.drw a (oi.d a ha),λ_ ds ed=>by cases ed⟩
def EC {st:Stmt} (h:PS X st xA):PS X st (k8 Φ Γ F W fF .pas):=bA h λD σ H q=>by obtain⟨o,ρ,S,oi,er,q⟩:=q;exact q _ _ (SO.iM oi er aV.refl)
def Fo {st:Stmt} (h:PS X st wo):PS X st (k8 Φ Γ F W fF .brk):=bA h λD σ H q=>by obtain⟨o,ρ,S,oi,er,q⟩:=q;exact q _ _ (SO.iM oi er aV.refl)
def HB {st:Stmt} (h:PS X st BZ):PS X st (k8 Φ Γ F W fF .cnt):=bA h λD σ H q=>by obtain⟨o,ρ,S,oi,er,q⟩:=q;exact q _ _ (SO.iM oi er aV.refl)
theorem dD.go {o':Ow} {H1:Hp} {D D':Ends} {p:Fl×ak×Sx} (e:aV o.A H H1) (hA:∀b,o'.A b->o.A b\/H b=none) (Br:∀b x,H b=some x->∃y,H1 b=some y)
  (hn:∀σ' H',D.nx σ' H'->D'.nx σ' H') (hb:∀σ' H',D.bk σ' H'->D'.bk σ' H') (hc:∀σ' H',D.ct σ' H'->D'.ct σ' H') (hr:∀v H',D.rt v H'->D'.rt v H') (h:dD Φ Γ W fF o H D p):dD Φ Γ W fF o' H1 D' p:=by grind [dD,SO.go]
def Eg:qM X [] (qd Φ Γ F W fF .nil):=tI AO λD σ H q=>by obtain⟨o,ρ,S,oi,er,q⟩:=q;exact q _ _ (SO.iM oi er aV.refl)
def A3 {st:Stmt} {zx:List Stmt} {t:T} {ts:Ts} (h1:PS X st (k8 Φ Γ F W fF t)) (h2:qM X zx (qd Φ Γ F W fF ts)):qM X (st::zx) (qd Φ Γ F W fF (.cons t ts)):=tI (xX h1 h2) λD σ H q=>by
 obtain⟨o,ρ,S,oi,er,q⟩:=q;unfold aR at q;rw[ab] at q;refine⟨o,ρ,S,oi,er,ae q λp _ q=>?_⟩;unfold dD;cases hp:p.1 with
 | next=>rw[hp] at q;intro σ1 H1 so;obtain⟨⟨o1,OD,aB,NQ⟩,e1,a1⟩:=so;exact⟨o1,p.2.1,p.2.2,OD,aB,ae q λp2 _ q=>dD.go e1 NQ a1 (λ_ _ z=>z) (λ_ _ z=>z) (λ_ _ z=>z) (λ_ _ z=>z) q⟩
 | brk=>rw[hp] at q;exact q
 | cnt=>rw[hp] at q;exact q
 | ret d=>rw[hp] at q;exact q
def Hk {t:C} {a b:Ts} {st:Stmt} (h:PS X st (Ic (fg Φ Γ F t) (qd Φ Γ F W fF a) (qd Φ Γ F W fF b))):PS X st (k8 Φ Γ F W fF (.ifs t a b)):=bA h λD σ H q=>by
 obtain⟨o,ρ,S,oi,er,q⟩:=q;unfold ex at q;rw[ab] at q;refine⟨o,ρ,S,er,ae q λp _ q H1 e1 aB=>?_⟩;have go:∀{ts:Ts},mR Φ.Ek (aR F ts ρ p.2) (dD Φ Γ W fF o H D)->qd Φ Γ F W fF ts D σ H1:=λq=>⟨o,ρ,p.2,oi,aB,ae q λp2 _ q=>dD.go (er.dA e1) (λb z=> .inl z) (aB.B9 e1) (λ_ _ z=>z) (λ_ _ z=>z) (λ_ _ z=>z) (λ_ _ z=>z) q⟩
 cases hp:p.1 with
 | true=>rw[hp] at q;exact FY (go q)
 | false=>rw[hp] at q;exact G2 (go q)
def Fz {tg:Tg} {it:l0} {b:Ts} {st:Stmt} (hK:Φ.K=X.K) (hp:∀i∈aS tg,plainS Γ i=true) (h:PS X st (FB (nL Φ Γ F it) (BV X.K tg) (qd Φ Γ F W fF b))):PS X st (k8 Φ Γ F W fF (.fr tg it b)):=bA h λD σ H q=>by
 obtain⟨o,ρ,S,oi,er,q⟩:=q;unfold ex at q;rw[ab] at q;refine⟨o,ρ,S,er,ae q λp _ q J H1 io aB=>?_⟩;obtain⟨gs,q⟩:=aN q;have wk:Wk Φ.K o.A o.A J H1 p.1:=(Bool.or_eq_true_iff.mp gs).elim (λz=>io.w0 (Po z)) io.w2;refine⟨λi m σ2 H2=>m=p.1.length - i/\i<=p.1.length/\∃o2 ρ2 S2,OI Φ W o2/\ER Φ Γ o2 ρ2 S2 σ2 H2/\aV o.A H1 H2/\(∀b,o2.A b->o.A b\/H1 b=none)/\(∀b x,H1 b=some x->∃y,H2 b=some y)/\mR Φ.Ek (forL tg (aR F b) (p.1.drop i) ρ2 S2) (dD Φ Γ W fF o H D),
  ⟨_,rfl,Nat.zero_le _,o,ρ,p.2,oi,aB,aV.refl,λb z=> .inl z,λb x hx=>⟨x,hx⟩,q⟩,?_⟩
 rintro i m σ2 H2 ⟨rfl,hi,o2,ρ2,S2,IU,f7,e2,Fs,L3,q⟩;have eH:aV o.A H H2:=(er.dA io.ext).trans e2;have aH:∀b x,H b=some x->∃y,H2 b=some y:=λb x hx=>by obtain⟨y,hy⟩:=aB.B9 io.ext b x hx;exact L3 b y hy
 have A1:∀b,o2.A b->o.A b\/H b=none:=λb z=>(Fs b z).imp id λq=>by
  cases hb:H b with
  | none=>rfl
  | some x=>obtain⟨y,hy⟩:=aB.B9 io.ext b x hb;rw[q] at hy;cases hy
 by_cases cz:i < p.1.length
 ·refine .inr ⟨wk.go i H2 cz e2,?_⟩;have hd:∃d,p.1[i]?=some d:=⟨p.1[i],by simp[cz]⟩;obtain⟨d0,zu⟩:=hd;have KC:p.1.drop i=d0::p.1.drop (i + 1):=by rw[List.drop_eq_getElem_cons cz];congr 1;exact(Pp.mp zu).2
  rw[KC] at q;unfold forL at q;rw[ab] at q;obtain⟨ρ3,hρ,q⟩:=pk (oJ _ _ _) q;rw[ab] at q;refine⟨λσ3 H3=>i + 1<=p.1.length/\∃o3 ρ3 S3,OI Φ W o3/\ER Φ Γ o3 ρ3 S3 σ3 H3/\aV o.A H1 H3/\(∀b,o3.A b->o.A b\/H1 b=none)/\(∀b x,H1 b=some x->∃y,H3 b=some y)/\mR Φ.Ek (forL tg (aR F b) (p.1.drop (i + 1)) ρ3 S3) (dD Φ Γ W fF o H D),λσ3 H3 z=>⟨p.1.length - (i + 1),by omega,rfl,z⟩,λx H3 y=>?_⟩;obtain⟨s3,d,hd,hx⟩:=wk.yld i x H2 H3 cz e2 y;rw[zu] at hd;cases hd;have rd:=hx o2.A Fs;rw[<-hK];refine wj (f7.grow s3) hp rd hρ λσ4 Lm _=>?_
  refine⟨o2,ρ3,S2,IU,Lm,ae q λp2 _ q=>?_⟩;have again:∀{σ5:L2.St} {H5:Hp},SO Φ Γ W o2 H3 p2.2.1 p2.2.2 σ5 H5->mR Φ.Ek (forL tg (aR F b) (p.1.drop (i + 1)) p2.2.1 p2.2.2) (dD Φ Γ W fF o H D)->i + 1<=p.1.length/\∃o3 ρ3 S3,OI Φ W o3/\ER Φ Γ o3 ρ3 S3 σ5 H5/\aV o.A H1 H5/\(∀b,o3.A b->o.A b\/H1 b=none)/\(∀b x,H1 b=some x->∃y,H5 b=some y)/\mR Φ.Ek (forL tg (aR F b) (p.1.drop (i + 1)) ρ3 S3) (dD Φ Γ W fF o H D):=λ {σ5 H5} so q=>by have NM:=SO.go (o:=o) (H:=H1) (e2.trans (aV.of_same s3)) Fs (λb x hx=>by obtain⟨y,hy⟩:=L3 b x hx;exact⟨y,s3 _ _ hy⟩) so;obtain⟨⟨o5,Nq,Ij,Og⟩,e5,a5⟩:=NM;exact⟨cz,o5,_,_,Nq,Ij,e5,Og,a5,q⟩
  unfold dD;cases fw:p2.1 with
  | next=>rw[fw] at q;exact λσ5 H5 so=>again so q
  | cnt=>rw[fw] at q;exact λσ5 H5 so=>again so q
  | brk=>rw[fw] at q;intro σ5 H5 so;have q:dD Φ Γ W fF o H D (.next,p2.2):=q;unfold dD at q;exact q σ5 H5 (SO.go (eH.trans (aV.of_same s3)) A1 (λb x hx=>by obtain⟨y,hy⟩:=aH b x hx;exact⟨y,s3 _ _ hy⟩) so)
  | ret d=>rw[fw] at q;have q:dD Φ Γ W fF o H D (.ret d,p2.2):=q;exact q
 ·have e:i=p.1.length:=by omega
  subst e;rw[List.drop_length] at q;have q:dD Φ Γ W fF o H D (.next,ρ2,S2):=q;unfold dD at q;exact .inl ⟨wk.stop H2 e2,q _ _ ⟨⟨o2,IU,f7,A1⟩,eH,aH⟩⟩
end
def kA:Expr->Bool
 | .ListComp ..=>true
 | .SetComp ..=>true
 | .DictComp ..=>true
 | _=>false
def EB (n:Nat) (g:G) (Γ:Gm) (i:Nat) (e:Expr):Option T:=match e with
 | .Name y p=>match slot Γ y with
  | some j=>if eM Γ j then none else(cE n g Γ (.Name y p)).bind λc=>some (.asg i c)
  | none=>(cE n g Γ (.Name y p)).bind λc=>some (.asg i c)
 | e=>(cE n g Γ e).bind λc=>some (.asg i c)
def DZ (n:Nat) (g:G) (Γ:Gm) (fF:Bool) (e:Expr):Option T:=match e with
 | .Name y p=>match slot Γ y with
  | some j=>if eM Γ j then(if Γ.δ==some j then none else some (.ret (.mvr j))) else(cE n g Γ (.Name y p)).bind λc=>if fF then none else some (.ret c)
  | none=>(cE n g Γ (.Name y p)).bind λc=>if fF then none else some (.ret c)
 | e=>(cE n g Γ e).bind λc=>if !fF||fresh g.fr c then some (.ret c) else none
mutual
def cS:Nat->G->Gm->Bool->Bool->Stmt->Option T
 | 0,_,_,_,_,_=>none
 | n + 1,g,Γ,dp,fF,st=>match st with
  | .Assign [.Name x _] e _=>(f9 Γ x).bind λi=>
    if Γ.δ==some i then none
    else if eM Γ i then(cE n g Γ e).bind λc=>if fresh g.fr c then some (.asgM i c) else none
    else EB n g Γ i e
  | .Assign [.Tuple es _ _] e _=>none
  | .Assign [.Subscript (.Name x _) k _] v _=>(slot Γ x).bind λi=>if eM Γ i then(cE n g Γ v).bind λv'=>(cE n g Γ k).bind λk'=>some (.yH i k' v') else none
  | .Expr (.Call (.Attribute (.Name x _) m ap) [a] [] cp) _=>(slot Γ x).bind λi=>if eM Γ i&&ap.endLine==cp.line then(cE n g Γ a).bind λa'=>
    (if m==("append":Str) then some (.app i a') else if m==("extend":Str) then some (.xtd i a') else none) else none
  | .Expr (.Call (.Attribute (.Name x _) m ap) [] [] cp) _=>(slot Γ x).bind λi=>if eM Γ i&&ap.endLine==cp.line&&m==("clear":Str) then some (.clr i) else none
  | .Expr e _=>if kA e then none else(cE n g Γ e).bind λc=>some (.Ky c)
  | .Return (some e) _=>DZ n g Γ fF e
  | .Return none _=>some .retN
  | .If t a b _=>(cE n g Γ t).bind λt'=>(vG n g Γ dp fF a).bind λa'=>(vG n g Γ dp fF b).bind λb'=>some (.ifs t' a' b')
  | .For tg it b [] _=>(cI n g Γ tg it).bind λji=>(rY Γ tg).bind λkO=>(vG n g Γ dp fF b).bind λb'=>some (.fr kO ji b')
  | .While t b [] _=>none
  | .Break _=>some .brk
  | .Continue _=>some .cnt
  | .Pass _=>some .pas
  | _=>none
def vG:Nat->G->Gm->Bool->Bool->List Stmt->Option Ts
 | 0,_,_,_,_,_=>none
 | n + 1,g,Γ,dp,fF,zx=>match zx with
  | []=>some .nil
  | st::zx=>(cS n g Γ dp fF st).bind λt=>(vG n g Γ dp fF zx).bind λts=>some (.cons t ts)
end
section
variable {g:G} {xv:Nat->Value} {CX:j9} {k:Nat} {F:FT} {X:Cx} {Φ:Fm} {Γ:Gm} {W:Addr->Prop}
def oK {e:Expr} (h:kA e=false) (t:Option Expr) (l:Nat) (env:Env):swapsWith e t l env=pure false:=by cases e <;> first | rfl | (simp[kA] at h)
def uS {e:Expr} {t:Expr} (ht:∀x p,t≠ .Name x p) (l:Nat) (env:Env):swapsWith e (some t) l env=pure false:=by cases e <;> first | rfl | (cases t <;> first | rfl | exact absurd rfl (ht _ _))
def pG {n:Nat} {elt:Expr} {gens:List Comprehension} {sc:Scope} {eX:Pos} {c:C} (h:cE (n + 1) g Γ (.ListComp elt gens sc eX)=some c):sc.kind= .function/\xq sc.names Γ.names (aW Γ sc).1.N Γ.N (aW Γ sc).2=true/\(aW Γ sc).1.N.Nodup/\
  ((∃tg it ifs ji kO oz e',gens=[⟨tg,it,ifs,0⟩]/\cI n g Γ tg it=some ji/\rY (aW Γ sc).1 tg=some kO/\Bu n g (aW Γ sc).1 ifs=some oz/\cE n g (aW Γ sc).1 elt=some e'/\c= .comp (aW Γ sc).2 ji kO oz e')\/
   (∃tg it ifs tg2 it2 ck ji kO oz qh kr oI e',gens=[⟨tg,it,ifs,0⟩,⟨tg2,it2,ck,0⟩]/\cI n g Γ tg it=some ji/\rY (aW Γ sc).1 tg=some kO/\Bu n g (aW Γ sc).1 ifs=some oz/\cI n g (aW Γ sc).1 tg2 it2=some qh/\rY (aW Γ sc).1 tg2=some kr/\Bu n g (aW Γ sc).1 ck=some oI/\cE n g (aW Γ sc).1 elt=some e'/\
   (∀i∈aS kr,i∉aS kO)/\c= .ja (aW Γ sc).2 ji kO oz qh kr oI e')):=by
 unfold cE at h;split at h
 all_goals (rename_i hh;try (cases hh;done))
 ·rename_i elt2 tg it ifs sc2 fA;cases hh;split at h
  ·rename_i hk;obtain⟨ji,h1,h⟩:=Pj.mp h;obtain⟨kO,h2,h⟩:=Pj.mp h;obtain⟨oz,h3,h⟩:=Pj.mp h;obtain⟨e',h4,h⟩:=Pj.mp h;split at h
   ·rename_i hb;cases h;rw[Pm] at hb;exact⟨PV hk,hb.1,Po hb.2,.inl ⟨tg,it,ifs,ji,kO,oz,e',rfl,h1,h2,h3,h4,rfl⟩⟩
   ·cases h
  ·cases h
 ·rename_i elt2 tg it ifs tg2 it2 ck sc2 fA;cases hh;split at h
  ·rename_i hk;obtain⟨ji,h1,h⟩:=Pj.mp h;obtain⟨kO,h2,h⟩:=Pj.mp h;obtain⟨oz,h3,h⟩:=Pj.mp h;obtain⟨qh,h5,h⟩:=Pj.mp h;obtain⟨kr,h6,h⟩:=Pj.mp h;obtain⟨oI,h7,h⟩:=Pj.mp h;obtain⟨e',h4,h⟩:=Pj.mp h;split at h
   ·rename_i hb;cases h;rw[Pm,Pm] at hb;refine⟨PV hk,hb.1.1,Po hb.1.2,.inr ⟨tg,it,ifs,tg2,it2,ck,ji,kO,oz,qh,kr,oI,e',rfl,h1,h2,h3,h5,h6,h7,h4,λi hi z=>?_,rfl⟩⟩;have:=Qa.mp hb.2 i hi;simp[z] at this
   ·cases h
  ·cases h
 ·cases h
def p7 {n i:Nat} {x:Str} {e:Expr} {c:C} {pos' pos:Pos} (gx:GX g Γ X) (hX:HX g xv CX k F Φ X) (hs:f9 Γ x=some i) (h:cE n g Γ e=some c):PS X (.Assign [.Name x pos'] e pos) (qr (bD Φ Γ F g.fr c) (dU i)):=by
 have S:=iF (F:=F) n Γ X Φ gx hX;obtain⟨a1,a2,a3⟩:=jT hs;obtain⟨l1,l2⟩:=gx.loc x a1;have hN:X.N.Nodup:=gx.N▸gx.nd;have hi:X.N[i]?=some x:=by rw[gx.N];exact a3
 by_cases hc:kA e=true
 ·cases n with
  | zero=>simp[cE] at h
  | succ n=>
   cases e with
   | ListComp elt gens sc eX=>
    have OF:=(S.e _ _ h).1;obtain⟨hk,hb,eS,GG⟩:=pG h;cases Eo:(X.env.blockKind== .function&&X.env.kindOf x==some .local&&pos'.line==(Expr.ListComp elt gens sc eX).pos.line&& !(sc.names.any λ(n,k)=>n==x&&(k== .local||k== .cell))) with
    | false=>exact yV hN hi l1 OF (by show pure (X.env.blockKind== .function&&X.env.kindOf x==some .local&&pos'.line==(Expr.ListComp elt gens sc eX).pos.line&& !(sc.names.any λ(n,k)=>n==x&&(k== .local||k== .cell)))=_;rw[Eo]) l2
    | true=>
     have hl:X.env.kindOf x=some .local:=by rw[Pm,Pm,Pm] at Eo;exact PV Eo.1.1.2
     have B:=qI gx hk hb;have S1:=iF (F:=F) n Γ X Φ gx hX;have J:=λC s H fp=>iF (F:=F) n (aW Γ sc).1 (eR X sc (aW Γ sc).1.N C s H fp (rW X sc (aW Γ sc).1.N (lR Φ xv) C s H fp)) Φ (eB gx B eS) (sf hX)
     rcases GG with ⟨tg,it,ifs,ji,kO,oz,e',rfl,h1,h2,h3,h4,rfl⟩ | ⟨tg,it,ifs,tg2,it2,ck,ji,kO,oz,qh,kr,oI,e',rfl,h1,h2,h3,h5,h6,h7,h4,FR,rfl⟩
     ·refine bA (i9 (xb:=rW X sc (aW Γ sc).1.N (lR Φ xv)) (body:=λacc env=>gF elt acc env) (i:=i) gx.calm hN hi hl B (jF hX.st hX.xgx) (S1.i _ _ _ h1).1 (λot acc env=>p9 ..) (λC s H fp=>sE (eB gx B eS) h2) (λC s H fp=>(J C s H fp).ts _ _ h3) (λC s H fp D=>jI ((J C s H fp).e _ _ h4).1) (gL (S1.i _ _ _ h1).2 _) ?_) λD σ H q=>yz hX.K B eS h2 q
      show pure (X.env.blockKind== .function&&X.env.kindOf x==some .local&&pos'.line==(Expr.ListComp elt [⟨tg,it,ifs,0⟩] sc eX).pos.line&& !(sc.names.any λ(n,k)=>n==x&&(k== .local||k== .cell)))=_;rw[Eo]
     ·refine bA (i9 (xb:=rW X sc (aW Γ sc).1.N (lR Φ xv)) (body:=λacc env=>nextOf (.ListComp elt [⟨tg,it,ifs,0⟩,⟨tg2,it2,ck,0⟩] sc eX) 1 it2 acc env) (i:=i) gx.calm hN hi hl B (jF hX.st hX.xgx) (S1.i _ _ _ h1).1 (λot acc env=>o7 ..) (λC s H fp=>sE (eB gx B eS) h2) (λC s H fp=>(J C s H fp).ts _ _ h3)
       (λC s H fp D=>sU gx.calm (sI hX.st) ((J C s H fp).i _ _ _ h5).1 (sE (eB gx B eS) h6) ((J C s H fp).ts _ _ h7) (jI ((J C s H fp).e _ _ h4).1) (gL ((J C s H fp).i _ _ _ h5).2 _)) (gL (S1.i _ _ _ h1).2 _) ?_) λD σ H q=>uG hX.K B eS h2 h6 FR q
      show pure (X.env.blockKind== .function&&X.env.kindOf x==some .local&&pos'.line==(Expr.ListComp elt [⟨tg,it,ifs,0⟩,⟨tg2,it2,ck,0⟩] sc eX).pos.line&& !(sc.names.any λ(n,k)=>n==x&&(k== .local||k== .cell)))=_;rw[Eo]
   | SetComp=>simp[cE] at h
   | DictComp=>simp[cE] at h
   | _=>simp[kA] at hc
 ·exact yV hN hi l1 (S.e _ _ h).1 (oK (by simpa using hc) _ _ _) l2
structure Lp (g:G) (F:FT) (n:Nat) (Γ:Gm) (X:Cx) (Φ:Fm) (W:Addr->Prop) (dp fF:Bool):Prop where
 s:∀st t,cS n g Γ dp fF st=some t->PS X st (k8 Φ Γ F W fF t)
 ss:∀zx ts,vG n g Γ dp fF zx=some ts->qM X zx (qd Φ Γ F W fF ts)
def jR {x:Str} {i:Nat} {p:Pos} (gx:GX g Γ X) (h:slot Γ x=some i):PE X (.Name x p) (lA i):=by obtain⟨v1,v2,v3⟩:=tu h;obtain⟨n1,n2,n3⟩:=dW v2;exact xg (by rw[gx.N];exact v3) (gx.vis x v1) n1 n2
def D8 {n i:Nat} {x:Str} {e:Expr} {t:T} {pos' pos:Pos} {fF:Bool} (gx:GX g Γ X) (hX:HX g xv CX k F Φ X) (hs:f9 Γ x=some i) (hp:plainS Γ i=true) (h:EB n g Γ i e=some t):PS X (.Assign [.Name x pos'] e pos) (k8 Φ Γ F W fF t):=by
 have BR:∀{e:Expr} {t:T},((cE n g Γ e).bind λc=>some (T.asg i c))=some t->PS X (.Assign [.Name x pos'] e pos) (k8 Φ Γ F W fF t):=λ {e t} h=>by obtain⟨c,h1,h⟩:=Pj.mp h;cases h;exact Ga hp (p7 gx hX hs h1)
 unfold EB at h;split at h
 ·rename_i y p;split at h
  ·rename_i j hj;split at h
   ·cases h
   ·exact BR h
  ·exact BR h
 ·exact BR h
def Eb {n:Nat} {e:Expr} {t:T} {pos:Pos} {fF:Bool} (gx:GX g Γ X) (hX:HX g xv CX k F Φ X) (h:DZ n g Γ fF e=some t):PS X (.Return (some e) pos) (k8 Φ Γ F W fF t):=by
 have S:=iF (F:=F) n Γ X Φ gx hX;have plain:∀{e:Expr} {t:T},((cE n g Γ e).bind λc=>if fF then none else some (T.ret c))=some t->PS X (.Return (some e) pos) (k8 Φ Γ F W fF t):=λ {e t} h=>by
  obtain⟨c,h1,h⟩:=Pj.mp h;split at h
  ·cases h
  ·rename_i hf;cases h;exact BY (λz=>absurd z hf) (qF (S.e _ _ h1).1)
 unfold DZ at h;split at h
 ·rename_i y p;split at h
  ·rename_i j hj;split at h
   ·rename_i hm;split at h
    ·cases h
    ·cases h;exact Ee hm (qF (jR gx hj))
   ·exact plain h
  ·exact plain h
 ·obtain⟨c,h1,h⟩:=Pj.mp h;split at h
  ·rename_i hf;cases h;refine BY (λz=>?_) (qF (S.e _ _ h1).1);rw[z] at hf;simpa using hf
  ·cases h
def yX {dp fF:Bool} (n:Nat):∀(Γ:Gm) (X:Cx) (Φ:Fm),GX g Γ X->HX g xv CX k F Φ X->(dp=false->Φ.d0=none)->PassesOwn (model X.prog X.w) X.A X.env X.xe->Lp g F n Γ X Φ W dp fF:=by
 induction n with
 | zero=>intro Γ X Φ gx hX hd ho;exact⟨λst t h=>by simp[cS] at h,λst t h=>by simp[vG] at h⟩
 | succ n ih=>
  intro Γ X Φ gx hX hd ho;have I:=ih Γ X Φ gx hX hd ho;have S:=iF (F:=F) n Γ X Φ gx hX;have hK:=hX.K;refine⟨λst t h=>?_,λzx ts h=>?_⟩
  ·unfold cS at h;split at h
   ·rename_i x xp e pos;obtain⟨i,hs,h⟩:=Pj.mp h;split at h
    ·cases h
    ·rename_i hδ;have hδ':Γ.δ≠some i:=λz=>hδ (by rw[z];exact beq_self_eq_true _)
     split at h
     ·rename_i hm;obtain⟨c,h1,h⟩:=Pj.mp h;split at h
      ·rename_i hf;cases h;exact CI hm hδ' hf (p7 gx hX hs h1)
      ·cases h
     ·rename_i hm;refine D8 gx hX hs ?_ h;unfold plainS;rw[Pm];exact⟨by simpa using hm,by simpa using hδ'⟩
   ·cases h
   ·rename_i x xp kx sp v pos;obtain⟨i,hs,h⟩:=Pj.mp h;split at h
    ·rename_i hm;obtain⟨v',h1,h⟩:=Pj.mp h;obtain⟨k',h2,h⟩:=Pj.mp h;cases h;have On:=(S.e _ _ h2).2.2;refine DN hm (Ce (S.e _ _ h1).1 (Dw (jR gx hs) (S.e _ _ h2).1 set_list (by intro _;cases kx <;> first | rfl | (simp[uI] at On))) (show swapsWithSole [Expr.Subscript (Expr.Name x xp) kx sp] v pos.line X.env=pure false from uS (e:=v) (t:=Expr.Subscript (Expr.Name x xp) kx sp) (λx p z=>by cases z) pos.line X.env) ?_);cases v <;> rfl
    ·cases h
   ·rename_i x xp m ap a cp pos;obtain⟨i,hs,h⟩:=Pj.mp h;split at h
    ·rename_i hm;rw[Pm] at hm;obtain⟨a',h1,h9⟩:=Pj.mp h;clear h;have gP:=bq (S.e _ _ h1).2.2 [] X.env;split at h9
     ·rename_i hma;have em:=PV hma;subst em;cases h9;exact F0 hm.1 (jo (Cc PySem.F.plainAttrs_list PySem.F.slot_list_append PySem.F.type_list_append mz (jR gx hs) (cN (S.e _ _ h1).1 ft gP) rfl (by rw[gP];rfl) hm.2 gP rfl))
     split at h9
     ·rename_i hma;have em:=PV hma;subst em;cases h9;exact G0 hm.1 (jo (Cc PySem.F.plainAttrs_list PySem.F.slot_list_extend PySem.F.type_list_extend uU (jR gx hs) (cN (S.e _ _ h1).1 ft gP) rfl (by rw[gP];rfl) hm.2 gP rfl))
     ·cases h9
    ·cases h
   ·rename_i x xp m ap cp pos;obtain⟨i,hs,h9⟩:=Pj.mp h;clear h;split at h9
    ·rename_i hm;rw[Pm,Pm] at hm;have em:=PV hm.2;subst em;cases h9;exact HZ hm.1.1 (jo (DS PySem.F.plainAttrs_list PySem.F.slot_list_clear PySem.F.type_list_clear yD (jR gx hs) rfl hm.1.2))
    ·cases h9
   ·split at h
    ·cases h
    ·rename_i hc;obtain⟨c,h1,h⟩:=Pj.mp h;cases h;exact Gd (jo (S.e _ _ h1).1 (oK (by simpa using hc) _ _ _))
   ·exact Eb gx hX h
   ·cases h;exact C4 Ab
   ·obtain⟨t',h1,h⟩:=Pj.mp h;obtain⟨a',h2,h⟩:=Pj.mp h;obtain⟨b',h3,h⟩:=Pj.mp h;cases h;exact Hk (FM (S.e _ _ h1).2.1 (I.ss _ _ h2) (I.ss _ _ h3))
   ·obtain⟨ji,h1,h⟩:=Pj.mp h;obtain⟨kO,h2,h⟩:=Pj.mp h;obtain⟨b',h3,h⟩:=Pj.mp h;cases h;exact Fz hK (λi hi=>(fj h2 i hi).1) (En ho gx.calm (S.i _ _ _ h1).1 (sE gx h2) (I.ss _ _ h3) (gL (S.i _ _ _ h1).2 _))
   ·cases h
   ·cases h;exact Fo xa
   ·cases h;exact HB o4
   ·cases h;exact EC Af
   ·cases h
  ·unfold vG at h;split at h
   ·cases h;exact Eg
   ·obtain⟨t,h1,h⟩:=Pj.mp h;obtain⟨oz,h2,h⟩:=Pj.mp h;cases h;exact A3 (I.s _ _ h1) (I.ss _ _ h2)
end
section
variable {P:Program} {w:World} {K:Frag} {mg:Str->Option Value} {base:Heap} {g:G} {xv:Nat->Value} {F:FT} {k:Nat}
structure MG (g:G) (mg:Str->Option Value):Prop where
 con:∀x d,g.cons.lookup x=some d->∃u,ou d=true/\mg x=some u/\RelV (ql d) u
 bl:∀x∈g.bls,mg x=none
def u9 (bf:Bool) (args:List Dt) (n ps:Nat):ak:=(if bf then[none] else[])++args.map some++List.replicate (n - ps) none
def o9 {bf:Bool} {args:List Dt} {n ps i:Nat} {d:Dt} (h:(u9 bf args n ps)[i]?=some (some d)):∃j,args[j]?=some d/\i=j + (if bf then 1 else 0):=by
 unfold u9 at h;have tail:∀{i:Nat},(args.map some++List.replicate (n - ps) (none:Option Dt))[i]?=some (some d)->args[i]?=some d:=λ {i} h=>by
  by_cases hi:i < args.length
  ·rw[Qf (by simpa using hi),PN] at h;cases e:args[i]? with
   | none=>rw[e] at h;cases h
   | some a=>rw[e] at h;cases h;rfl
  ·rw[Qg (by simpa using hi),List.getElem?_replicate] at h;split at h <;> cases h
 cases bf with
 | false=>simp only[Bool.false_eq_true,if_false,List.nil_append] at h;exact⟨i,tail h,rfl⟩
 | true=>
  simp only[if_true,PF] at h;cases i with
  | zero=>cases h
  | succ i=>have h:(args.map some++List.replicate (n - ps) (none:Option Dt))[i]?=some (some d):=h;exact⟨i,tail h,rfl⟩
def mf {N:List Str} {vs:List V} {i:Nat} {v:V} (h:vs[i]?=some v):(start N vs)[i]?=some (some v):=by unfold L2.start;have hi:=(Pp.mp h).1;rw[Qf (by simpa using hi),PN,h];rfl
def wR {M:List Bool} {δ:Option Nat} {names:List (Str×NameKind)} {N:List Str} {np:Nat} {bf:Bool} {vs vJ:List V} {H:Hp} {W:Addr->Prop} {dr:Option Addr} {args:List Dt} {S:Sx} {Ek:Nat->Prop}
  (hM:∀i,i < np->M[i]?≠some true) (hδ:bf=true->δ=some 0) (OZ:np<=N.length) (hl:vs.length=np)
  (hd:if bf=true then∃(a:Addr) (ns:List Int),vs= .ref a::vJ/\dr=some a/\W a/\S=some ns/\H a=some (.lst (ns.map V.int)) else vs=vJ/\dr=none/\S=none)
  (ha:ai K W H vJ args) (hw:∀a,W a->∃x,H a=some x):ER ⟨K,H,dr,Ek⟩ ⟨names,N,M,δ⟩ ⟨W,W,dr⟩ (u9 bf args N.length np) S (start N vs) H/\args.length + (if bf then 1 else 0)=np:=by
 have oP:=ha.length;have HW:args.length + (if bf then 1 else 0)=np:=by
  cases bf with
  | false=>simp only[Bool.false_eq_true,if_false] at hd ⊢;obtain⟨e,_,_⟩:=hd;subst e;omega
  | true=>simp only[if_true] at hd ⊢;obtain⟨a,ns,e,_⟩:=hd;rw[e] at hl;simp at hl;omega
 refine⟨⟨?_,λa z=>z,λa z=>?_,hw,λi d h=>?_,λi j a d e hm hm' h1 h2 _ _=>?_,λa z=>?_,λz=>?_,λi a hi z=>?_,λa z=> .inl z,aV.refl⟩,HW⟩
 ·unfold L2.start u9;simp only[PJ,Px,List.length_replicate];cases bf <;> simp at HW ⊢ <;> omega
 ·cases bf with
  | false=>simp only[Bool.false_eq_true,if_false] at hd;rw[hd.2.1] at z;cases z
  | true=>simp only[if_true] at hd;obtain⟨b,ns,_,e,hb,_⟩:=hd;rw[e] at z;cases z;exact hb
 ·obtain⟨j,hj,rfl⟩:=o9 h;obtain⟨v,h1,h2⟩:=ha.getD hj;have Os:=(Pp.mp hj).1;have hm:eM ⟨names,N,M,δ⟩ (j + if bf=true then 1 else 0)=false:=by unfold eM;have:=hM (j + if bf=true then 1 else 0) (by omega);simpa using this
  refine⟨v,mf ?_,?_⟩
  ·cases bf with
   | false=>simp only[Bool.false_eq_true,if_false] at hd ⊢;rw[hd.1];exact h1
   | true=>simp only[if_true] at hd ⊢;obtain⟨b,ns,e,_⟩:=hd;rw[e];simpa using h1
  ·rw[hm,if_neg (by simp)];exact h2
 ·obtain⟨j1,hj,rfl⟩:=o9 h1;have Os:=(Pp.mp hj).1;exfalso;unfold eM at hm;exact hM (j1 + if bf=true then 1 else 0) (by omega) (PV hm)
 ·cases bf with
  | false=>simp only[Bool.false_eq_true,if_false] at hd;rw[hd.2.1] at z;cases z
  | true=>simp only[if_true] at hd;obtain⟨b,ns,_,e,_,e2,e3⟩:=hd;rw[e] at z;cases z;exact⟨ns,e2,e3⟩
 ·cases bf with
  | false=>simp only[Bool.false_eq_true,if_false] at hd;exact hd.2.2
  | true=>simp only[if_true] at hd;obtain⟨b,ns,_,e,_⟩:=hd;rw[e] at z;cases z
 ·cases bf with
  | false=>simp only[Bool.false_eq_true,if_false] at hd;rw[hd.2.1] at z;cases z
  | true=>simp only[if_true] at hd;obtain⟨b,ns,e1,e,_⟩:=hd;rw[e] at z;cases z;have hi:δ=some i:=hi;rw[hδ rfl] at hi;cases hi;exact mf (by rw[e1];rfl)
def HG {CX:j9} {N ps:List Str} {sc:Scope} {M:List Bool} {δ:Option Nat} {qual:Str} {f:Addr} {eU:Value} {A:Around} {outer:List Env} {s:Shared} {H:Hp} {E:XK} (m:MG g mg) (S:ej N ps sc) (hr:iz k (A.deeper (envOfC qual sc s.heap.objs.size f eU))):
  GX g ⟨sc.names,N,M,δ⟩ (kf CX P w K mg base N qual sc f eU A outer s H E) where
 N:=rfl
 nd:=S.nd
 vis:=λx h=>by
  have h:xi (sc.names.lookup x)=true:=h;show HC sc x;unfold HC;cases hl:sc.names.lookup x with
  | none=>rw[hl] at h;cases h
  | some kk=>
   rw[hl] at h;cases kk with
   | «local»=>exact .inl rfl
   | cell=>exact .inr (.inl rfl)
   | free=>exact .inr (.inr rfl)
   | globalExplicit=>cases h
   | globalImplicit=>cases h
 loc:=λx h=>by
  have h:ym (sc.names.lookup x)=true:=h;refine⟨?_,.inl rfl⟩;show L2.Loc sc x;unfold L2.Loc;cases hl:sc.names.lookup x with
  | none=>rw[hl] at h;cases h
  | some kk=>
   rw[hl] at h;cases kk with
   | «local»=>exact .inl rfl
   | cell=>exact .inr rfl
   | free=>cases h
   | globalExplicit=>cases h
   | globalImplicit=>cases h
 gl:=λx h=>by
  have h:vN (sc.names.lookup x)=true:=h;show sc.names.lookup x=_;cases hl:sc.names.lookup x with
  | none=>rw[hl] at h;cases h
  | some kk=>
   rw[hl] at h;cases kk with
   | globalImplicit=>rfl
   | «local»=>cases h
   | cell=>cases h
   | free=>cases h
   | globalExplicit=>cases h
 fre:=λx h=>h
 calm:=rfl
 un:=by have:=hr.un;show (A.deeper (envOfC qual sc s.heap.objs.size f eU)).units + 150 < cLine;omega
 con:=m.con
 bl:=m.bl
def GX.dk {Γ:Gm} {X:Cx} {E:Value->Shared->Prop} (gx:GX g Γ X):GX g Γ (X.dk E):=⟨gx.N,gx.nd,gx.vis,gx.loc,gx.gl,gx.fre,gx.calm,gx.un,gx.con,gx.bl⟩
def kl {X:Cx} {E:Value->Shared->Prop} {E':XK} {e:Value} {s':Shared} (h:kB (X.dk E) E' e s'):kB X E' e s':=by obtain⟨σ,H',a,cls,e1,I,f,q⟩:=h;exact⟨σ,H',a,cls,e1,I.ez,f,q⟩
def wA {X:Cx} {E:Value->Shared->Prop} {E':XK} {e:Value} {s':Shared} (h:kB X E' e s'):kB (X.dk E) E' e s':=by obtain⟨σ,H',a,cls,e1,I,f,q⟩:=h;exact⟨σ,H',a,cls,e1,I.dk E,f,q⟩
def qz {X:Cx} {E:Value->Shared->Prop} {st:List Stmt} {t:TS} (h:qM (X.dk E) st t) (hx:∀e s',E e s'->X.xe e s'):qM X st t:=λpins s σ H D I hw=>
 wpAny_mono (h pins s σ H D (I.dk _) hw) (λ_ _ q=>q.ez) λe s' z=>hx e s' z
def lJ {name qual:Str} {params:Arguments} {body:List Stmt} {scope:Scope} {dV kV doc pm eU ct oc:Value} {an od:Option Addr} {tE:Array (Option Value)} {f:Addr} {N ps:List Str} {M:List Bool} {δ:Option Nat} {bf fF:Bool} {n m:Nat} {ts:Ts}
  (lk:K.lookup f=some ⟨oc,od,.func (PySem.W.fnOf name qual params body scope dV kV doc pm an eU ct),tE⟩) (zm:PySem.W.codeIn K eU qual=true) (S:ej N ps scope) (hm:MG g mg) (fx:FX g xv (om P w) P w K mg base m k F)
  (hM:∀i,i < ps.length->M[i]?≠some true) (hδ:bf=true->δ=some 0) (hc:vG n g ⟨scope.names,N,M,δ⟩ bf fF body=some ts):
  iO P w K mg base (om P w) (k + 1) f (PySem.W.fnOf name qual params body scope dV kV doc pm an eU ct) ps (My K xv (gf F ⟨ps.length,N.length,bf,ts⟩) ps.length fF bf):=by
 have gG:ps.length<=N.length:=by have:=congrArg List.length S.pre;rw[List.length_take] at this;omega
 refine HL lk zm S (λvs H Q E h=>h.1) λA outer s H vs Q E hr h=>?_
 obtain⟨hl,W,dr,args,S0,vJ,hd,ha,hw,h⟩:=h;have er:=wR (K:=K) (names:=scope.names) (N:=N) (Ek:=λkk=>∀H',aV (λb=>dr=some b) H H'->E (xv kk) none H') hM hδ gG hl hd ha hw;obtain⟨er,Br⟩:=er;generalize hXX:kf (om P w) P w K mg base N qual scope f eU A outer s H E=X;generalize hΦ:(⟨K,H,dr,λkk=>∀H',aV (λb=>dr=some b) H H'->E (xv kk) none H'⟩:Fm)=Φ at er;have hΦE:∀v a H',lR Φ xv v a H'->E v none H':=λv a H' z=>by obtain⟨kk,rfl,z1,z2⟩:=z;subst hΦ;exact z1 H' z2
 have Nl:∀e s',kB X (lR Φ xv) e s'->X.xe e s':=λe s' z=>by subst hXX;obtain⟨σ,H',a,cls,e1,I,fl,q⟩:=z;exact ED ⟨σ,H',a,cls,e1,I,fl,hΦE _ _ _ q⟩
 have st:fz X:=by subst hXX;exact wV
 have gx:GX g ⟨scope.names,N,M,δ⟩ X:=by subst hXX;exact HG (P:=P) (w:=w) (K:=K) (base:=base) (CX:=om P w) (M:=M) (δ:=δ) (outer:=outer) (H:=H) (E:=E) hm S hr
 have Mo:fz (X.dk (kB X (lR Φ xv))):=⟨st.pn,st.st⟩;have hX:HX g xv (om P w) k F Φ (X.dk (kB X (lR Φ xv))):=by
  refine⟨?_,⟨m,?_⟩,?_,?_,Mo,λe s' z=>kl z⟩
  ·subst hΦ hXX;rfl
  ·subst hXX;exact fx
  ·subst hXX;exact hr
  ·subst hXX;rfl
 have own:PassesOwn (model (X.dk (kB X (lR Φ xv))).prog (X.dk (kB X (lR Φ xv))).w) (X.dk (kB X (lR Φ xv))).A (X.dk (kB X (lR Φ xv))).env (X.dk (kB X (lR Φ xv))).xe:=uh (E:=lR Φ xv) Mo (λe s' z=>kl z) λe s' z=>wA z
 have d0:Φ.d0=dr:=by subst hΦ;rfl
 have SS:=yX (dp:=bf) (fF:=fF) (W:=W) n _ _ _ gx.dk hX (λz=>by
  rw[d0];subst z;simp only[Bool.false_eq_true,if_false] at hd;exact hd.2.1) own
 refine⟨_,qz (SS.ss _ _ hc) Nl,⟨W,W,dr⟩,_,S0,⟨rfl,λa z=>by rw[d0] at z;exact z⟩,er,?_⟩;subst hΦ;unfold gf at h;simp only at h;rw[if_pos Br] at h;have h:(match (aR F ts (u9 bf args N.length ps.length) S0).bind (λp=>match p.1 with
   | .next=>R.ok (Dt.bo,p.2.2)
   | .ret d=>R.ok (d,p.2.2)
   | _=>R.bad) with
  | .ok p=>∀v H',FO K W dr fF H p.1 p.2 v H'->Q v H'
  | .ex kk=>∀H',aV (λb=>dr=some b) H H'->E (xv kk) none H'
  | .bad=>False):=h
 cases he:aR F ts (u9 bf args N.length ps.length) S0 with
 | ok p=>
  rw[he] at h;simp only[R.ar] at h;show dD _ _ _ _ _ _ _ p;unfold dD;cases hp:p.1 with
  | next=>rw[hp] at h;intro σ' H' so;obtain⟨o',oi,C5,_⟩:=so.ex;exact h _ _ ⟨C5.ent,RV.gE,λa z=>C5.drw a (oi.d a z),λ_ ds e=>by cases e⟩
  | ret d=>rw[hp] at h;intro v H' ro;exact h _ _ ⟨ro.ent,ro.val,ro.drw,ro.eW⟩
  | brk=>rw[hp] at h;exact h.elim
  | cnt=>rw[hp] at h;exact h.elim
 | ex kk=>rw[he] at h;exact h
 | bad=>rw[he] at h;exact h.elim
end
structure yy (g:G) (K:Frag) (mg:Str->Option Value) (e:Str×Nat×List Dt×Bool) (idx:Nat) (fn:Fn):Prop where
 ex:∃(fa:Addr) (ps N:List Str) (M:List Bool) (δ:Option Nat) (n:Nat) (oc:Value) (od an:Option Addr) (tE:Array (Option Value)) (params:Arguments) (body:List Stmt) (scope:Scope) (dV kV doc pm eU ct:Value),
  K.lookup fa=some ⟨oc,od,.func (PySem.W.fnOf e.1 e.1 params body scope dV kV doc pm an eU ct),tE⟩/\PySem.W.codeIn K eU e.1=true/\PySem.W.keepIn K (.ref fa)=true/\mg e.1=some (.ref fa)/\ej N ps scope/\(∀i,i < ps.length->M[i]?≠some true)/\
  (e.2.2.2=true->δ=some 0)/\ps.length=e.2.1/\vG n g ⟨scope.names,N,M,δ⟩ e.2.2.2 (g.fr idx) body=some fn.body/\fn.ps=ps.length/\fn.n=N.length/\fn.bf=e.2.2.2/\
  (∀j,j<=e.2.2.1.length->∃ds,aw ((e.2.2.1.drop j).map ql) ds/\Binds K (PySem.W.fnOf e.1 e.1 params body scope dV kV doc pm an eU ct) ps ds)/\e.2.2.1.all ou=true
def oQ (g:G) (K:Frag) (mg:Str->Option Value):Nat->List (Str×Nat×List Dt×Bool)->List Fn->Prop
 | _,[],[]=>True
 | i,e::es,f::fs=>yy g K mg e i f/\oQ g K mg (i + 1) es fs
 | _,_,_=>False
section
variable {g:G} {K:Frag} {mg:Str->Option Value}
def mS {x:Str}:∀{es:List (Str×Nat×List Dt×Bool)} {fs:List Fn} {i j:Nat} {r:Nat×List Dt×Bool},oQ g K mg i es fs->rQ x es=some (j,r)->∃f,yy g K mg (x,r) (i + j) f/\fs[j]?=some f
 | [],fs,i,j,r,_,h=>by simp[rQ] at h
 | e::es,[],i,j,r,h,_=>h.elim
 | e::es,f::fs,i,j,r,ok,h=>by
  obtain⟨o1,o2⟩:=ok;unfold rQ at h;split at h
  ·rename_i hx;cases h;have ex:x=e.1:=PV hx;subst ex;exact⟨f,o1,rfl⟩
  ·obtain⟨p,h1,h2⟩:=PH.mp h;obtain⟨j',r'⟩:=p;cases h2;obtain⟨f',k1,k2⟩:=mS o2 h1;refine⟨f',?_,k2⟩;have:i + (j' + 1)=i + 1 + j':=by omega
   rw[this];exact k1
variable {P:Program} {w:World} {base:Heap} {xv:Nat->Value} {fs:List Fn}
def kC (hm:MG g mg) (ok:oQ g K mg 0 g.fns fs):∀n,FX g xv (om P w) P w K mg base n n (aO fs n)
 | 0=>⟨λx f np fH bf h=>by
   obtain⟨fn,⟨fa,ps,N,M,δ,n,oc,od,an,tE,params,body,scope,dV,kV,doc,pm,eU,ct,h1,h2,h3,h4,h5,h6,h7,h8,h9,Ks,JK,Fg,JJ,LR⟩,hf⟩:=mS ok h;refine⟨fa,_,ps,h8,h4,h3,⟨λvs H Q E q=>q.1.trans h8.symm,λA outer s H args us vs Q E _ _ _ _ q=>?_⟩,JJ,LR⟩;obtain⟨_,W,dr,as,S,vJ,_,_,_,q⟩:=q;exact q.elim⟩
 | n + 1=>⟨λx f np fH bf h=>by
   have ih:=kC hm ok n;obtain⟨fn,⟨fa,ps,N,M,δ,m,oc,od,an,tE,params,body,scope,dV,kV,doc,pm,eU,ct,h1,h2,h3,h4,h5,h6,h7,h8,h9,Ks,JK,Fg,JJ,LR⟩,hf⟩:=mS ok h;rw[Nat.zero_add] at h9;refine⟨fa,_,ps,h8,h4,h3,?_,JJ,LR⟩;have:=lJ (xv:=xv) (P:=P) (w:=w) (base:=base) h1 h2 h5 hm ih h6 h7 h9;have e:(aO fs (n + 1)) f=gf (aO fs n) ⟨ps.length,N.length,bf,fn.body⟩:=by funext args S;show (match fs[f]? with | some g=>gf (aO fs n) g args S | none=>R.bad)=_;rw[hf];obtain⟨a1,a2,a3,a4⟩:=fn;simp only at Ks JK Fg;subst Ks JK Fg;rfl
   have Oh:ps.length=np:=h8;rw[e,<-Oh];exact this⟩
def tL (K:Frag):Sp:=λvs H Q _=>∃(a:Addr) (ns:List Int),vs=[.ref a]/\c6 K H a (ns.map V.int)/\ns.length<=63/\∀H',Q (.bl true) H'
def binds0 {fd:FuncData} {ps:List Str} (h:∀us:List Value,us.length=ps.length->bindArgs fd ⟨us,[]⟩=pure (ps.zip us)):∀j,j<=([]:List Dt).length->∃ds,aw ((([]:List Dt).drop j).map ql) ds/\Binds K fd ps ds:=λj hj=>by
 have:j=0:=by simpa using hj
 subst this;exact⟨[],.nil,Binds.all h⟩
def NL (names:List (Str×NameKind)) (ps:List Str):List Str:=ps++names.filterMap λp=>if ym (some p.2)&& !ps.contains p.1 then some p.1 else none
def Ff (N ms:List Str):List Bool:=N.map λx=>ms.contains x
def HN {N ms ps:List Str} (h:((Ff N ms).take ps.length).all (λb=> !b)=true):∀i,i < ps.length->(Ff N ms)[i]?≠some true:=λi hi e=>by have hm:true∈(Ff N ms).take ps.length:=List.mem_iff_getElem?.mpr ⟨i,by rw[List.getElem?_take_of_lt hi];exact e⟩;have:=Qa.mp h true hm;cases this
end
end Rx
end
section
namespace Rx
open PySem PySem.W PySem.Spec PyProof.Rows L2
section
variable {F:FT} {S:Sx} {ρ:ak}
def e9 {tg:Tg} {body:ak->Sx->RS} {ds:List Dt} (P:List Dt->ak->Prop) (h0:P [] ρ)
  (step:∀pre x post ρ,ds=pre++x::post->P pre ρ->∃ρ1 ρ2,bY tg x ρ= .ok ρ1/\body ρ1 S= .ok (.next,ρ2,S)/\P (pre++[x]) ρ2):∃ρ',forL tg body ds ρ S= .ok (.next,ρ',S)/\P ds ρ':=by
 have key:∀(post pre:List Dt) (ρ:ak),ds=pre++post->P pre ρ->∃ρ',forL tg body post ρ S= .ok (.next,ρ',S)/\P ds ρ':=by
  intro post
  induction post with
  | nil=>intro pre ρ e h;rw[Qd] at e;subst e;exact⟨ρ,rfl,h⟩
  | cons x post ih=>intro pre ρ e h;obtain⟨ρ1,ρ2,h1,h2,h3⟩:=step pre x post ρ e h;obtain⟨ρ',h4,h5⟩:=ih (pre++[x]) ρ2 (by rw[e];simp) h3;refine⟨ρ',?_,h5⟩;rw[forL,h1,R.ar,h2,R.ar];exact h4
 exact key ds [] ρ rfl h0
def fq {α β:Type} (f:α->β):∀l:List α,(l.flatMap λx=>[f x])=l.map f
 | []=>rfl
 | x::l=>by rw[List.flatMap_cons,fq f l];rfl
end
def zH {fs:List Fn} {n k:Nat} {g:Fn} {args:List Dt} {S:Sx} (h:fs[k]?=some g):aO fs (n + 1) k args S=gf (aO fs n) g args S:=by show (match fs[k]? with | some g=>gf (aO fs n) g args S | none=>R.bad)=_;rw[h]
def Gn (d:Dt) (S:Sx):R (Dt×Sx):=match d with | .int i=> .ok (.int (-i),S) | _=> .bad
def MU (d:Dt) (S:Sx):R (Dt×Sx):=match d with | .bl b=> .ok (.bl !b,S) | _=> .bad
def Ho (d:Dt) (S:Sx):R (Dt×Sx):=match d with | .bl c=> .ok (.bl c,S) | _=> .bad
def DI (f:Sx->R (Dt×Sx)) (d:Dt) (S:Sx):R (Dt×Sx):=match d with | .bl true=>(f S).bind (λy=>Ho y.1 y.2) | .bl false=> .ok (.bl false,S) | _=> .bad
def Kd (f:Sx->R (Dt×Sx)) (d:Dt) (S:Sx):R (Dt×Sx):=match d with | .bl false=>(f S).bind (λy=>Ho y.1 y.2) | .bl true=> .ok (.bl true,S) | _=> .bad
def BB (k:List Dt->Dt) (ds:List Dt) (S:Sx):R (Dt×Sx):=af (decide (ds.length<=lim)) (.ok (k ds,S))
def Lz (o:Option (List Dt)) (S:Sx):R (List Dt×Sx):=match o with | some ds=> .ok (ds,S) | none=> .bad
def F4 (d e:Dt) (S:Sx):R (Dt×Sx):=match e with | .int i=>(ir d (some i) none).bind λd=> .ok (d,S) | _=> .bad
def FJ (d e:Dt) (S:Sx):R (Dt×Sx):=match e with | .int i=>(ir d none (some i)).bind λd=> .ok (d,S) | _=> .bad
def RX:
  (∀{F:FT} {S:Sx} {ρ:ak} {d:Dt},ev F (.con d) ρ S= .ok (d,S))/\
  (∀{F:FT} {S:Sx} {ρ:ak} {i:Nat},ev F (.var i) ρ S=(ff ρ i).bind λd=> .ok (d,S))/\
  (∀{F:FT} {S:Sx} {ρ:ak} {i:Nat},ev F (.mvr i) ρ S=(ff ρ i).bind λd=> .ok (d,S))/\
  (∀{F:FT} {S:Sx} {ρ:ak} {o:Operator} {a b:C},ev F (.bin o a b) ρ S=(ev F a ρ S).bind λx=>(ev F b ρ x.2).bind λy=>(nG o x.1 y.1).bind λd=> .ok (d,y.2))/\
  (∀{F:FT} {S:Sx} {ρ:ak} {o:CmpOp} {a b:C},ev F (.cmp o a b) ρ S=(ev F a ρ S).bind λx=>(ev F b ρ x.2).bind λy=>(cU o x.1 y.1).bind λd=> .ok (.bl d,y.2))/\
  (∀{F:FT} {S:Sx} {ρ:ak} {a:C},ev F (.neg a) ρ S=(ev F a ρ S).bind λx=>Gn x.1 x.2)/\
  (∀{F:FT} {S:Sx} {ρ:ak} {a:C},ev F (.nt a) ρ S=(ev F a ρ S).bind λx=>MU x.1 x.2)/\
  (∀{F:FT} {S:Sx} {ρ:ak} {a b:C},ev F (.and a b) ρ S=(ev F a ρ S).bind λx=>DI (ev F b ρ) x.1 x.2)/\
  (∀{F:FT} {S:Sx} {ρ:ak} {a b:C},ev F (.or a b) ρ S=(ev F a ρ S).bind λx=>Kd (ev F b ρ) x.1 x.2)/\
  (∀{F:FT} {S:Sx} {ρ:ak} {a b c:C},ev F (.ite a b c) ρ S=(bQ F a ρ S).bind λx=>if x.1=true then ev F b ρ x.2 else ev F c ρ x.2)/\
  (∀{F:FT} {S:Sx} {ρ:ak} {a b:C},ev F (.idx a b) ρ S=(ev F a ρ S).bind λx=>(ev F b ρ x.2).bind λy=>(c8 x.1 y.1).bind λd=> .ok (d,y.2))/\
  (∀{F:FT} {S:Sx} {ρ:ak} {a b:C},ev F (.sliL a b) ρ S=(ev F a ρ S).bind λx=>(ev F b ρ x.2).bind λy=>F4 x.1 y.1 y.2)/\
  (∀{F:FT} {S:Sx} {ρ:ak} {a b:C},ev F (.sliH a b) ρ S=(ev F a ρ S).bind λx=>(ev F b ρ x.2).bind λy=>FJ x.1 y.1 y.2)/\
  (∀{F:FT} {S:Sx} {ρ:ak} {f:Nat} {es:Cs} {ds:List Dt},ev F (.call f es ds) ρ S=(fG F es ρ S).bind λx=>(F f (x.1++ds) none).bind λy=> .ok (y.1,x.2))/\
  (∀{F:FT} {S:Sx} {ρ:ak} {u:BI} {es:Cs},ev F (.bi u es) ρ S=(fG F es ρ S).bind λx=>(dJ u x.1).bind λd=> .ok (d,x.2))/\
  (∀{F:FT} {S:Sx} {ρ:ak} {es:Cs},ev F (.tup es) ρ S=(fG F es ρ S).bind λx=>BB .tup x.1 x.2)/\
  (∀{F:FT} {S:Sx} {ρ:ak} {es:Cs},ev F (.lst es) ρ S=(fG F es ρ S).bind λx=>BB .lst x.1 x.2)/\
  (∀{F:FT} {S:Sx} {ρ:ak},fG F .nil ρ S= .ok ([],S))/\
  (∀{F:FT} {S:Sx} {ρ:ak} {a:C} {es:Cs},fG F (.cons a es) ρ S=(ev F a ρ S).bind λx=>(fG F es ρ x.2).bind λy=> .ok (x.1::y.1,y.2))/\
  (∀{F:FT} {S:Sx} {ρ:ak} {o:CmpOp} {a b:C},bQ F (.cmp o a b) ρ S=(ev F a ρ S).bind λx=>(ev F b ρ x.2).bind λy=>(cU o x.1 y.1).bind λd=> .ok (d,y.2))/\
  (∀{F:FT} {S:Sx} {ρ:ak} {a b:C},bQ F (.and a b) ρ S=(bQ F a ρ S).bind λx=>if x.1=true then bQ F b ρ x.2 else .ok (false,x.2))/\
  (∀{F:FT} {S:Sx} {ρ:ak} {a b:C},bQ F (.or a b) ρ S=(bQ F a ρ S).bind λx=>if x.1=true then .ok (true,x.2) else bQ F b ρ x.2)/\
  (∀{F:FT} {S:Sx} {ρ:ak} {a:C},bQ F (.nt a) ρ S=(bQ F a ρ S).bind λx=> .ok (!x.1,x.2))/\
  (∀{F:FT} {S:Sx} {ρ:ak} {f:Nat} {es:Cs} {ds:List Dt},bQ F (.call f es ds) ρ S=(fG F es ρ S).bind λx=>(F f (x.1++ds) none).bind λy=>(dC y.1).bind λb=> .ok (b,x.2))/\
  (∀{F:FT} {S:Sx} {ρ:ak} {u:BI} {es:Cs},bQ F (.bi u es) ρ S=(fG F es ρ S).bind λx=>(dJ u x.1).bind λd=>(dC d).bind λb=> .ok (b,x.2))/\
  (∀{F:FT} {S:Sx} {ρ:ak} {i:Nat},bQ F (.var i) ρ S=(ff ρ i).bind λd=>(dC d).bind λb=> .ok (b,S))/\
  (∀{F:FT} {S:Sx} {ρ:ak} {i:Nat},bQ F (.mvr i) ρ S=(ff ρ i).bind λd=>(dC d).bind λb=> .ok (b,S))/\
  (∀{F:FT} {S:Sx} {ρ:ak} {a b:C},bQ F (.idx a b) ρ S=(ev F a ρ S).bind λx=>(ev F b ρ x.2).bind λy=>(c8 x.1 y.1).bind λd=>(dC d).bind λb=> .ok (b,y.2))/\
  (∀{F:FT} {S:Sx} {ρ:ak},cA F .nil ρ S= .ok (true,S))/\
  (∀{F:FT} {S:Sx} {ρ:ak} {a:C},cA F (.cons a .nil) ρ S=bQ F a ρ S)/\
  (∀{F:FT} {S:Sx} {ρ:ak} {a:C},dI F (.seq a) ρ S=(ev F a ρ S).bind λx=>Lz (itemsOf x.1) x.2)/\
  (∀{F:FT} {S:Sx} {ρ:ak} {a:C},dI F (.enum a) ρ S=(ev F a ρ S).bind λx=>Lz ((bF x.1).map (de 0)) x.2)/\
  (∀{d:Dt} {ρ:ak},ff (some d::ρ) 0= .ok d)/\
  (∀{e:Option Dt} {ρ:ak} {i:Nat},ff (e::ρ) (i + 1)=ff ρ i)/\
  (∀{S:Sx} {i:Int},Gn (.int i) S= .ok (.int (-i),S))/\
  (∀{S:Sx} {b:Bool},MU (.bl b) S= .ok (.bl !b,S))/\
  (∀{S:Sx} {f:Sx->R (Dt×Sx)},DI f (.bl false) S= .ok (.bl false,S))/\
  (∀{S:Sx} {f:Sx->R (Dt×Sx)},DI f (.bl true) S=(f S).bind λy=>Ho y.1 y.2)/\
  (∀{S:Sx} {f:Sx->R (Dt×Sx)},Kd f (.bl true) S= .ok (.bl true,S))/\
  (∀{S:Sx} {f:Sx->R (Dt×Sx)},Kd f (.bl false) S=(f S).bind λy=>Ho y.1 y.2)/\
  (∀{S:Sx} {b:Bool},Ho (.bl b) S= .ok (.bl b,S))/\
  (∀{S:Sx} {ds:List Dt},Lz (some ds) S= .ok (ds,S))/\
  (∀{ds:List Dt} {f:List Dt->List Dt},(some ds).map f=some (f ds))/\
  (∀{S:Sx} {k:List Dt->Dt},BB k [] S= .ok (k [],S))/\
  (∀{S:Sx} {k:List Dt->Dt} {a:Dt},BB k [a] S= .ok (k [a],S))/\
  (∀{S:Sx} {k:List Dt->Dt} {a b:Dt},BB k [a,b] S= .ok (k [a,b],S))/\
  (∀{S:Sx} {k:List Dt->Dt} {a b c:Dt},BB k [a,b,c] S= .ok (k [a,b,c],S))/\
  (∀{S:Sx} {k:List Dt->Dt} {a b c d:Dt},BB k [a,b,c,d] S= .ok (k [a,b,c,d],S))/\
  (∀{S:Sx} {k:List Dt->Dt} {a b c d e:Dt},BB k [a,b,c,d,e] S= .ok (k [a,b,c,d,e],S))/\
  (∀{S:Sx} {d:Dt} {i:Int},F4 d (.int i) S=(ir d (some i) none).bind λd=> .ok (d,S))/\
  (∀{S:Sx} {d:Dt} {i:Int},FJ d (.int i) S=(ir d none (some i)).bind λd=> .ok (d,S))/\
  (∀{m n:Int},nG .Add (.int m) (.int n)= .ok (.int (m + n)))/\
  (∀{m n:Int},nG .Sub (.int m) (.int n)= .ok (.int (m - n)))/\
  (∀{m n:Int},cU .Lt (.int m) (.int n)= .ok (decide (m < n)))/\
  (∀{m n:Int},cU .LtE (.int m) (.int n)= .ok (decide (m<=n)))/\
  (∀{m n:Int},cU .Gt (.int m) (.int n)= .ok (decide (n < m)))/\
  (∀{m n:Int},cU .GtE (.int m) (.int n)= .ok (decide (n<=m)))/\
  (∀{m n:Int},cU .Eq (.int m) (.int n)= .ok (m==n))/\
  (∀{m n:Int},cU .NotEq (.int m) (.int n)= .ok (!(m==n)))/\
  (∀{m n:Str},cU .Eq (.str m) (.str n)= .ok (m==n))/\
  (∀{m n:Str},cU .NotEq (.str m) (.str n)= .ok (!(m==n)))/\
  (∀{ns:List Int},dJ .len [.bK ns]= .ok (.int ns.length))/\
  (∀{ds:List Dt},dJ .len [.lst ds]= .ok (.int ds.length))/\
  (∀{ds:List Dt},dJ .len [.tup ds]= .ok (.int ds.length))/\
  (∀{ds:List Dt},dJ .tuple [.lst ds]= .ok (.tup ds))/\
  (∀{ds:List Dt},dJ .tuple [.tup ds]= .ok (.tup ds))/\
  (∀{ds:List Dt},dJ .list [.lst ds]= .ok (.lst ds))/\
  (∀{ds:List Dt},dJ .list [.tup ds]= .ok (.lst ds))/\
  (∀{m n:Int},dJ .min2 [.int m,.int n]= .ok (.int (if n < m then n else m)))/\
  (∀{t:Bool},dC (.bl t)= .ok t)/\
  (∀{ds:List Dt},dC (.lst ds)= .ok !ds.isEmpty)/\
  (∀{ds:List Dt},dC (.tup ds)= .ok !ds.isEmpty)/\
  (∀{ds:List Dt},itemsOf (.lst ds)=some ds)/\
  (∀{ds:List Dt},itemsOf (.tup ds)=some ds)/\
  (∀{ds:List Dt},bF (.lst ds)=some ds)/\
  (∀{ds:List Dt},bF (.tup ds)=some ds)/\
  (∀{α β:Type} {x:α} {f:α->R β},(R.ok x).bind f=f x)/\
  (∀{α:Type} {r:R α},af true r=r)/\
  (∀{ds:List Dt},(ds++[]:List Dt)=ds)/\
  (∀{e v:Option Dt} {ρ:ak},(e::ρ).set 0 v=v::ρ)/\
  (∀{e v:Option Dt} {ρ:ak} {i:Nat},(e::ρ).set (i + 1) v=e::ρ.set i v)/\
  (∀{d:Dt} {ρ:ak} {i:Nat},bY (.nm i) d ρ= .ok (ρ.set i (some d)))/\
  (∀{is:List Nat} {ds:List Dt} {ρ:ak},bY (.tp is) (.tup ds) ρ=dq is ds ρ)/\
  (∀{ρ:ak},dq [] [] ρ= .ok ρ)/\
  (∀{i:Nat} {is:List Nat} {d:Dt} {ds:List Dt} {ρ:ak},dq (i::is) (d::ds) ρ=dq is ds (ρ.set i (some d)))/\
  (∀{d:Dt},c8 (.tup [d]) (.int 0)= .ok d)/\
  (∀{d d2:Dt},c8 (.tup [d,d2]) (.int 0)= .ok d)/\
  (∀{d d2:Dt},c8 (.tup [d,d2]) (.int 1)= .ok d2)/\
  (∀{d d2 d3:Dt},c8 (.tup [d,d2,d3]) (.int 0)= .ok d)/\
  (∀{d d2 d3:Dt},c8 (.tup [d,d2,d3]) (.int 1)= .ok d2)/\
  (∀{d d2 d3:Dt},c8 (.tup [d,d2,d3]) (.int 2)= .ok d3):=
 ⟨@λ_ _ _ _=>rfl,
  @λ_ _ _ _=>rfl,
  @λ_ _ _ _=>rfl,
  @λ_ _ _ _ _ _=>rfl,
  @λ_ _ _ _ _ _=>rfl,
  @λ_ _ _ _=>rfl,
  @λ_ _ _ _=>rfl,
  @λ_ _ _ _ _=>rfl,
  @λ_ _ _ _ _=>rfl,
  @λ_ _ _ _ _ _=>rfl,
  @λ_ _ _ _ _=>rfl,
  @λ_ _ _ _ _=>rfl,
  @λ_ _ _ _ _=>rfl,
  @λ_ _ _ _ _ _=>rfl,
  @λ_ _ _ _ _=>rfl,
  @λ_ _ _ _=>rfl,
  @λ_ _ _ _=>rfl,
  @λ_ _ _=>rfl,
  @λ_ _ _ _ _=>rfl,
  @λ_ _ _ _ _ _=>rfl,
  @λ_ _ _ _ _=>rfl,
  @λ_ _ _ _ _=>rfl,
  @λ_ _ _ _=>rfl,
  @λ_ _ _ _ _ _=>rfl,
  @λ_ _ _ _ _=>rfl,
  @λ_ _ _ _=>rfl,
  @λ_ _ _ _=>rfl,
  @λ_ _ _ _ _=>rfl,
  @λ_ _ _=>rfl,
  @λ_ _ _ _=>rfl,
  @λ_ _ _ _=>rfl,
  @λF S ρ a=>by rw[dI];cases ev F a ρ S with | ok x=>(simp only[R.ar];cases bF x.1 <;> rfl) | ex k=>rfl | bad=>rfl,
  @λ_ _=>rfl,
  @λ_ _ _=>rfl,
  @λ_ _=>rfl,
  @λ_ _=>rfl,
  @λ_ _=>rfl,
  @λ_ _=>rfl,
  @λ_ _=>rfl,
  @λ_ _=>rfl,
  @λ_ _=>rfl,
  @λ_ _=>rfl,
  @λ_ _=>rfl,
  @λ_ _=>rfl,
  @λ_ _ _=>rfl,
  @λ_ _ _ _=>rfl,
  @λ_ _ _ _ _=>rfl,
  @λ_ _ _ _ _ _=>rfl,
  @λ_ _ _ _ _ _ _=>rfl,
  @λ_ _ _=>rfl,
  @λ_ _ _=>rfl,
  @λ_ _=>rfl,
  @λ_ _=>rfl,
  @λ_ _=>rfl,
  @λ_ _=>rfl,
  @λ_ _=>rfl,
  @λ_ _=>rfl,
  @λ_ _=>rfl,
  @λ_ _=>rfl,
  @λ_ _=>rfl,
  @λ_ _=>rfl,
  @λ_=>rfl,
  @λ_=>rfl,
  @λ_=>rfl,
  @λ_=>rfl,
  @λ_=>rfl,
  @λ_=>rfl,
  @λ_=>rfl,
  @λ_ _=>rfl,
  @λ_=>rfl,
  @λ_=>rfl,
  @λ_=>rfl,
  @λ_=>rfl,
  @λ_=>rfl,
  @λ_=>rfl,
  @λ_=>rfl,
  @λ_ _ _ _=>rfl,
  @λ_ _=>rfl,
  @λds=>Qd ds,
  @λ_ _ _=>rfl,
  @λ_ _ _ _=>rfl,
  @λ_ _ _=>rfl,
  @λ_ _ _=>rfl,
  @λ_=>rfl,
  @λ_ _ _ _ _=>rfl,
  @λ_=>rfl,
  @λ_ _=>rfl,
  @λ_ _=>rfl,
  @λ_ _ _=>rfl,
  @λ_ _ _=>rfl,
  @λ_ _ _=>rfl⟩
section
variable {F:FT} {S:Sx} {ρ:ak}
def bb {i j:Int} (h:i.natAbs < 2 ^ 64\/j.natAbs < 2 ^ 64):nG .Mult (.int i) (.int j)= .ok (.int (i * j)):=by grind [af,nG]
def cc {i j:Int} (h:0 < j):nG .Mod (.int i) (.int j)= .ok (.int (i % j)):=by show af (decide (0 < j)) _=_;rw[P3 h];rfl
def Cj {i j:Int} (h:0 < j) (h2:j.natAbs.log2 < 9000):nG .FloorDiv (.int i) (.int j)= .ok (.int (i / j)):=by grind [af,nG]
def fin (r:RS):R (Dt×Sx):=r.bind λp=>match p.1 with
 | .next=> .ok (.bo,p.2.2)
 | .ret d=> .ok (d,p.2.2)
 | _=> .bad
def Ts.app:Ts->Ts->Ts
 | .nil,b=>b
 | .cons t a,b=> .cons t (a.app b)
def mJ:∀{a b:Ts} {ρ:ak} {S:Sx},aR F (a.app b) ρ S=(aR F a ρ S).bind λp=>match p.1 with
  | .next=>aR F b p.2.1 p.2.2
  | f=> .ok (f,p.2)
 | .nil,b,ρ,S=>rfl
 | .cons t a,b,ρ,S=>by
  show aR F (.cons t (a.app b)) ρ S=_;rw[aR,aR];cases ex F t ρ S with
  | ok p=>
   obtain⟨f,ρ1,S1⟩:=p;cases f with
   | next=>exact mJ
   | brk=>rfl
   | cnt=>rfl
   | ret d=>rfl
  | ex k=>rfl
  | bad=>rfl
section
variable {r:R (Dt×Sx)} {ts:Ts}
def kh {t:T} {ρ1:ak} {S1:Sx} (h:ex F t ρ S= .ok (.next,ρ1,S1)) (k:fin (aR F ts ρ1 S1)=r):fin (aR F (.cons t ts) ρ S)=r:=by rw[aR,h];exact k
def As {t:T} {ρ1:ak} {S1:Sx} {d:Dt} (h:ex F t ρ S= .ok (.ret d,ρ1,S1)):fin (aR F (.cons t ts) ρ S)= .ok (d,S1):=by rw[aR,h];rfl
def aA {i:Nat} {c:C} {d:Dt} {S1:Sx} (h:ev F c ρ S= .ok (d,S1)) (hs:bJ c d=true) (k:fin (aR F ts (ρ.set i (some d)) S1)=r):fin (aR F (.cons (.asg i c) ts) ρ S)=r:=by refine kh ?_ k;rw[ex,h,R.ar,hs];rfl
def d6 {i:Nat} {c:C} {d:Dt} {S1:Sx} (h:ev F c ρ S= .ok (d,S1)) (hs:ml c d=true) (k:fin (aR F ts (ρ.set i (some d)) S1)=r):fin (aR F (.cons (.asgM i c) ts) ρ S)=r:=by refine kh ?_ k;rw[ex,h,R.ar,hs];rfl
def aq {c:C} {d:Dt} {S1:Sx} (h:ev F c ρ S= .ok (d,S1)):fin (aR F (.cons (.ret c) ts) ρ S)= .ok (d,S1):=by refine As (ρ1:=ρ) ?_;rw[ex,h];rfl
def wt {t:C} {a b:Ts} {x:Bool} {S1:Sx} (h:bQ F t ρ S= .ok (x,S1)) (k:fin (aR F ((if x=true then a else b).app ts) ρ S1)=r):fin (aR F (.cons (.ifs t a b) ts) ρ S)=r:=by rw[<-k,mJ,aR,ex,h,R.ar];cases x <;> rfl
def dF {t:C} {a b:Ts} {S1:Sx} (h:bQ F t ρ S= .ok (true,S1)) (k:fin (aR F (a.app ts) ρ S1)=r):fin (aR F (.cons (.ifs t a b) ts) ρ S)=r:=wt h (by rw[if_pos rfl];exact k)
def bZ {t:C} {a b:Ts} {S1:Sx} (h:bQ F t ρ S= .ok (false,S1)) (k:fin (aR F (b.app ts) ρ S1)=r):fin (aR F (.cons (.ifs t a b) ts) ρ S)=r:=wt h (by rw[if_neg (by simp)];exact k)
def cn {tg:Tg} {it:l0} {b:Ts} {ds:List Dt} {ρ1:ak} {S1 S2:Sx} (h:dI F it ρ S= .ok (ds,S1)) (hl:qk it=0) (hf:forL tg (aR F b) ds ρ S1= .ok (.next,ρ1,S2)) (k:fin (aR F ts ρ1 S2)=r):fin (aR F (.cons (.fr tg it b) ts) ρ S)=r:=by refine kh ?_ k;rw[ex,h,R.ar,P3 hl,Bool.true_or];exact hf
end
end
def aI {fs:List Fn} {n k ps m:Nat} {body:Ts} {args:List Dt} {r:R (Dt×Sx)} {S:Sx} (h:fs[k]?=some ⟨ps,m,false,body⟩) (hn:1<=n) (hl:args.length=ps) (q:fin (aR (aO fs (n - 1)) body (args.map some++List.replicate (m - ps) none) S)=r):aO fs n k args S=r:=by obtain⟨n,rfl⟩:∃m,n=m + 1:=⟨n - 1,by omega⟩;rw[zH h];unfold gf;simp only[Bool.false_eq_true,if_false,Nat.add_zero,hl,if_true,List.nil_append];exact q
def pE:Ts:=(.cons (.ifs (.cmp .Lt (.var 1) (.bi .len (.cons (.var 0) .nil))) (.cons (.ret (.idx (.var 0) (.var 1))) .nil) .nil) (.cons (.asg 2 (.bin .Add (.bin .Mult (.var 1) (.con (.int 7919))) (.con (.int 5)))) (.cons (.ifs (.cmp .Gt (.bi .len (.cons (.var 0) .nil)) (.con (.int 0))) (.cons (.asg 2 (.bin .Add (.bin .Add (.bin .Mult (.bin .Mod (.idx (.var 0) (.bin .Mod (.var 1) (.bi .len (.cons (.var 0) .nil)))) (.con (.int 2147483647))) (.con (.int 48271))) (.bin .Mult (.bin .Mult (.var 1) (.var 1)) (.con (.int 7919)))) (.con (.int 11)))) .nil) .nil) (.cons (.ret (.bin .Mod (.bin .Mult (.var 2) (.var 2)) (.con (.int 2147483629)))) .nil))))
def sT {ns:List Int} {k:Nat} (h:k < ns.length):c8 (.bK ns) (.int k)= .ok (.int ns[k]):=by show u6 (ns.map Dt.int) k=_;unfold u6;rw[L2.iG (v:= .int ns[k]) (by simp[h])]
def gd (ns:List Int) (k:Nat):Int:=if h:k < ns.length then ns[k] else
 let m:Int:=if h:0 < ns.length then ns[k % ns.length]'(Nat.mod_lt _ h) % 2147483647 * 48271 + k * k * 7919 + 11 else k * 7919 + 5
 m * m % 2147483629
def n9 {fs:List Fn} {ic:Nat} (hc:fs[ic]?=some ⟨2,3,false,pE⟩) {n:Nat} (hn:1<=n) {ns:List Int} {k:Nat} (hk:k < 1000000):aO fs n ic [.bK ns,.int k] none= .ok (.int (gd ns k),none):=by
 refine aI hc hn rfl ?_;show fin (aR (aO fs (n - 1)) pE [some (.bK ns),some (.int k),none] none)=_;by_cases h:k < ns.length
 ·refine dF (S1:=none) (by simp only[RX];simp[h]) ?_;exact(aq (d:= .int ns[k]) (S1:=none) (by simp only[RX,sT h])).trans (by simp[gd,h])
 ·have b1:(k:Int) * k<=1000000 * 1000000:=by have:k * k<=1000000 * 1000000:=Nat.mul_le_mul (by omega) (by omega);rw[<-Int.natCast_mul];omega
  have b0:(0:Int)<=(k:Int) * k:=Int.mul_nonneg (by omega) (by omega);have m1:=bb (i:=k) (j:=7919) (.inl (by omega));refine bZ (S1:=none) (by simp only[RX];simp;omega) (aA (d:= .int (k * 7919 + 5)) (S1:=none) (by simp only[RX,m1]) rfl ?_);by_cases h2:0 < ns.length
  ·have hm:=Nat.mod_lt k h2;have e1:((k:Int) % (ns.length:Int))=((k % ns.length:Nat):Int):=by simp
   generalize hx:ns[k % ns.length]=x;have r1:=Qb x (b:=2147483647) (by decide);have r2:=Qc x (b:=2147483647) (by decide);have m2:=cc (i:=k) (j:=ns.length) (by omega);rw[e1] at m2;have m3:=cc (i:=x) (j:=2147483647) (by decide);have m4:=bb (i:=x % 2147483647) (j:=48271) (.inl (by omega));have m5:=bb (i:=k) (j:=k) (.inl (by omega));have m6:=bb (i:=(k:Int) * k) (j:=7919) (.inl (by omega));have m7:=bb (i:=x % 2147483647 * 48271 + k * k * 7919 + 11) (j:=x % 2147483647 * 48271 + k * k * 7919 + 11) (.inl (by omega));have m8:=cc (i:=(x % 2147483647 * 48271 + k * k * 7919 + 11) * (x % 2147483647 * 48271 + k * k * 7919 + 11)) (j:=2147483629) (by decide);refine dF (S1:=none) (by simp only[RX];simp;omega) (aA (d:= .int (x % 2147483647 * 48271 + k * k * 7919 + 11)) (S1:=none) ?_ rfl ?_)
   ·simp only[RX,m2,m3,m4,m5,m6,sT hm,hx]
   ·refine(aq (d:=_) (S1:=none) (by simp only[RX,m7,m8];rfl)).trans ?_;simp[gd,h,h2,hx]
  ·have z0:decide ((0:Int) < ns.length)=false:=PY (by omega);have m7:=bb (i:=k * 7919 + 5) (j:=k * 7919 + 5) (.inl (by omega));have m8:=cc (i:=((k:Int) * 7919 + 5) * (k * 7919 + 5)) (j:=2147483629) (by decide);refine bZ (S1:=none) (by simp only[RX,z0]) ((aq (d:=_) (S1:=none) (by simp only[RX,m7,m8];rfl)).trans ?_);simp[gd,h,h2]
section
variable {F:FT} {S S1 S2:Sx} {ρ ρ1:ak} {ts:Ts} {r:RS} {d:Dt} {ds:List Dt}
def nx {t:T} (h:ex F t ρ S= .ok (.next,ρ1,S1)) (k:aR F ts ρ1 S1=r):aR F (.cons t ts) ρ S=r:=by rw[aR,h];exact k
def fu {i:Nat} {c:C} (h:ev F c ρ S= .ok (d,S1)) (hs:bJ c d=true) (k:aR F ts (ρ.set i (some d)) S1=r):aR F (.cons (.asg i c) ts) ρ S=r:=by refine nx ?_ k;rw[ex,h,R.ar,hs];rfl
def AD {i:Nat} {c:C} (h:ev F c ρ S= .ok (d,S1)) (hs:ml c d=true) (k:aR F ts (ρ.set i (some d)) S1=r):aR F (.cons (.asgM i c) ts) ρ S=r:=by refine nx ?_ k;rw[ex,h,R.ar,hs];rfl
def BP {t:C} {a b:Ts} {x:Bool} (h:bQ F t ρ S= .ok (x,S1)) (k:aR F ((if x=true then a else b).app ts) ρ S1=r):aR F (.cons (.ifs t a b) ts) ρ S=r:=by rw[<-k,mJ,aR,ex,h,R.ar];cases x <;> rfl
def vV {t:C} {a b:Ts} (h:bQ F t ρ S= .ok (true,S1)) (k:aR F (a.app ts) ρ S1=r):aR F (.cons (.ifs t a b) ts) ρ S=r:=BP h (by rw[if_pos rfl];exact k)
def uN {t:C} {a b:Ts} (h:bQ F t ρ S= .ok (false,S1)) (k:aR F (b.app ts) ρ S1=r):aR F (.cons (.ifs t a b) ts) ρ S=r:=BP h (by rw[if_neg (by simp)];exact k)
def vY {tg:Tg} {it:l0} {b:Ts} (h:dI F it ρ S= .ok (ds,S1)) (hl:qk it=0) (hf:forL tg (aR F b) ds ρ S1= .ok (.next,ρ1,S2)) (k:aR F ts ρ1 S2=r):aR F (.cons (.fr tg it b) ts) ρ S=r:=by refine nx ?_ k;rw[ex,h,R.ar,P3 hl,Bool.true_or];exact hf
def mI {i:Nat} (hl:ρ[i]?=some (some (.lst ds))):isLE ρ i=true:=by unfold isLE;rw[hl]
def nY {i:Nat} (hl:ρ[i]?=some (some (.lst ds))):oZ ρ i= .ok ds:=by unfold oZ;rw[hl]
def Cq {i:Nat} {c:C} (hl:ρ[i]?=some (some (.lst ds))) (h:ev F c ρ S= .ok (d,S1)) (hs:bJ c d=true) (hz:ds.length<=lim):ex F (.app i c) ρ S= .ok (.next,ρ.set i (some (.lst (ds++[d]))),S1):=by simp_all [ex,mI,guard_true,R.ar,nY]
def CH {i:Nat} {c:C} {es:List Dt} (hl:ρ[i]?=some (some (.lst ds))) (h:ev F c ρ S= .ok (.lst es,S1)) (hs:lk c<=1) (hz:ds.length + es.length<=lim):ex F (.xtd i c) ρ S= .ok (.next,ρ.set i (some (.lst (ds++es))),S1):=by simp_all [ex,mI,guard_true,R.ar,nY,af,lim]
def zE {i:Nat} {k v:C} {n:Int} {j:Nat} (hl:ρ[i]?=some (some (.lst ds))) (h:ev F v ρ S= .ok (d,S1)) (h2:ev F k ρ S1= .ok (.int n,S2)) (hs:bJ v d=true) (hz:ox ds.length n=some j):ex F (.yH i k v) ρ S= .ok (.next,ρ.set i (some (.lst (ds.set j d))),S2):=by simp_all [ex,mI,guard_true,R.ar,nY,ox]
def fm {i:Nat} {c:C} (hl:ρ[i]?=some (some (.lst ds))) (h:ev F c ρ S= .ok (d,S1)) (hs:bJ c d=true) (hz:ds.length<=lim) (k:aR F ts (ρ.set i (some (.lst (ds++[d])))) S1=r):aR F (.cons (.app i c) ts) ρ S=r:=nx (Cq hl h hs hz) k
def C1 {i:Nat} {c:C} {es:List Dt} (hl:ρ[i]?=some (some (.lst ds))) (h:ev F c ρ S= .ok (.lst es,S1)) (hs:lk c<=1) (hz:ds.length + es.length<=lim) (k:aR F ts (ρ.set i (some (.lst (ds++es)))) S1=r):aR F (.cons (.xtd i c) ts) ρ S=r:=nx (CH hl h hs hz) k
def kF {c:C} {n:Nat} (h:ev F c ρ S= .ok (.int n,S1)) (hn:n<=lim):dI F (.rng1 c) ρ S= .ok (bU 0 n,S1):=by show (ev F c ρ S).bind (λx=>match x.1 with | .int j=>af (decide (j<=lim)&&decide (-lim<=j)) (.ok (bU 0 j.toNat,x.2)) | _=> .bad)=_;rw[h,R.ar];show af (decide ((n:Int)<=lim)&&decide (-lim<=(n:Int))) (R.ok (bU 0 (n:Int).toNat,S1))=_;rw[show (decide ((n:Int)<=lim)&&decide (-lim<=(n:Int)))=true by have:lim=1000000:=rfl;simp;omega];simp
def Dv {a b:C} {da db:Dt} {xs ys:List Dt} (ha:ev F a ρ S= .ok (da,S1)) (hb:ev F b ρ S1= .ok (db,S2)) (h1:bF da=some xs) (h2:bF db=some ys):dI F (.zip a b) ρ S= .ok (fk xs ys,S2):=by grind [ev,bF,fk,R.ar,C,Dt,dI]
def dS (F:FT) (e:C):ak->Sx->R (List Dt×Sx):=λρ1 S1=>(ev F e ρ1 S1).bind λy=>af (bJ e y.1) (.ok ([y.1],y.2))
def bR {cap:List (Option Nat)} {it:l0} {tg:Tg} {cs:Cs} {e:C} {out:List Dt} (h:dI F it ρ S= .ok (ds,S1)) (hl:ds.length<=lim) (hk:(decide (qk it<=1)||kK F it ρ S)=true) (hc:bg (br tg (cA F cs) (dS F e) (fX cap ρ)) ds S1= .ok (out,S2)):
  ev F (.comp cap it tg cs e) ρ S= .ok (.lst out,S2):=by
 rw[ev,h,R.ar,P3 hl,hk,Bool.and_true,guard_true];show (bg (br tg (cA F cs) (dS F e) (fX cap ρ)) ds S1).bind _=_;rw[hc];rfl
def dg {tg:Tg} {e:C} {y:Dt} (hs:bY tg d ρ= .ok ρ1) (he:ev F e ρ1 S= .ok (y,S1)) (hb:bJ e y=true):br tg (cA F .nil) (dS F e) ρ d S= .ok ([y],S1):=by simp_all [br,dS,R.ar,cA,guard_true]
def turn_if {tg:Tg} {c e:C} {b:Bool} {y:Dt} (hs:bY tg d ρ= .ok ρ1) (hc:bQ F c ρ1 S= .ok (b,S)) (he:b=true->ev F e ρ1 S= .ok (y,S)/\bJ e y=true):br tg (cA F (.cons c .nil)) (dS F e) ρ d S= .ok (if b=true then[y] else[],S):=by grind [br,dS,R.ar,cA,guard_true]
def xW {k:Nat} (h:ds[k]?=some d):c8 (.tup ds) (.int k)= .ok d/\c8 (.lst ds) (.int k)= .ok d:=by
 have:u6 ds k= .ok d:=by unfold u6;rw[L2.iG h]
 exact⟨this,this⟩
end
mutual
def y8:∀m:Mx.D,pl (ofD m)=true
 | .int _=>by simp[ofD,pl]
 | .str _=>by simp[ofD,pl]
 | .tup ms=>by simp[ofD,pl,qU ms]
def qU:∀ms:List Mx.D,l7 (aa ms)=true
 | []=>by simp[aa,l7]
 | m::ms=>by simp[aa,l7,y8 m,qU ms]
end
mutual
def wH:∀m:Mx.D,dp (ofD m)=Mx.D.dep m
 | .int _=>by simp[ofD,dp,Mx.D.dep]
 | .str _=>by simp[ofD,dp,Mx.D.dep]
 | .tup ms=>by simp[ofD,dp,Mx.D.dep,nK ms]
def nK:∀ms:List Mx.D,rA (aa ms)=Mx.D.cC ms
 | []=>by simp[aa,rA,Mx.D.cC]
 | m::ms=>by simp[aa,rA,Mx.D.cC,wH m,nK ms]
end
mutual
def gJ:∀m:Mx.D,gk (ofD m)=true
 | .int _=>by simp[ofD,gk]
 | .str _=>by simp[ofD,gk]
 | .tup ms=>by simp[ofD,gk,sM ms]
def sM:∀ms:List Mx.D,gI (aa ms)=true
 | []=>by simp[aa,gI]
 | m::ms=>by simp[aa,gI,gJ m,sM ms]
end
mutual
def yu:∀a b:Mx.D,bH (ofD a) (ofD b)=Mx.D.gh a b
 | .int i,.int j=>by simp[ofD,bH,Mx.D.gh]
 | .str i,.str j=>by simp[ofD,bH,Mx.D.gh]
 | .tup i,.tup j=>by simp[ofD,bH,Mx.D.gh,wW i j]
 | .int _,.str _=>by simp[ofD,bH,Mx.D.gh]
 | .int _,.tup _=>by simp[ofD,bH,Mx.D.gh]
 | .str _,.int _=>by simp[ofD,bH,Mx.D.gh]
 | .str _,.tup _=>by simp[ofD,bH,Mx.D.gh]
 | .tup _,.int _=>by simp[ofD,bH,Mx.D.gh]
 | .tup _,.str _=>by simp[ofD,bH,Mx.D.gh]
def wW:∀a b:List Mx.D,bP (aa a) (aa b)=Mx.D.eqs a b
 | [],[]=>by simp[aa,bP,Mx.D.eqs]
 | [],_::_=>by simp[aa,bP,Mx.D.eqs]
 | _::_,[]=>by simp[aa,bP,Mx.D.eqs]
 | a::as,b::bs=>by simp[aa,bP,Mx.D.eqs,yu a b,wW as bs]
end
def Au {a b:Mx.D} (h:Mx.D.dep a<=100):cU .Eq (ofD a) (ofD b)= .ok (decide (a=b)):=by show af (fY (ofD a) (ofD b)) (.ok (bH (ofD a) (ofD b)))=_;rw[show fY (ofD a) (ofD b)=true by simp[fY,y8,wH,h],guard_true,yu,Mx.D.hJ]
def tX {a b:Mx.D} (h:Mx.D.dep a<=100):cU .NotEq (ofD a) (ofD b)= .ok (!decide (a=b)):=by show af (fY (ofD a) (ofD b)) (.ok (!bH (ofD a) (ofD b)))=_;rw[show fY (ofD a) (ofD b)=true by simp[fY,y8,wH,h],guard_true,yu,Mx.D.hJ]
def aQ (a b:List Mx.D):aa (a++b)=aa a++aa b:=by simp[ba]
def aj (a:List Mx.D):(aa a).length=a.length:=by simp[ba]
def sC {pre post:List Dt} {x:Dt} {a:List Mx.D} (h:aa a=pre++x::post):∃p y q,a=p++y::q/\pre=aa p/\x=ofD y/\post=aa q:=by rw[ba] at h;obtain⟨p,r,e1,e2,e3⟩:=List.map_eq_append_iff.mp h;obtain⟨y,q,e4,e5,e6⟩:=List.map_eq_cons_iff.mp e3;exact⟨p,y,q,by rw[e1,e4],by rw[ba,e2],e5.symm,by rw[ba,e6]⟩
def fR {ms:List Mx.D} (h:il ms=true):dJ .sorted [.lst (aa ms)]= .ok (.lst (aa (aK ms)))/\dJ .sorted [.tup (aa ms)]= .ok (.lst (aa (aK ms))):=by
 constructor
 ·show (match kH (aa ms) with | some ms=>af (il ms) (R.ok (Dt.lst (aa (aK ms)))) | none=> .bad)=_;rw[fM];show af (il ms) _=_;rw[h];rfl
 ·show (match kH (aa ms) with | some ms=>af (il ms) (R.ok (Dt.lst (aa (aK ms)))) | none=> .bad)=_;rw[fM];show af (il ms) _=_;rw[h];rfl
def wy {ms:List Mx.D} (k:Mx.SK) (hl:ms.length < 1000000) (hd:Mx.D.cC ms<=100) (hk:∀d∈ms,Hj k d=true) (hp:∀d∈ms,∀e∈ms,k7 d e=true):il ms=true:=by
 have jt:([Mx.SK.tt,.ts,.ti,.s,.i].any λk=>ms.all (Hj k))=true:=by rw[List.any_eq_true];exact⟨k,by cases k <;> simp,Qa.mpr hk⟩
 unfold il;rw[jt,P3 hl,P3 hd];simp only[Bool.true_and,Qe,Pm];exact .inr (Qa.mpr λd h=>Qa.mpr λe h2=>hp d h e h2)
def d9 {n:Nat}:∀{ms:List Mx.D},(∀d∈ms,Mx.D.dep d<=n)->Mx.D.cC ms<=n
 | [],_=>by simp[Mx.D.cC]
 | m::ms,h=>by
  have h1:=h m Pu;have h2:=d9 λd hd=>h d (Pq _ hd)
  simp only[Mx.D.cC];omega
def bx (ms:List Mx.D):(aK ms).Perm ms:=List.mergeSort_perm ..
def cH {d:Mx.D} {ms:List Mx.D}:d∈aK ms↔d∈ms:=(bx ms).mem_iff
def vj (a b c:Mx.D) (h1:oj a b=true) (h2:oj b c=true):oj a c=true:=by
 unfold oj at *;simp only[Bool.not_eq_true'] at *;cases h:Mx.D.lt c a with
 | false=>rfl
 | true=>
  exfalso;cases h3:Mx.D.lt a b with
  | true=>rw[Mx.D.lt_trans c a b h h3] at h2;cases h2
  | false=>have:=Mx.D.dQ a b h3 h1;subst this;rw[h] at h2;cases h2
def uQ (a b:Mx.D):(oj a b||oj b a)=true:=by
 unfold oj;cases h:Mx.D.lt b a with
 | false=>rfl
 | true=>
  cases h2:Mx.D.lt a b with
  | false=>rfl
  | true=>have:=Mx.D.lt_trans a b a h2 h;rw[Mx.D.lt_irrefl] at this;cases this
def gW (ms:List Mx.D):(aK ms).Pairwise λa b=>oj a b=true:=List.pairwise_mergeSort vj uQ ms
def gC:∀{a b:List Mx.D},a.Pairwise (λx y=>Mx.D.lt x y=true)->b.Pairwise (λx y=>Mx.D.lt x y=true)->(∀x,x∈a↔x∈b)->a=b
 | [],[],_,_,_=>rfl
 | [],y::b,_,_,h=>by have:=(h y).mpr Pu;cases this
 | x::a,[],_,_,h=>by have:=(h x).mp Pu;cases this
 | x::a,y::b,ha,hb,h=>by
  have KW:=List.pairwise_cons.mp ha;have lX:=List.pairwise_cons.mp hb;have N8:x=y:=by
   rcases PC.mp ((h x).mp Pu) with e | e
   ·exact e
   ·rcases PC.mp ((h y).mpr Pu) with e2 | e2
    ·exact e2.symm
    ·have:=Mx.D.lt_trans x y x (KW.1 y e2) (lX.1 x e);rw[Mx.D.lt_irrefl] at this;cases this
  subst N8;rw[gC KW.2 lX.2 λz=>?_];constructor
  ·intro hz;rcases PC.mp ((h z).mp (Pq _ hz)) with e | e
   ·subst e;have:=KW.1 z hz;rw[Mx.D.lt_irrefl] at this;cases this
   ·exact e
  ·intro hz;rcases PC.mp ((h z).mpr (Pq _ hz)) with e | e
   ·subst e;have:=lX.1 z hz;rw[Mx.D.lt_irrefl] at this;cases this
   ·exact e
def p8 {a b:Mx.D} (h:oj a b=true) (n:a≠b):Mx.D.lt a b=true:=by
 unfold oj at h;cases h2:Mx.D.lt a b with
 | true=>rfl
 | false=>exact absurd (Mx.D.dQ a b h2 (by simpa using h)) n
def pU {ms:List Mx.D} (h:ms.Nodup):(aK ms).Pairwise λa b=>Mx.D.lt a b=true:=by have h1:=gW ms;have h2:(aK ms).Nodup:=(bx ms).nodup_iff.mpr h;exact h1.imp₂ (λa b x y=>p8 x y) h2
def uq:Option Mx.D->List Mx.D->List Mx.D
 | _,[]=>[]
 | p,x::r=>if p=some x then uq (some x) r else x::uq (some x) r
def xy {x:Mx.D}:∀{a:List Mx.D} {p:Option Mx.D},uq p (a++[x])=uq p a++uq (a.getLast?.or p) [x]
 | [],p=>by show uq p [x]=[]++uq ((none:Option Mx.D).or p) [x];rw[Option.none_or];rfl
 | y::a,p=>by
  have e:((y::a).getLast?.or p)=(a.getLast?.or (some y)):=by
   cases a with
   | nil=>rfl
   | cons z a=>simp[List.getLast?_cons]
  rw[e,List.cons_append,uq,uq,xy];split <;> simp
def sJ:∀{a:List Mx.D} {p:Option Mx.D},(uq p a).getLast?.or p=a.getLast?.or p
 | [],p=>rfl
 | y::a,p=>by
  have ih:=sJ (a:=a) (p:=some y);rw[uq];have e:((y::a).getLast?.or p)=(a.getLast?.or (some y)):=by
   cases a with
   | nil=>rfl
   | cons z a=>simp[List.getLast?_cons]
  rw[e];split
  ·rename_i h;rw[h];exact ih
  ·rw[<-ih];cases hq:uq (some y) a with
   | nil=>rfl
   | cons z q=>simp[List.getLast?_cons]
def xD {x:Mx.D}:∀{a:List Mx.D} {p:Option Mx.D},(x∈uq p a\/p=some x)↔(x∈a\/p=some x)
 | [],p=>by simp[uq]
 | y::a,p=>by
  have ih:=xD (x:=x) (a:=a) (p:=some y);rw[uq];split
  ·rename_i h;subst h;simp only[Option.some.injEq,PC] at *;constructor
   ·intro z;rcases ih.mp z with z | z
    ·exact .inl (.inr z)
    ·exact .inr z
   ·rintro((z | z) | z)
    ·exact .inr z.symm
    ·exact ih.mpr (.inl z)
    ·exact .inr z
  ·simp only[PC,Option.some.injEq] at *;constructor
   ·rintro((z | z) | z)
    ·exact .inl (.inl z)
    ·rcases ih.mp (.inl z) with z | z
     ·exact .inl (.inr z)
     ·exact .inl (.inl z.symm)
    ·exact .inr z
   ·rintro((z | z) | z)
    ·exact .inl (.inl z)
    ·rcases ih.mpr (.inl z) with z | z
     ·exact .inl (.inr z)
     ·exact .inl (.inl z.symm)
    ·exact .inr z
def mF {x:Mx.D}:∀{a:List Mx.D} {p:Option Mx.D},x∈uq p a->x∈a
 | [],p,h=>by simp[uq] at h
 | y::a,p,h=>by
  rw[uq] at h;split at h
  ·exact Pq _ (mF h)
  ·rcases PC.mp h with h | h
   ·rw[h];exact Pu
   ·exact Pq _ (mF h)
def rB:∀{a:List Mx.D} {p:Option Mx.D},(uq p a).length<=a.length
 | [],p=>by simp[uq]
 | y::a,p=>by have:=rB (a:=a) (p:=some y);rw[uq];split <;> simp <;> omega
def mE:∀{a:List Mx.D} {p:Option Mx.D},a.Pairwise (λx y=>oj x y=true)->(∀x∈a,∀y,p=some y->oj y x=true)->(uq p a).Pairwise (λx y=>Mx.D.lt x y=true)/\∀x∈uq p a,∀y,p=some y->Mx.D.lt y x=true
 | [],p,_,_=>by simp[uq]
 | y::a,p,h,hp=>by
  have h':=List.pairwise_cons.mp h;obtain⟨i1,i2⟩:=mE (p:=some y) h'.2 (λx hx z e=>by cases e;exact h'.1 x hx);rw[uq];split
  ·rename_i e;subst e;exact⟨i1,i2⟩
  ·rename_i ne;have key:∀z,p=some z->Mx.D.lt z y=true:=λz e=>p8 (hp y Pu z e) λe2=>ne (by rw[e,e2])
   refine⟨List.pairwise_cons.mpr ⟨λx hx=>i2 x hx y rfl,i1⟩,λx hx z e=>?_⟩;rcases PC.mp hx with rfl | hx
   ·exact key z e
   ·exact Mx.D.lt_trans z y x (key z e) (i2 x hx y rfl)
variable {fs:List Fn}
def xY (ic:Nat):Ts:=(.cons (.asg 3 (.bin .Add (.bin .Mult (.bin .Mod (.call ic (.cons (.var 0) (.cons (.var 1) .nil)) []) (.con (.int 2147483647))) (.bin .Add (.con (.int 48271)) (.bin .Mult (.con (.int 2)) (.var 1)))) (.bin .Mult (.con (.int 31)) (.var 1)))) (.cons (.ret (.bin .Mod (.bin .FloorDiv (.bin .Mod (.var 3) (.con (.int 2147483629))) (.con (.int 7))) (.var 2))) .nil))
def b8 (ns:List Int) (k many:Nat):Nat:=((((gd ns k % 2147483647) * (48271 + 2 * k) + 31 * k) % 2147483629 / 7) % many).toNat
def du {ns:List Int} {k many:Nat} (h:0 < many):b8 ns k many < many:=by unfold b8;have h1:=Qb (((gd ns k % 2147483647) * (48271 + 2 * k) + 31 * k) % 2147483629 / 7) (b:=many) (by omega);have h2:=Qc (((gd ns k % 2147483647) * (48271 + 2 * k) + 31 * k) % 2147483629 / 7) (b:=many) (by omega);omega
structure jw (fs:List Fn) (ip:Nat):Prop where
 ex:∃ic,fs[ic]?=some ⟨2,3,false,pE⟩/\fs[ip]?=some ⟨3,4,false,xY ic⟩
def ni {ip:Nat} (hp:jw fs ip) {n:Nat} (hn:2<=n) {ns:List Int} {k many:Nat} (hk:k < 1000000) (hm:0 < many):aO fs n ip [.bK ns,.int k,.int many] none= .ok (.int (b8 ns k many),none):=by
 obtain⟨ic,h1,h2⟩:=hp.ex;refine aI h2 (by omega) rfl ?_;show fin (aR (aO fs (n - 1)) (xY ic) [some (.bK ns),some (.int k),some (.int many),none] none)=_;have hc:=n9 h1 (n:=n - 1) (by omega) (ns:=ns) hk;generalize hx:gd ns k=x at hc;have r1:=Qb x (b:=2147483647) (by decide);have r2:=Qc x (b:=2147483647) (by decide);have m1:=cc (i:=x) (j:=2147483647) (by decide);have m2:=bb (i:=2) (j:=k) (.inl (by decide));have m3:=bb (i:=x % 2147483647) (j:=48271 + 2 * k) (.inl (by omega));have m4:=bb (i:=31) (j:=k) (.inl (by decide));have m5:=cc (i:=x % 2147483647 * (48271 + 2 * k) + 31 * k) (j:=2147483629) (by decide);have m6:=Cj (i:=(x % 2147483647 * (48271 + 2 * k) + 31 * k) % 2147483629) (j:=7) (by decide) (by decide);have m7:=cc (i:=(x % 2147483647 * (48271 + 2 * k) + 31 * k) % 2147483629 / 7) (j:=many) (by omega);refine aA (d:= .int (x % 2147483647 * (48271 + 2 * k) + 31 * k)) (S1:=none) (by simp only[RX,hc,m1,m2,m3,m4]) rfl ?_;refine(aq (d:=_) (S1:=none) (by simp only[RX,m5,m6,m7];rfl)).trans ?_;have h1:=Qb (((x % 2147483647) * (48271 + 2 * k) + 31 * k) % 2147483629 / 7) (b:=many) (by omega);have e:((b8 ns k many:Nat):Int)=((x % 2147483647) * (48271 + 2 * k) + 31 * k) % 2147483629 / 7 % many:=by unfold b8;rw[hx];omega
 rw[e]
def tO:Ts:=(.cons (.ret (.bin .Mod (.bin .Add (.bin .Add (.bin .Mult (.var 0) (.con (.int 31))) (.bin .Mult (.var 1) (.con (.int 7)))) (.con (.int 13))) (.con (.int 9973)))) .nil)
def mv (k j:Nat):Nat:=(k * 31 + j * 7 + 13) % 9973
def yR {k j:Nat}:mv k j < 9973:=Nat.mod_lt _ (by decide)
def Bi {i:Nat} (hp:fs[i]?=some ⟨2,2,false,tO⟩) {n:Nat} (hn:1<=n) {k j:Nat}:aO fs n i [.int k,.int j] none= .ok (.int (mv k j),none):=by
 refine aI hp hn rfl ?_;show fin (aR (aO fs (n - 1)) tO [some (.int k),some (.int j)] none)=_;have m1:=bb (i:=k) (j:=31) (.inr (by decide));have m2:=bb (i:=j) (j:=7) (.inr (by decide));have m3:=cc (i:=(k:Int) * 31 + j * 7 + 13) (j:=9973) (by decide);refine(aq (d:=_) (S1:=none) (by simp only[RX,m1,m2,m3];rfl)).trans ?_;have e:((mv k j:Nat):Int)=((k:Int) * 31 + j * 7 + 13) % 9973:=by unfold mv;omega
 rw[e]
def jk {z:Str} {k:Nat} (hz:z.length<=lim) (h:k < z.length):∃c,c8 (.str z) (.int k)= .ok (.str ⟨#[c]⟩):=by
 have MZ:z.cps.toList.length=z.length:=by simp[Str.length]
 refine⟨z.cps.toList[k],?_⟩;show af (decide (z.length<=lim)) (match kX z.cps.toList k with | some c=>R.ok (Dt.str ⟨#[c]⟩) | none=> .bad)=_;rw[P3 hz,guard_true,L2.iG (v:=z.cps.toList[k]) (PX _)]
def fJ {a b:Str} (h:a.length + b.length<=lim):nG .Add (.str a) (.str b)= .ok (.str (a++b)):=by show af (decide (a.length + b.length<=lim)) _=_;rw[P3 h];rfl
def len_str {z:Str} (h:z.length<=lim):dJ .len [.str z]= .ok (.int z.length):=by show af (decide (z.length<=lim)) _=_;rw[P3 h];rfl
def nZ {z:Str} {lo hi:Option Int} (h:z.length<=lim):ir (.str z) lo hi= .ok (.str (PySem.Txt.slice z lo hi)):=by show af (decide (z.length<=lim)) _=_;rw[P3 h];rfl
def len_cat (a b:Str):(a++b).length=a.length + b.length:=Str.length_append ..
def tY:Ts:=(.cons (.asg 8 (.idx (.var 2) (.bin .Mod (.bin .Add (.var 6) (.bin .Mult (.con (.int 7)) (.var 4))) (.con (.int 26))))) (.cons (.app 7 (.bin .Add (.bin .Add (.sliH (.var 3) (.var 5)) (.var 8)) (.sliL (.var 3) (.var 5)))) .nil))
def qV (ip:Nat):Ts:=(.cons (.asg 3 (.con (.str ""))) (.cons (.fr (.nm 4) (.rng1 (.call ip (.cons (.var 0) (.cons (.var 1) (.cons (.con (.int 6)) .nil))) [])) (.cons (.asg 3 (.bin .Add (.var 3) (.idx (.var 2) (.call ip (.cons (.var 0) (.cons (.bin .Add (.bin .Add (.var 1) (.bin .Mult (.con (.int 11)) (.var 4))) (.con (.int 1))) (.cons (.con (.int 26)) .nil))) [])))) .nil)) (.cons (.asg 5 (.call ip (.cons (.var 0) (.cons (.bin .Add (.var 1) (.con (.int 2))) (.cons (.bin .Add (.bi .len (.cons (.var 3) .nil)) (.con (.int 1))) .nil))) [])) (.cons (.asg 6 (.call ip (.cons (.var 0) (.cons (.bin .Add (.var 1) (.con (.int 3))) (.cons (.con (.int 26)) .nil))) [])) (.cons (.ifs (.cmp .Eq (.call ip (.cons (.var 0) (.cons (.bin .Add (.var 1) (.con (.int 4))) (.cons (.con (.int 3)) .nil))) []) (.con (.int 0))) (.cons (.asg 3 (.bin .Add (.sliH (.var 3) (.con (.int 3))) (.idx (.var 2) (.var 6)))) (.cons (.ret (.lst (.cons (.var 3) (.cons (.bin .Add (.var 3) (.idx (.var 2) (.var 5))) (.cons (.bin .Add (.bin .Add (.var 3) (.idx (.var 2) (.var 5))) (.idx (.var 2) (.var 6))) .nil))))) .nil)) .nil) (.cons (.asgM 7 (.lst .nil)) (.cons (.fr (.nm 4) (.rng1 (.con (.int 3))) tY) (.cons (.ret (.mvr 7)) .nil))))))))
def iT {n:Nat} {pre post:List Dt} {x:Dt} (h:bU 0 n=pre++x::post):pre.length < n/\x= .int pre.length:=by
 have hl:(bU 0 n).length=n:=by simp[bU]
 have h1:pre.length < n:=by rw[<-hl,h];simp
 refine⟨h1,?_⟩;have e:(bU 0 n)[pre.length]?=some x:=by rw[h];simp
 unfold bU at e;simp[h1] at e;exact e.symm
def pN {ip im:Nat} (hp:jw fs ip) (hf:fs[im]?=some ⟨3,9,false,qV ip⟩) {n:Nat} (hn:3<=n) {ns:List Int} {k:Nat} {L:Str} (hk:k < 100000) (hL:L.length=26):∃a b c,aO fs n im [.bK ns,.int k,.str L] none= .ok (.lst [.str a,.str b,.str c],none):=by
 have dN:lim=1000000:=rfl;have jm:=du (ns:=ns) (k:=k) (many:=6) (by decide);have P:=λ(k many:Nat) (h1:k < 1000000) (h2:0 < many)=>ni hp (n:=n - 1) (by omega) (ns:=ns) h1 h2
 have loop:=e9 (S:=none) (tg:= .nm 4) (body:=aR (aO fs (n - 1)) (.cons (.asg 3 (.bin .Add (.var 3) (.idx (.var 2) (.call ip (.cons (.var 0) (.cons (.bin .Add (.bin .Add (.var 1) (.bin .Mult (.con (.int 11)) (.var 4))) (.con (.int 1))) (.cons (.con (.int 26)) .nil))) [])))) .nil)) (ds:=bU 0 (b8 ns k 6))
  (ρ:=[some (.bK ns),some (.int k),some (.str L),some (.str ""),none,none,none,none,none])
  (λpre ρ=>∃w jv,w.length<=pre.length/\ρ=[some (.bK ns),some (.int k),some (.str L),some (.str w),jv,none,none,none,none]) ⟨"",none,Pt _,rfl⟩ (by
   rintro pre x post ρ e ⟨w,jv,hw,rfl⟩;obtain⟨h1,rfl⟩:=iT e;have Mm:=P (k + 11 * pre.length + 1) 26 (by omega) (by decide);have cz:=du (ns:=ns) (k:=k + 11 * pre.length + 1) (many:=26) (by decide);obtain⟨c,hc⟩:=jk (z:=L) (k:=b8 ns (k + 11 * pre.length + 1) 26) (by omega) (by omega);have m1:=bb (i:=11) (j:=pre.length) (.inl (by decide));have ca:=fJ (a:=w) (b:=⟨#[c]⟩) (by show w.length + 1<=lim;omega);refine⟨_,_,rfl,fu (d:= .str (w++⟨#[c]⟩)) (S1:=none) ?_ rfl rfl,w++⟨#[c]⟩,_,?_,rfl⟩
   ·rw[show ((k + 11 * pre.length + 1:Nat):Int)=(k:Int) + 11 * pre.length + 1 by omega] at Mm;simp only[RX,m1];rw[show ([Dt.bK ns,.int ((k:Int) + 11 * pre.length + 1),.int 26]:List Dt)=[.bK ns,.int ((k:Int) + 11 * pre.length + 1),.int (26:Nat)] from rfl,Mm];simp only[RX,hc,ca]
   ·rw[len_cat,PJ];show w.length + 1<=_;simp;omega)
 obtain⟨ρ1,cF,w,jv,hw,rfl⟩:=loop;have E5:w.length<=5:=by
  have:(bU 0 (b8 ns k 6)).length=b8 ns k 6:=by simp[bU]
  omega
 have p2:=P (k + 2) (w.length + 1) (by omega) (by omega);have l2:=du (ns:=ns) (k:=k + 2) (many:=w.length + 1) (by omega);have p3:=P (k + 3) 26 (by omega) (by decide);have l3:=du (ns:=ns) (k:=k + 3) (many:=26) (by decide);have p4:=P (k + 4) 3 (by omega) (by decide);generalize b8 ns (k + 2) (w.length + 1)=at' at p2 l2;generalize b8 ns (k + 3) 26=fi at p3 l3;generalize b8 ns (k + 4) 3=q4 at p4;have hlen:=len_str (z:=w) (by omega);obtain⟨cf,L0⟩:=jk (z:=L) (k:=fi) (by omega) (by omega);obtain⟨ca,M5⟩:=jk (z:=L) (k:=at') (by omega) (by omega);have s3:=nZ (z:=w) (lo:=none) (hi:=some 3) (by omega);have e3:=PySem.Txt.slice_le w none (some 3);generalize PySem.Txt.slice w none (some 3)=w3 at s3 e3;have Pb:((26:Nat):Int)=26:=rfl;have head:∃a b c,fin (aR (aO fs (n - 1)) (qV ip) [some (.bK ns),some (.int k),some (.str L),none,none,none,none,none,none] none)= .ok (.lst [.str a,.str b,.str c],none):=by
  by_cases h4:q4=0
  ·subst h4;have c1:=fJ (a:=w3) (b:=⟨#[cf]⟩) (by show w3.length + 1<=lim;omega);have c2:=fJ (a:=w3++⟨#[cf]⟩) (b:=⟨#[ca]⟩) (by rw[len_cat];show w3.length + 1 + 1<=lim;omega);have c3:=fJ (a:=w3++⟨#[cf]⟩++⟨#[ca]⟩) (b:=⟨#[cf]⟩) (by rw[len_cat,len_cat];show w3.length + 1 + 1 + 1<=lim;omega);refine⟨w3++⟨#[cf]⟩,w3++⟨#[cf]⟩++⟨#[ca]⟩,w3++⟨#[cf]⟩++⟨#[ca]⟩++⟨#[cf]⟩,?_⟩;refine aA (d:= .str "") (S1:=none) rfl rfl (cn (ds:=bU 0 (b8 ns k 6)) (S1:=none) (kF (by simp only[RX];exact congrArg (R.bind · _) (P k 6 (by omega) (by decide))) (by omega)) rfl cF ?_);refine aA (d:= .int at') (S1:=none) (by simp only[RX,hlen];exact congrArg (R.bind · _) p2) rfl ?_;refine aA (d:= .int fi) (S1:=none) (by simp only[RX];exact congrArg (R.bind · _) p3) rfl ?_;refine dF (S1:=none) (by simp only[RX];rw[show aO fs (n - 1) ip [.bK ns,.int ((k:Int) + 4),.int 3] none=_ from p4];rfl) ?_;refine aA (d:= .str (w3++⟨#[cf]⟩)) (S1:=none) (by simp only[RX,s3,L0,c1]) rfl ?_;exact aq (by simp only[RX,M5,L0,c2,c3])
  ·have l4:=λj:Nat=>Nat.mod_lt (fi + 7 * j) (y:=26) (by decide)
   have s5:=nZ (z:=w) (lo:=none) (hi:=some (at':Int)) (by omega);have e5:=PySem.Txt.slice_le w none (some (at':Int));have s6:=nZ (z:=w) (lo:=some (at':Int)) (hi:=none) (by omega);have e6:=PySem.Txt.slice_le w (some (at':Int)) none;generalize PySem.Txt.slice w none (some (at':Int))=wa at s5 e5;generalize PySem.Txt.slice w (some (at':Int)) none=wb at s6 e6;have HH:=e9 (S:=none) (tg:= .nm 4) (body:=aR (aO fs (n - 1)) tY) (ds:=bU 0 3)
    (ρ:=[some (.bK ns),some (.int k),some (.str L),some (.str w),jv,some (.int at'),some (.int fi),some (.lst []),none])
    (λpre ρ=>∃us:List Str,∃jv s8,us.length=pre.length/\ρ=[some (.bK ns),some (.int k),some (.str L),some (.str w),jv,some (.int at'),some (.int fi),some (.lst (us.map Dt.str)),s8]) ⟨[],jv,none,rfl,rfl⟩ (by
     rintro pre x post ρ e ⟨us,jv,s8,wC,rfl⟩;obtain⟨h1,rfl⟩:=iT e;obtain⟨c,hc⟩:=jk (z:=L) (k:=(fi + 7 * pre.length) % 26) (by omega) (by have:=l4 pre.length;omega);rw[show (((fi + 7 * pre.length) % 26:Nat):Int)=((fi:Int) + 7 * pre.length) % 26 by omega] at hc;have m1:=bb (i:=7) (j:=pre.length) (.inl (by decide));have m2:=cc (i:=(fi:Int) + 7 * pre.length) (j:=26) (by decide);have c1:=fJ (a:=wa) (b:=⟨#[c]⟩) (by show wa.length + 1<=lim;omega);have c2:=fJ (a:=wa++⟨#[c]⟩) (b:=wb) (by rw[len_cat];show wa.length + 1 + wb.length<=lim;omega);refine⟨_,_,rfl,fu (d:= .str ⟨#[c]⟩) (S1:=none) (by simp only[RX,m1,m2,hc]) rfl (fm (ds:=us.map Dt.str) (d:= .str (wa++⟨#[c]⟩++wb)) (S1:=none) rfl (by simp only[RX,s5,s6,c1,c2]) rfl (by simp;omega) rfl),us++[wa++⟨#[c]⟩++wb],some (.int pre.length),some (.str ⟨#[c]⟩),by simp[wC],by rw[Qi];rfl⟩)
   obtain⟨ρ2,CK,us,Pg,s8,wC,rfl⟩:=HH;have wC:us.length=3:=wC;obtain⟨a,b,c,rfl⟩:∃a b c,us=[a,b,c]:=match us,wC with | [a,b,c],_=>⟨a,b,c,rfl⟩
   refine⟨a,b,c,?_⟩;refine aA (d:= .str "") (S1:=none) rfl rfl (cn (ds:=bU 0 (b8 ns k 6)) (S1:=none) (kF (by simp only[RX];exact congrArg (R.bind · _) (P k 6 (by omega) (by decide))) (by omega)) rfl cF ?_);refine aA (d:= .int at') (S1:=none) (by simp only[RX,hlen];exact congrArg (R.bind · _) p2) rfl ?_;refine aA (d:= .int fi) (S1:=none) (by simp only[RX];exact congrArg (R.bind · _) p3) rfl ?_;refine bZ (S1:=none) (by simp only[RX];rw[show aO fs (n - 1) ip [.bK ns,.int ((k:Int) + 4),.int 3] none=_ from p4];simp only[RX];simp[h4]) ?_;refine d6 (d:= .lst []) (S1:=none) rfl rfl (cn (ds:=bU 0 3) (S1:=none) (kF (n:=3) rfl (by decide)) rfl CK ?_);exact aq (by simp only[RX];rfl)
 obtain⟨a,b,c,h1⟩:=head;exact⟨a,b,c,aI hf (by omega) rfl h1⟩
variable {fs:List Fn}
mutual
def sm:Dt->Bool
 | .int _=>true
 | .str _=>true
 | .tup ds=>Bo ds
 | .lst ds=>Bo ds
 | _=>false
def Bo:List Dt->Bool
 | []=>true
 | d::ds=>sm d&&Bo ds
end
mutual
def HD:∀m:Mx.D,sm (ofD m)=true
 | .int _=>by simp[ofD,sm]
 | .str _=>by simp[ofD,sm]
 | .tup ms=>by simp[ofD,sm,rE ms]
def rE:∀ms:List Mx.D,Bo (aa ms)=true
 | []=>by simp[aa,Bo]
 | m::ms=>by simp[aa,Bo,HD m,rE ms]
end
def uD:∀{ds:List Dt} {d:Dt},Bo ds=true->d∈ds->sm d=true/\dp d<=rA ds
 | d::ds,x,h,hx=>by
  simp only[Bo,Pm] at h;simp only[rA];rcases PC.mp hx with rfl | hx
  ·exact⟨h.1,by omega⟩
  ·have:=uD h.2 hx;exact⟨this.1,by omega⟩
def pZ (is:Nat):Ts:=(.cons (.ifs (.bi (.isi "str") (.cons (.var 1) .nil)) (.cons (.ret (.and (.bi (.isi "str") (.cons (.var 0) .nil)) (.cmp .Eq (.var 0) (.var 1)))) .nil) .nil) (.cons (.ifs (.bi (.isi "int") (.cons (.var 1) .nil)) (.cons (.ret (.and (.bi (.isi "int") (.cons (.var 0) .nil)) (.and (.nt (.bi (.isi "bool") (.cons (.var 0) .nil))) (.cmp .Eq (.var 0) (.var 1))))) .nil) .nil) (.cons (.ifs (.or (.cmp .NotEq (.bi (.isi "list") (.cons (.var 1) .nil)) (.bi (.isi "list") (.cons (.var 0) .nil))) (.cmp .NotEq (.bi (.isi "tuple") (.cons (.var 1) .nil)) (.bi (.isi "tuple") (.cons (.var 0) .nil)))) (.cons (.ret (.con (.bl false))) .nil) .nil) (.cons (.ifs (.cmp .NotEq (.bi .len (.cons (.var 0) .nil)) (.bi .len (.cons (.var 1) .nil))) (.cons (.ret (.con (.bl false))) .nil) .nil) (.cons (.fr (.tp [2,3]) (.zip (.var 0) (.var 1)) (.cons (.ifs (.nt (.call is (.cons (.var 2) (.cons (.var 3) .nil)) [])) (.cons (.ret (.con (.bl false))) .nil) .nil) .nil)) (.cons (.ret (.con (.bl true))) .nil))))))
def uK {ds pre post:List Dt} {x:Dt} (h:fk ds ds=pre++x::post):∃y∈ds,x= .tup [y,y]:=by
 have hx:x∈fk ds ds:=by rw[h];simp
 unfold fk at hx;have:List.zipWith (λx y=>Dt.tup [x,y]) ds ds=ds.map λy=>Dt.tup [y,y]:=by
  clear h hx
  induction ds with
  | nil=>rfl
  | cons d ds ih=>simp[ih]
 rw[this,P9] at hx;obtain⟨y,h1,h2⟩:=hx;exact⟨y,h1,h2.symm⟩
def ny {is:Nat} (hf:fs[is]?=some ⟨2,4,false,pZ is⟩):∀(n:Nat) (d:Dt),sm d=true->dp d < n->aO fs n is [d,d] none= .ok (.bl true,none)
 | 0,d,_,h=>by omega
 | n + 1,d,h,hd=>by
  have ih:=ny hf n;have main:∀ds:List Dt,Bo ds=true->rA ds < n->(d= .tup ds\/d= .lst ds)->aO fs (n + 1) is [d,d] none= .ok (.bl true,none):=by
   intro ds hs hl hd;have hlen:dJ .len [d]= .ok (.int ds.length):=by rcases hd with rfl | rfl <;> rfl
   have Jg:bF d=some ds:=by rcases hd with rfl | rfl <;> rfl
   have i1:dJ (.isi "str") [d]= .ok (.bl false):=by rcases hd with rfl | rfl <;> rfl
   have i2:dJ (.isi "int") [d]= .ok (.bl false):=by rcases hd with rfl | rfl <;> rfl
   have i3:(∃b,dJ (.isi "list") [d]= .ok (.bl b))/\∃b,dJ (.isi "tuple") [d]= .ok (.bl b):=by rcases hd with rfl | rfl <;> exact⟨⟨_,rfl⟩,⟨_,rfl⟩⟩
   obtain⟨⟨b3,i3⟩,⟨b4,i4⟩⟩:=i3;have e3:∀b:Bool,cU .NotEq (.bl b) (.bl b)= .ok false:=λb=>by cases b <;> rfl
   have loop:=e9 (S:=none) (tg:= .tp [2,3]) (body:=aR (aO fs n) (.cons (.ifs (.nt (.call is (.cons (.var 2) (.cons (.var 3) .nil)) [])) (.cons (.ret (.con (.bl false))) .nil) .nil) .nil)) (ds:=fk ds ds)
    (ρ:=[some d,some d,none,none]) (λpre ρ=>∃a b,ρ=[some d,some d,a,b]) ⟨none,none,rfl⟩ (by
     rintro pre x post ρ e ⟨a,b,rfl⟩;obtain⟨y,hy,rfl⟩:=uK e;have:=uD hs hy;have hc:=ih y this.1 (by omega);exact⟨[some d,some d,some y,some y],_,rfl,uN (S1:=none) (by simp only[RX,hc];rfl) rfl,some y,some y,rfl⟩)
   obtain⟨ρ1,cF,a,b,rfl⟩:=loop;refine aI hf (by omega) rfl ?_;show fin (aR (aO fs n) (pZ is) [some d,some d,none,none] none)=_;refine bZ (S1:=none) (by simp only[RX,i1]) (bZ (S1:=none) (by simp only[RX,i2]) (bZ (S1:=none) (by simp only[RX,i3,i4,e3];rfl) (bZ (S1:=none) (by simp only[RX,hlen];simp) ?_)));refine cn (ds:=fk ds ds) (S1:=none) (Dv (S1:=none) (S2:=none) rfl rfl Jg Jg) rfl cF (aq rfl)
  cases d with
  | str x=>refine aI hf (by omega) rfl ?_;show fin (aR (aO fs n) (pZ is) [some (.str x),some (.str x),none,none] none)=_;have i1:dJ (.isi "str") [.str x]= .ok (.bl true):=rfl;exact dF (S1:=none) (by simp only[RX,i1]) (aq (by simp only[RX,i1];simp))
  | int x=>refine aI hf (by omega) rfl ?_;show fin (aR (aO fs n) (pZ is) [some (.int x),some (.int x),none,none] none)=_;have i1:dJ (.isi "str") [.int x]= .ok (.bl false):=rfl;have i2:dJ (.isi "int") [.int x]= .ok (.bl true):=rfl;have i3:dJ (.isi "bool") [.int x]= .ok (.bl false):=rfl;exact bZ (S1:=none) (by simp only[RX,i1]) (dF (S1:=none) (by simp only[RX,i2]) (aq (by simp only[RX,i2,i3,Bool.not_false];simp)))
  | tup ds=>exact main ds (by simpa [sm] using h) (by simp only[dp] at hd;omega) (.inl rfl)
  | lst ds=>exact main ds (by simpa [sm] using h) (by simp only[dp] at hd;omega) (.inr rfl)
  | _=>simp[sm] at h
def cP (x:Str):Mx.D:= .tup [.str "any",.str x]
def ofT (x:Str) (ps:List Mx.D):Mx.D:= .tup [.str "of",.str x,.tup ps]
def eI (Q:Mx.D->Prop) (it:Mx.D):Prop:=(∃x,it=cP x)\/∃x ps,it=ofT x ps/\ps.length<=3/\∀p∈ps,Q p
def MX (Q:Mx.D->Prop) (r:Mx.D):Prop:=∃it c,r= .tup [it,.int c]/\eI Q it
def Jk:Nat->Mx.D->Prop
 | 0,_=>False
 | n + 1,d=>∃rs,d= .tup rs/\rs.length<=4/\∀r∈rs,MX (Jk n) r
def fI {n m:Nat} {it:Mx.D} {Q:Mx.D->Prop} (hQ:∀d,Q d->Mx.D.dep d<=m) (hn:n=m + 2) (h:eI Q it):Mx.D.dep it<=n:=by
 rcases h with ⟨x,rfl⟩ | ⟨x,ps,rfl,_,hp⟩
 ·simp[cP,Mx.D.dep,Mx.D.cC];omega
 ·have:=d9 λp lH=>hQ p (hp p lH)
  simp[ofT,Mx.D.dep,Mx.D.cC];omega
def qu:∀{xs ys:List Mx.D},(∀x∈xs,∀y∈ys,k7 x y=true)->iC xs ys=true
 | [],_,_=>by simp[iC]
 | _::_,[],_=>by simp[iC]
 | x::xs,y::ys,h=>by simp only[iC,Pm];exact⟨h x Pu y Pu,qu λa ha b hb=>h a (Pq _ ha) b (Pq _ hb)⟩
def n8 {P Q:Mx.D->Prop} {a b:Mx.D} (Nb:∀p q,P p->Q q->k7 p q=true) (ha:eI P a) (hb:eI Q b):k7 a b=true:=by
 rcases ha with ⟨x,rfl⟩ | ⟨x,ps,rfl,_,hp⟩ <;> rcases hb with ⟨y,rfl⟩ | ⟨y,qs,rfl,_,hq⟩
 ·simp[cP,k7,iC]
 ·simp[cP,ofT,k7,iC]
 ·simp[cP,ofT,k7,iC]
 ·simp only[ofT,k7,iC,Bool.true_and,Bool.and_true];exact qu λp lH q hq'=>Nb p q (hp p lH) (hq q hq')
def fE {ds:List Dt} {d:Dt}:c8 (.lst (ds++[d])) (.int (-1))= .ok d:=by show u6 (ds++[d]) (-1)=_;unfold u6;rw[Mx.oW]
def zW {n:Nat}:ox (n + 1) (-1)=some n:=by unfold ox;rw[if_neg (by decide),if_pos (by omega)];congr 1;omega
def ne_nil {ds:List Dt} {d:Dt} (h1:l7 (ds++[d])=true) (h2:rA (ds++[d]) < 100):cU .NotEq (.lst (ds++[d])) (.lst [])= .ok true:=by show af (fY (.lst (ds++[d])) (.lst [])) (.ok (!bH (.lst (ds++[d])) (.lst [])))=_;rw[show fY (.lst (ds++[d])) (.lst [])=true by simp[fY,pl,l7,dp,h1];omega,guard_true];cases ds <;> simp[bH,bP]
def eq_nil {ds:List Dt} {d:Dt} (h1:l7 (ds++[d])=true) (h2:rA (ds++[d]) < 100):cU .Eq (.lst (ds++[d])) (.lst [])= .ok false:=by show af (fY (.lst (ds++[d])) (.lst [])) (.ok (bH (.lst (ds++[d])) (.lst [])))=_;rw[show fY (.lst (ds++[d])) (.lst [])=true by simp[fY,pl,l7,dp,h1];omega,guard_true];cases ds <;> simp[bH,bP]
def kM {α:Type}:∀l:List α,l=[]\/∃a x,l=a++[x]
 | []=> .inl rfl
 | x::l=> .inr ⟨(x::l).dropLast,(x::l).getLast (by simp),(List.dropLast_concat_getLast (by simp)).symm⟩
def zS {α:Type} (a:List α) (x y:α) {n:Nat} (h:n=a.length):(a++[x]).set n y=a++[y]:=by subst h;simp
variable {fs:List Fn}
def pW {f:Dt->Sx->R (List Dt×Sx)} {S:Sx} (Q:Mx.D->Prop):∀{ds:List Dt},(∀x∈ds,∃m,f x S= .ok ([ofD m],S)/\Q m)->∃ms,bg f ds S= .ok (aa ms,S)/\ms.length=ds.length/\∀m∈ms,Q m
 | [],_=>⟨[],by simp[bg,aa],rfl,by simp⟩
 | x::ds,h=>by
  obtain⟨m,h1,h2⟩:=h x Pu;obtain⟨ms,k1,k2,k3⟩:=pW Q λy hy=>h y (Pq _ hy)
  refine⟨m::ms,?_,by simp[k2],λa ha=>?_⟩
  ·rw[bg,h1,R.ar,k1,R.ar];simp[aa]
  ·rcases PC.mp ha with rfl | ha
   ·exact h2
   ·exact k3 a ha
def zI {n:Nat} {x:Dt} (h:x∈bU 0 n):∃i:Nat,i < n/\x= .int i:=by grind [bU]
def pe {a b c:Str} {k:Nat} (h:k < 3):∃x,c8 (.lst [.str a,.str b,.str c]) (.int k)= .ok (.str x):=by
 match k,h with
 | 0,_=>exact⟨a,rfl⟩
 | 1,_=>exact⟨b,rfl⟩
 | 2,_=>exact⟨c,rfl⟩
variable {fs:List Fn}
def sO (ic:Nat):Ts:=(.cons (.app 3 (.tup (.cons (.idx (.idx (.var 2) (.var 4)) (.con (.int 0))) (.cons (.bin .Mult (.idx (.idx (.var 2) (.var 4)) (.con (.int 1))) (.bin .Add (.con (.int 1)) (.bin .Mod (.call ic (.cons (.var 0) (.cons (.bin .Add (.var 1) (.var 4)) .nil)) []) (.bin .Pow (.con (.int 10)) (.con (.int 8)))))) .nil)))) .nil)
def wQ (ic:Nat):Ts:=(.cons (.asgM 3 (.lst .nil)) (.cons (.fr (.nm 4) (.rng1 (.bi .len (.cons (.var 2) .nil))) (sO ic)) (.cons (.ret (.bi .tuple (.cons (.mvr 3) .nil))) .nil)))
def GF {ic ig:Nat} (hc:fs[ic]?=some ⟨2,3,false,pE⟩) (hf:fs[ig]?=some ⟨3,5,false,wQ ic⟩) {N k n:Nat} (hN:2<=N) (hk:k < 100000) {ns:List Int} {rs:List Mx.D} (h:Jk n (.tup rs)):∃qs,aO fs N ig [.bK ns,.int k,.tup (aa rs)] none= .ok (.tup (aa qs),none)/\Jk n (.tup qs):=by
 have dN:lim=1000000:=rfl;obtain⟨n,rfl⟩:∃m,n=m + 1:=by cases n with | zero=>exact h.elim | succ m=>exact⟨m,rfl⟩
 obtain⟨qj,e,hl,hr⟩:=h;cases e;have loop:=e9 (S:=none) (tg:= .nm 4) (ds:=bU 0 rs.length) (ρ:=[some (.bK ns),some (.int k),some (.tup (aa rs)),some (.lst []),none])
  (body:=aR (aO fs (N - 1)) (sO ic))
  (λpre ρ=>∃ms x,ms.length=pre.length/\(∀m∈ms,MX (Jk n) m)/\ρ=[some (.bK ns),some (.int k),some (.tup (aa rs)),some (.lst (aa ms)),x]) ⟨[],none,rfl,by simp,by simp[aa]⟩ (by
   rintro pre x post ρ e ⟨ms,x,Ii,hm,rfl⟩;obtain⟨h1,rfl⟩:=iT e;obtain⟨it,c,e1,hi⟩:=hr rs[pre.length] (List.getElem_mem h1);have kY:=(xW (ds:=aa rs) (k:=pre.length) (d:= .tup [ofD it,.int c]) (by rw[ba,PN,PX h1,e1];simp[ofD,aa])).1;have BJ:=n9 hc (n:=N - 1) (by omega) (ns:=ns) (k:=k + pre.length) (by omega);generalize gd ns (k + pre.length)=y at BJ;have Lr:aO fs (N - 1) ic [.bK ns,.int ((k:Int) + pre.length)] none= .ok (.int y,none):=BJ;have pw:nG .Pow (.int 10) (.int 8)= .ok (.int 100000000):=rfl;have m1:=cc (i:=y) (j:=100000000) (by decide);have r1:=Qb y (b:=100000000) (by decide);have r2:=Qc y (b:=100000000) (by decide);have m2:=bb (i:=c) (j:=1 + y % 100000000) (.inr (by omega));refine⟨_,_,rfl,fm (ds:=aa ms) (d:= .tup [ofD it,.int (c * (1 + y % 100000000))]) (S1:=none) rfl (by simp only[RX,kY,Lr,pw,m1,m2]) rfl (by rw[aj];omega) rfl,ms++[.tup [it,.int (c * (1 + y % 100000000))]],some (.int pre.length),by simp[Ii],λm hm'=>?_,?_⟩
   ·rcases PU.mp hm' with hm' | hm'
    ·exact hm m hm'
    ·rw[P8] at hm';subst hm';exact⟨it,_,rfl,hi⟩
   ·rw[aQ];simp[ofD,aa])
 obtain⟨ρ1,cF,ms,x,Ii,hm,rfl⟩:=loop;refine⟨ms,aI hf (by omega) rfl ?_,ms,rfl,by rw[Ii];simp[bU];omega,hm⟩;show fin (aR (aO fs (N - 1)) (wQ ic) [some (.bK ns),some (.int k),some (.tup (aa rs)),none,none] none)=_;exact d6 (d:= .lst []) (S1:=none) rfl rfl (cn (ds:=bU 0 rs.length) (S1:=none) (kF (n:=rs.length) (by simp only[RX,aj]) (by omega)) rfl cF (aq (by simp only[RX])))
def aG:Mx.D->List Mx.D
 | .tup [_,_,.tup ps]=>ps
 | _=>[]
def dR (f:Mx.D->List Mx.D):Mx.D->List Mx.D
 | .tup [it,_]=>it::(aG it).flatMap f
 | _=>[]
def ei:Nat->Mx.D->List Mx.D
 | n + 1,.tup rs=>rs.flatMap (dR (ei n))
 | _,_=>[]
def fB {α β:Type} {f:α->List β} {k:Nat}:∀{l:List α},(∀x∈l,(f x).length<=k)->(l.flatMap f).length<=l.length * k
 | [],_=>by simp
 | x::l,h=>by
  have h1:=h x Pu;have h2:=fB λy hy=>h y (Pq _ hy)
  rw[List.flatMap_cons,PJ,PM,Nat.succ_mul];omega
def fv:Ts:=(.cons (.ifs (.cmp .Eq (.idx (.var 0) (.con (.int 0))) (.con (.str "of"))) (.cons (.ret (.idx (.var 0) (.con (.int 2)))) .nil) .nil) (.cons (.ret (.tup .nil)) .nil))
def i8 (x:Str):ofD (cP x)= .tup [.str "any",.str x]:=by simp[cP,ofD,aa]
def jW (x:Str) (ps:List Mx.D):ofD (ofT x ps)= .tup [.str "of",.str x,.tup (aa ps)]:=by simp[ofT,ofD,aa]
def kG {ip N:Nat} (hf:fs[ip]?=some ⟨1,1,false,fv⟩) (hN:1<=N) {Q:Mx.D->Prop} {it:Mx.D} (h:eI Q it):aO fs N ip [ofD it] none= .ok (.tup (aa (aG it)),none):=by
 refine aI hf hN rfl ?_;rcases h with ⟨x,rfl⟩ | ⟨x,ps,rfl,_⟩
 ·rw[i8];show fin (aR (aO fs (N - 1)) fv [some (.tup [.str "any",.str x])] none)=_;exact bZ (S1:=none) (by simp only[RX];rfl) (aq (by simp[RX,cP,aG,aa]))
 ·rw[jW];show fin (aR (aO fs (N - 1)) fv [some (.tup [.str "of",.str x,.tup (aa ps)])] none)=_;exact dF (S1:=none) (by simp only[RX];rfl) (aq (by simp only[RX];rfl))
def nQ {a b:List Dt} (h:a.length + b.length<=lim):nG .Add (.lst a) (.lst b)= .ok (.lst (a++b)):=by show af (decide (a.length + b.length<=lim)) _=_;rw[P3 h];rfl
def qf {a b:List Mx.D} (h:aa a=aa b):a=b:=by have:=fM a;rw[h,fM] at this;exact(Option.some.inj this).symm
def fy {tg:Tg} {body:ak->Sx->RS} {ds:List Mx.D} {ρ:ak} {S:Sx} (P:List Mx.D->ak->Prop) (h0:P [] ρ)
  (step:∀pre x post ρ,ds=pre++x::post->P pre ρ->∃ρ1 ρ2,bY tg (ofD x) ρ= .ok ρ1/\body ρ1 S= .ok (.next,ρ2,S)/\P (pre++[x]) ρ2):∃ρ',forL tg body (aa ds) ρ S= .ok (.next,ρ',S)/\P ds ρ':=by
 obtain⟨ρ',h1,p,h2,h3⟩:=e9 (S:=S) (tg:=tg) (body:=body) (ds:=aa ds) (ρ:=ρ) (λpre ρ=>∃p,pre=aa p/\P p ρ) ⟨[],by simp[aa],h0⟩ (by
  rintro pre x post ρ e ⟨p,e0,hp⟩;obtain⟨p',y,q,e1,e2,rfl,rfl⟩:=sC e;have ep:p=p':=qf (e0.symm.trans e2);subst ep;obtain⟨ρ1,ρ2,s1,s2,s3⟩:=step p y q ρ e1 hp;exact⟨ρ1,ρ2,s1,s2,p++[y],by rw[e2,aQ];simp[aa],s3⟩)
 exact⟨ρ',h1,qf h2▸h3⟩
variable {fs:List Fn}
def ey {f:Dt->Sx->R (List Dt×Sx)} {S:Sx} (g:Mx.D->List Dt):∀{ds:List Mx.D},(∀m∈ds,f (ofD m) S= .ok (g m,S))->bg f (aa ds) S= .ok (ds.flatMap g,S)
 | [],_=>by simp[aa,bg]
 | d::ds,h=>by rw[aa,bg,h d Pu,R.ar,ey g λm hm=>h m (Pq _ hm),R.ar,List.flatMap_cons]
def Km {x:Str}:∀{l:List Str},x∈dd l↔x∈l
 | []=>by simp[dd]
 | y::l=>by
  have ih:=Km (x:=x) (l:=l);rw[dd];split
  ·rename_i h;rw[ih,PC];exact⟨.inr,λz=>z.elim (λe=>by rw[e];exact Km.mp h) id⟩
  ·rw[PC,ih,PC]
def Kb:∀{l:List Str},(dd l).Nodup
 | []=>by simp[dd]
 | y::l=>by
  rw[dd];split
  ·exact Kb
  ·rename_i h;exact List.nodup_cons.mpr ⟨h,Kb⟩
def gY:∀ys:List Str,strsOf (aa (ys.map Mx.D.str))=some ys
 | []=>by simp[aa,strsOf]
 | y::ys=>by simp[aa,ofD,strsOf,gY ys]
def Bl {ys:List Str} {d:Dt} (hd:bF d=some (aa (ys.map Mx.D.str))) (hl:ys.length < 4000):dJ .sset [d]= .ok (.lst (aa (aK ((dd ys).map Mx.D.str)))):=by show (match bF d with | some ds=>(match strsOf ds with | some ys=>af (decide (ys.length < 4000)) (R.ok (Dt.lst (aa (aK ((dd ys).map Mx.D.str))))) | none=> .bad) | none=> .bad)=_;rw[hd];show (match strsOf (aa (ys.map Mx.D.str)) with | some ys=>af (decide (ys.length < 4000)) (R.ok (Dt.lst (aa (aK ((dd ys).map Mx.D.str))))) | none=> .bad)=_;rw[gY];show af (decide (ys.length < 4000)) _=_;rw[P3 hl];rfl
def dZ:Mx.D->List Str
 | .tup [_,.str x]=>[x]
 | _=>[]
def gK:Mx.D->List Mx.D
 | .tup [a,b,c]=>[.tup [a,b,c]]
 | _=>[]
def eY {α β γ:Type} {f:α->List β} {g:β->γ}:∀l:List α,(l.flatMap λx=>(f x).map g)=(l.flatMap f).map g
 | []=>rfl
 | x::l=>by rw[List.flatMap_cons,List.flatMap_cons,Qi,eY l]
def j0 {F:FT} {its:List Mx.D} {Q:Mx.D->Prop} (h:∀m∈its,eI Q m):bg (br (.nm 1) (cA F (.cons (.cmp .Eq (.idx (.var 1) (.con (.int 0))) (.con (.str "any"))) .nil)) (dS F (.idx (.var 1) (.con (.int 1)))) [none,none]) (aa its) none= .ok (aa ((its.flatMap dZ).map Mx.D.str),none):=by
 rw[ey (λm=>aa ((dZ m).map Mx.D.str)) λm hm=>?_]
 ·have:∀m:Mx.D,aa ((dZ m).map Mx.D.str)=(dZ m).map λx=>ofD (.str x):=λm=>by rw[ba,List.map_map];rfl
  simp only[this];rw[eY,ba,List.map_map];rfl
 ·rcases h m hm with ⟨x,rfl⟩ | ⟨x,ps,rfl,_⟩
  ·rw[i8];exact turn_if (b:=true) (y:= .str x) (ρ1:=[none,some (.tup [.str "any",.str x])]) rfl (by simp only[RX];rfl) λ_=>⟨by simp only[RX],rfl⟩
  ·rw[jW];exact turn_if (b:=false) (y:= .bo) (ρ1:=[none,some (.tup [.str "of",.str x,.tup (aa ps)])]) rfl (by simp only[RX];rfl) λz=>by cases z
def jd {F:FT} {its:List Mx.D} {Q:Mx.D->Prop} (h:∀m∈its,eI Q m):bg (br (.nm 1) (cA F (.cons (.cmp .Eq (.idx (.var 1) (.con (.int 0))) (.con (.str "of"))) .nil)) (dS F (.var 1)) [none,none]) (aa its) none= .ok (aa (its.flatMap gK),none):=by
 rw[ey (λm=>aa (gK m)) λm hm=>?_]
 ·simp only[ba];rw[eY]
 ·rcases h m hm with ⟨x,rfl⟩ | ⟨x,ps,rfl,_⟩
  ·rw[i8];exact turn_if (b:=false) (y:= .bo) (ρ1:=[none,some (.tup [.str "any",.str x])]) rfl (by simp only[RX];rfl) λz=>by cases z
  ·have e:aa (gK (ofT x ps))=[ofD (ofT x ps)]:=by simp[gK,ofT,aa]
   rw[e,jW];exact turn_if (b:=true) (ρ1:=[none,some (.tup [.str "of",.str x,.tup (aa ps)])]) rfl (by simp only[RX];rfl) λ_=>⟨by simp only[RX],rfl⟩
def vq {its:List Mx.D}:(its.flatMap dZ).length<=its.length:=by
 have:=fB (f:=dZ) (k:=1) (l:=its) λx _=>by unfold dZ;split <;> simp
 omega
def jS {its:List Mx.D}:(its.flatMap gK).length<=its.length:=by
 have:=fB (f:=gK) (k:=1) (l:=its) λx _=>by unfold gK;split <;> simp
 omega
def kL {its:List Mx.D} {t:Mx.D} {Q:Mx.D->Prop} (h:∀m∈its,eI Q m) (ht:t∈its.flatMap gK):t∈its/\∃x ps,t=ofT x ps/\ps.length<=3/\∀p∈ps,Q p:=by grind [gK,cP,ofT,eI]
def yU:Ts:=(.cons (.ifs (.or (.cmp .Eq (.mvr 1) (.lst .nil)) (.cmp .NotEq (.idx (.mvr 1) (.neg (.con (.int 1)))) (.var 2))) (.cons (.app 1 (.var 2)) .nil) .nil) .nil)
def yg:Ts:=(.cons (.asgM 1 (.lst .nil)) (.cons (.fr (.nm 2) (.seq (.bi .sorted (.cons (.var 0) .nil))) yU) (.cons (.ret (.mvr 1)) .nil)))
def A8 {io N:Nat} (hf:fs[io]?=some ⟨1,3,false,yg⟩) (hN:1<=N) {ms:List Mx.D} (hc:il ms=true) (hl:ms.length < 1000000) (hd:∀m∈ms,Mx.D.dep m<=90):aO fs N io [.lst (aa ms)] none= .ok (.lst (aa (uq none (aK ms))),none):=by
 have dN:lim=1000000:=rfl;have hs:=(fR hc).1;have tF:(aK ms).length=ms.length:=(bx ms).length_eq;have loop:=fy (S:=none) (tg:= .nm 2) (ds:=aK ms) (ρ:=[some (.lst (aa ms)),some (.lst []),none]) (body:=aR (aO fs (N - 1)) yU)
  (λp ρ=>∃z,ρ=[some (.lst (aa ms)),some (.lst (aa (uq none p))),z]) ⟨none,by simp[uq,aa]⟩ (by
   rintro p y q ρ e1 ⟨x2,rfl⟩;have gG:p.length < ms.length:=by rw[<-tF,e1];simp
   have Nv:=rB (a:=p) (p:=none);have hg:=sJ (a:=p) (p:=none);rw[Option.or_none,Option.or_none] at hg;have ha:=xy (x:=y) (a:=p) (p:=none);rw[Option.or_none,<-hg] at ha;refine⟨[some (.lst (aa ms)),some (.lst (aa (uq none p))),some (ofD y)],[some (.lst (aa ms)),some (.lst (aa (uq none (p++[y])))),some (ofD y)],rfl,?_,some (ofD y),rfl⟩;rw[ha];rcases kM (uq none p) with hu | ⟨us,u,hu⟩
   ·rw[hu];refine vV (S1:=none) rfl (fm (ds:=[]) (d:=ofD y) (S1:=none) rfl (by simp only[RX]) rfl (by simp) ?_);simp[uq,aa,aR,Ts.app]
   ·have Oy:u∈ms:=cH.mp (by rw[e1];exact List.mem_append_left _ (mF (a:=p) (p:=none) (by rw[hu];simp)));have wC:∀m∈us++[u],Mx.D.dep m<=90:=λm hm=>hd m (cH.mp (by rw[e1];exact List.mem_append_left _ (mF (a:=p) (p:=none) (by rw[hu];exact hm))))
    have el:aa (us++[u])=aa us++[ofD u]:=by rw[aQ];simp[aa]
    have jA:=eq_nil (ds:=aa us) (d:=ofD u) (by rw[<-el];exact qU _) (by rw[<-el,nK];have:=d9 wC;omega);have hq:=tX (a:=u) (b:=y) (by have:=hd u Oy;omega);rw[hu,el];by_cases hz:u=y
    ·rw[P3 hz] at hq;refine uN (S1:=none) (by simp only[RX,jA,fE,hq];rfl) ?_;rw[aQ,el];simp[uq,hz,aa,aR,Ts.app]
    ·rw[PY hz] at hq;refine vV (S1:=none) (by simp only[RX,jA,fE,hq];rfl) (fm (ds:=aa us++[ofD u]) (d:=ofD y) (S1:=none) rfl (by simp only[RX]) rfl (by rw[<-el,aj,<-hu];omega) ?_);rw[aQ,el];simp[uq,hz,aa,aR,Ts.app])
 obtain⟨ρ1,cF,z,rfl⟩:=loop;refine aI hf hN rfl ?_;show fin (aR (aO fs (N - 1)) yg [some (.lst (aa ms)),none,none] none)=_;exact d6 (d:= .lst []) (S1:=none) rfl rfl (cn (ds:=aa (aK ms)) (S1:=none) (by simp only[RX,hs]) rfl cF (aq (by simp only[RX])))
def Bg {f:Dt->Sx->R (List Dt×Sx)} {i0:List Mx.D} (h:∀(i:Nat) (y:Mx.D),i0[i]?=some y->f (.tup [.int i,ofD y]) none= .ok (if i≠0/\i0[i - 1]?=some y then[] else[ofD y],none)):bg f (de 0 (aa i0)) none= .ok (aa (uq none i0),none):=by
 have key:∀(post pre:List Mx.D),i0=pre++post->bg f (de pre.length (aa post)) none= .ok (aa (uq pre.getLast? post),none):=by
  intro post
  induction post with
  | nil=>intro pre _;simp[aa,de,bg,uq]
  | cons x post ih=>
   intro pre e;have hx:i0[pre.length]?=some x:=by rw[e];simp
   have hi:=ih (pre++[x]) (by rw[e];simp);rw[PJ,List.getLast?_append] at hi;rw[aa,de,bg,h _ _ hx,R.ar];rw[show pre.length + 1=pre.length + [x].length from rfl,hi,R.ar];have hc:(pre.length≠0/\i0[pre.length - 1]?=some x)↔pre.getLast?=some x:=by
    rcases kM pre with rfl | ⟨a,z,rfl⟩
    ·simp
    ·rw[e];simp
   simp only[hc];rw[uq];split
   ·simp
   ·simp[aa]
 exact key i0 [] rfl
def nk:Ts:=(.cons (.asg 1 (.bi .sorted (.cons (.comp [none,none] (.seq (.var 0)) (.nm 1) (.cons (.cmp .Eq (.idx (.var 1) (.con (.int 0))) (.con (.str "of"))) .nil) (.var 1)) .nil))) (.cons (.ret (.bi .tuple (.cons (.comp [none,none,none,some 1] (.enum (.var 1)) (.tp [1,2]) (.cons (.or (.cmp .Eq (.var 1) (.con (.int 0))) (.cmp .NotEq (.idx (.var 3) (.bin .Sub (.var 1) (.con (.int 1)))) (.var 2))) .nil) (.var 2)) .nil))) .nil))
def BG {F:FT} {u:BI} {e:C} {ρ:ak} {S S1:Sx} {d d':Dt} (h:ev F e ρ S= .ok (d,S1)) (hb:dJ u [d]= .ok d'):ev F (.bi u (.cons e .nil)) ρ S= .ok (d',S1):=by simp only[RX,h,hb]
def qK {it N:Nat} (hf:fs[it]?=some ⟨1,2,false,nk⟩) (hN:1<=N) {Q:Mx.D->Prop} {its:List Mx.D} (hl:its.length < 1000000) (h:∀m∈its,eI Q m) (Ei:il (its.flatMap gK)=true) (hd:∀m∈its.flatMap gK,Mx.D.dep m<=90):aO fs N it [.lst (aa its)] none= .ok (.tup (aa (uq none (aK (its.flatMap gK)))),none):=by
 have dN:lim=1000000:=rfl;have cX:=jS (its:=its);have hs:=(fR Ei).1;have tF:(aK (its.flatMap gK)).length=(its.flatMap gK).length:=(bx _).length_eq;generalize hz:aK (its.flatMap gK)=i0 at hs tF;have hd:∀m∈i0,Mx.D.dep m<=90:=λm hm=>hd m (cH.mp (hz▸hm))
 refine aI hf hN rfl ?_;show fin (aR (aO fs (N - 1)) nk [some (.lst (aa its)),none] none)=_;refine aA (d:= .lst (aa i0)) (S1:=none) (BG (bR (ds:=aa its) (S1:=none) (by simp only[RX]) (by rw[aj];omega) rfl (jd h)) hs) rfl (aq (BG (bR (ds:=de 0 (aa i0)) (S1:=none) (by simp only[RX]) ?_ rfl (Bg λi y hy=>?_)) rfl))
 ·have:∀(l:List Dt) (i:Nat),(de i l).length=l.length:=by
   intro l
   induction l with
   | nil=>intro i;rfl
   | cons x l ih=>intro i;simp[de,ih]
  rw[this,aj];omega
 ·have MD:=hd y (List.mem_iff_getElem?.mpr ⟨i,hy⟩);rw[show (if i≠0/\i0[i - 1]?=some y then([]:List Dt) else[ofD y])=if (!decide (i≠0/\i0[i - 1]?=some y))=true then[ofD y] else[] by by_cases q:i≠0/\i0[i - 1]?=some y <;> simp[q]];refine turn_if (ρ1:=[none,some (.int i),some (ofD y),some (.lst (aa i0))]) rfl ?_ λ_=>⟨by simp only[RX],rfl⟩
  by_cases h0:i=0
  ·subst h0;simp only[RX];rfl
  ·have e0:((i:Int)==0)=false:=by simpa using h0
   have cz:i < i0.length:=(Pp.mp hy).1;have ID:i0[i - 1]?=some (i0[i - 1]'(by omega)):=PX _;generalize i0[i - 1]'(by omega)=w at ID;have kY:=(xW (ds:=aa i0) (k:=i - 1) (d:=ofD w) (by rw[ba,PN,ID];rfl)).2;rw[show ((i - 1:Nat):Int)=(i:Int) - 1 by omega] at kY;have hq:=tX (a:=w) (b:=y) (by have:=hd w (List.mem_iff_getElem?.mpr ⟨i - 1,ID⟩);omega);simp only[RX,e0,kY,hq,ID];simp[h0]
def D2 (ii:Nat):Ts:=(.cons (.asg 1 (.comp [none,none] (.seq (.call ii (.cons (.var 0) .nil) [])) (.nm 1) (.cons (.cmp .Eq (.idx (.var 1) (.con (.int 0))) (.con (.str "any"))) .nil) (.idx (.var 1) (.con (.int 1))))) (.cons (.ret (.bi .tuple (.cons (.bi .sset (.cons (.var 1) .nil)) .nil))) .nil))
def AE {iu ii N:Nat} (hf:fs[iu]?=some ⟨1,2,false,D2 ii⟩) {d:Dt} (hN:1<=N) {Q:Mx.D->Prop} {its:List Mx.D} (h:∀m∈its,eI Q m) (hl:its.length < 4000) (hi:aO fs (N - 1) ii [d] none= .ok (.lst (aa its),none)):aO fs N iu [d] none= .ok (.tup (aa (aK ((dd (its.flatMap dZ)).map Mx.D.str))),none):=by have dN:lim=1000000:=rfl;have h2:=vq (its:=its);have NG:=Bl (ys:=its.flatMap dZ) (d:= .lst (aa ((its.flatMap dZ).map Mx.D.str))) rfl (by omega);refine aI hf hN rfl ?_;show fin (aR (aO fs (N - 1)) (D2 ii) [some d,none] none)=_;exact aA (d:= .lst (aa ((its.flatMap dZ).map Mx.D.str))) (S1:=none) (bR (ds:=aa its) (S1:=none) (by simp only[RX,hi]) (by rw[aj];omega) rfl (j0 h)) rfl (aq (BG (BG (by simp only[RX]) NG) rfl))
variable {fs:List Fn}
def eV:Nat->Mx.D->Prop
 | 0,_=>False
 | n + 1,d=>∃rs,d= .tup rs/\∀r∈rs,∃it c,r= .tup [it,.int c]/\eI (eV n) it/\c.natAbs < 2 ^ 64
abbrev pK (n:Nat) (r:Mx.D):Prop:=∃it c,r=Mx.D.tup [it,.int c]/\eI (eV n) it/\c.natAbs < 2 ^ 64
def oY:∀{n:Nat} {d:Mx.D},eV n d->Mx.D.dep d<=4 * n
 | 0,d,h=>h.elim
 | n + 1,d,⟨rs,e,h⟩=>by
  subst e;have:Mx.D.cC rs<=4 * n + 3:=d9 λr hr=>by obtain⟨it,c,rfl,hi,_⟩:=h r hr;have:=fI (n:=4 * n + 2) (λd hd=>oY hd) rfl hi;simp[Mx.D.dep,Mx.D.cC];omega
  simp only[Mx.D.dep];omega
def D1:∀{n m:Nat} {a b:Mx.D},eV n a->eV m b->k7 a b=true
 | 0,_,_,_,h,_=>h.elim
 | _ + 1,0,_,_,_,h=>h.elim
 | n + 1,m + 1,a,b,⟨rs,e1,h1⟩,⟨qs,e2,h2⟩=>by
  subst e1 e2;simp only[k7];refine qu λr hr q hq=>?_
  obtain⟨i,c,rfl,hi,_⟩:=h1 r hr;obtain⟨j,d,rfl,hj,_⟩:=h2 q hq;simp only[k7,iC,Bool.and_true];exact n8 (λp q hp hq=>D1 hp hq) hi hj
def yt {n:Nat} {ms:List Mx.D} (hn:n<=8) (hl:ms.length < 1000000) (h:∀m∈ms,eI (eV n) m):il ms=true:=by
 refine wy .ts hl (d9 λd hd=>?_) (λd hd=>?_) λd hd e he=>n8 (λp q hp hq=>D1 hp hq) (h d hd) (h e he)
 ·have:=fI (n:=4 * n + 2) (λd hd=>oY hd) rfl (h d hd);omega
 ·rcases h d hd with ⟨x,rfl⟩ | ⟨x,ps,rfl,_⟩ <;> rfl
def eI.imp {P Q:Mx.D->Prop} {it:Mx.D} (h:∀d,P d->Q d):eI P it->eI Q it:=Or.imp id λ⟨x,ps,e,hl,hp⟩=>⟨x,ps,e,hl,λp q=>h p (hp p q)⟩
def eV.up:∀{n:Nat} {d:Mx.D},eV n d->eV (n + 1) d
 | 0,d,h=>h.elim
 | n + 1,d,⟨rs,e,h⟩=>⟨rs,e,λr hr=>(h r hr).imp λit hh=>hh.imp λc hh=>⟨hh.1,hh.2.1.imp λd hd=>hd.up,hh.2.2⟩⟩
def jD {Q:Mx.D->Prop} {it:Mx.D} (h:eI Q it):(aG it).length<=3/\∀p∈aG it,Q p:=by
 rcases h with ⟨y,rfl⟩ | ⟨y,ps,rfl,h1,h2⟩
 ·simp[cP,aG]
 ·exact⟨h1,h2⟩
def yv:∀{n:Nat} {d it:Mx.D},eV (n + 1) d->it∈ei (n + 1) d->eI (eV n) it
 | n,d,it,⟨rs,e,h⟩,hi=>by
  subst e;rw[ei,List.mem_flatMap] at hi;obtain⟨r,hr,hi⟩:=hi;obtain⟨j,c,rfl,hj,_⟩:=h r hr;rw[dR,PC,List.mem_flatMap] at hi;rcases hi with rfl | ⟨p,hp,hi⟩
  ·exact hj
  ·have hG:=(jD hj).2 p hp;cases n with
   | zero=>exact hG.elim
   | succ n=>exact(yv hG hi).imp λd hd=>hd.up
def jz (ip:Nat) (b:Ts):Ts:=(.cons (.asgM 1 (.lst .nil)) (.cons (.fr (.tp [2,3]) (.seq (.var 0)) (.cons (.app 1 (.var 2)) (.cons (.fr (.nm 4) (.seq (.call ip (.cons (.var 2) .nil) [])) b) .nil))) (.cons (.ret (.mvr 1)) .nil)))
def iP {ip ii:Nat} {b:Ts} (hp:fs[ip]?=some ⟨1,1,false,fv⟩) (hf:fs[ii]?=some ⟨1,5,false,jz ip b⟩)
  (hb:∀{N:Nat} {d0 d2 d3:Option Dt} {acc ds:List Mx.D} {p:Mx.D},aO fs N ii [ofD p] none= .ok (.lst (aa ds),none)->acc.length + ds.length<=100000->aR (aO fs N) b [d0,some (.lst (aa acc)),d2,d3,some (ofD p)] none= .ok (.next,[d0,some (.lst (aa (acc++ds))),d2,d3,some (ofD p)],none)):
  ∀{n:Nat} {N:Nat} {d:Mx.D},n + 1<=N->eV n d->(ei n d).length<=100000->aO fs N ii [ofD d] none= .ok (.lst (aa (ei n d)),none)
 | 0,N,d,_,h,_=>h.elim
 | n + 1,N,d,hN,⟨rs,e,h⟩,hB=>by
  subst e;have dN:lim=1000000:=rfl;rw[ei] at hB;have loop:=fy (S:=none) (tg:= .tp [2,3]) (ds:=rs) (ρ:=[some (.tup (aa rs)),some (.lst []),none,none,none]) (body:=aR (aO fs (N - 1)) (.cons (.app 1 (.var 2)) (.cons (.fr (.nm 4) (.seq (.call ip (.cons (.var 2) .nil) [])) b) .nil)))
   (λp ρ=>∃x y z,ρ=[some (.tup (aa rs)),some (.lst (aa (p.flatMap (dR (ei n))))),x,y,z]) ⟨none,none,none,by simp[aa]⟩ (by
    rintro p y q ρ e1 ⟨x2,x3,x4,rfl⟩;obtain⟨it,c,rfl,hi,_⟩:=h y (by rw[e1];simp);rw[e1,List.flatMap_append,List.flatMap_cons,dR,PJ,PJ,PM] at hB;have Gh:=kG hp (N:=N - 1) (by omega) hi;have vH:=(jD hi).2;generalize hacc:p.flatMap (dR (ei n))=acc at hB ⊢;have inner:=fy (S:=none) (tg:= .nm 4) (ds:=aG it) (ρ:=[some (.tup (aa rs)),some (.lst (aa (acc++[it]))),some (ofD it),some (.int c),x4]) (body:=aR (aO fs (N - 1)) b)
     (λp ρ=>∃z,ρ=[some (.tup (aa rs)),some (.lst (aa (acc++[it]++p.flatMap (ei n)))),some (ofD it),some (.int c),z]) ⟨x4,by simp⟩ (by
      rintro p2 y2 q2 ρ e2 ⟨x5,rfl⟩;rw[e2,List.flatMap_append,List.flatMap_cons,PJ,PJ] at hB;have ih:=iP hp hf hb (N:=N - 1) (by omega) (vH y2 (by rw[e2];simp)) (by omega);refine⟨_,_,rfl,hb (acc:=acc++[it]++p2.flatMap (ei n)) ih (by simp only[PJ,List.length_singleton];omega),some (ofD y2),?_⟩;rw[List.flatMap_append];simp[PF])
    obtain⟨ρ1,vL,z,rfl⟩:=inner;refine⟨[some (.tup (aa rs)),some (.lst (aa acc)),some (ofD it),some (.int c),x4],_,by simp[ofD,aa,bY,dq],fm (ds:=aa acc) (d:=ofD it) (S1:=none) rfl (by simp only[RX]) rfl (by rw[aj];omega) (vY (ds:=aa (aG it)) (S1:=none) (by simp only[RX];rw[Gh];rfl) rfl ((show aa acc++[ofD it]=aa (acc++[it]) by rw[aQ];simp[aa])▸vL) rfl),some (ofD it),some (.int c),z,?_⟩;rw[List.flatMap_append,hacc];simp[dR,PF])
  obtain⟨ρ1,cF,x,y,z,rfl⟩:=loop;refine aI hf (by omega) rfl ?_;rw[show ofD (.tup rs)= .tup (aa rs) by rw[ofD]];show fin (aR (aO fs (N - 1)) (jz ip b) [some (.tup (aa rs)),none,none,none,none] none)=_;exact d6 (d:= .lst []) (S1:=none) rfl rfl (cn (ds:=aa rs) (S1:=none) (by simp only[RX]) rfl cF (aq (by simp only[RX];rw[ei])))
def jP {n:Nat}:∀{rs:List Mx.D},(∀r∈rs,pK n r)->rs.length<=(rs.flatMap (dR (ei n))).length
 | [],_=>by simp
 | r::rs,h=>by
  obtain⟨it,c,rfl,_⟩:=h r Pu;have h9:=jP λr hr=>h r (Pq _ hr)
  rw[List.flatMap_cons,dR,PJ,PM,PM];omega
def j5 {n:Nat} {rs:List Mx.D} {it p:Mx.D} {c:Mx.D} (hm: .tup [it,c]∈rs) (hp:p∈aG it):(ei n p).length<=(rs.flatMap (dR (ei n))).length:=by obtain⟨a,b,rfl⟩:=List.append_of_mem hm;obtain⟨a',b',e'⟩:=List.append_of_mem hp;rw[List.flatMap_append,List.flatMap_cons,dR,e',List.flatMap_append,List.flatMap_cons];simp only[PJ,PM];omega
def fO {f:Dt->Sx->R (List Dt×Sx)} {g:Mx.D->Int} {ds:List Mx.D} (h:∀m∈ds,f (ofD m) none= .ok ([.int (g m)],none)):bg f (aa ds) none= .ok ((ds.map g).map Dt.int,none):=by rw[ey (λm=>[Dt.int (g m)]) h,fq,List.map_map];rfl
def eD:∀l:List Int,intsOf (l.map Dt.int)=some l
 | []=>rfl
 | i::l=>by rw[Qh,intsOf,eD l];rfl
def sum_ints (l:List Int):dJ .sum [.lst (l.map Dt.int)]= .ok (.int l.sum):=by show (match intsOf (l.map Dt.int) with | some ns=>R.ok (Dt.int ns.sum) | none=> .bad)=_;rw[eD]
def rK (pl:Bool) (f:Mx.D->Int):Mx.D->Int
 | .tup [it,.int c]=>(if pl=true then 1 else c) * (1 + ((aG it).map f).sum)
 | _=>0
def tN (pl:Bool):Nat->Mx.D->Int
 | n + 1,.tup rs=>(rs.map (rK pl (tN pl n))).sum
 | _,_=>0
def De (ip is:Nat):C:=(.bi .sum (.cons (.comp [none,none] (.seq (.call ip (.cons (.var 1) .nil) [])) (.nm 1) .nil (.call is (.cons (.var 1) .nil) [])) .nil))
def IM (e:C):Ts:=(.cons (.ret (.bi .sum (.cons (.comp [none,none,none] (.seq (.var 0)) (.tp [1,2]) .nil e) .nil))) .nil)
def xm (ip is:Nat):C:= .bin .Mult (.var 2) (.bin .Add (.con (.int 1)) (De ip is))
def og (ip is:Nat):C:= .bin .Add (.con (.int 1)) (De ip is)
def nP {ip is:Nat} {pl:Bool} (hp:fs[ip]?=some ⟨1,1,false,fv⟩) (hf:fs[is]?=some ⟨1,1,false,IM (if pl=true then og ip is else xm ip is)⟩):
  ∀{n:Nat} {N:Nat} {d:Mx.D},n + 1<=N->eV n d->(ei n d).length<=100000->aO fs N is [ofD d] none= .ok (.int (tN pl n d),none)
 | 0,N,d,_,h,_=>h.elim
 | n + 1,N,d,hN,⟨rs,e,h⟩,hB=>by
  subst e;have dN:lim=1000000:=rfl;rw[ei] at hB;refine aI hf (by omega) rfl ?_;rw[show ofD (.tup rs)= .tup (aa rs) by rw[ofD]];show fin (aR (aO fs (N - 1)) (IM _) [some (.tup (aa rs))] none)=_;have Fc:=jP (n:=n) h;refine aq (BG (bR (ds:=aa rs) (S1:=none) (by simp only[RX]) (by rw[aj];omega) rfl (fO (g:=rK pl (tN pl n)) λm hm=>?_)) (sum_ints _));obtain⟨it,c,rfl,hi,hc⟩:=h m hm;have Gh:=kG hp (N:=N - 1) (by omega) hi;obtain⟨gG,vH⟩:=jD hi;have Np:∀p∈aG it,(ei n p).length<=100000:=λp lH=>Pz (j5 hm lH) hB
  have vL:ev (aO fs (N - 1)) (De ip is) [none,some (ofD it),some (.int c)] none= .ok (.int ((aG it).map (tN pl n)).sum,none):=
   BG (bR (ds:=aa (aG it)) (S1:=none) (by simp only[RX,Gh]) (by rw[aj];omega) rfl (fO (g:=tN pl n) λp lH=>dg (ρ1:=[none,some (ofD p)]) rfl (by simp only[RX,nP hp hf (N:=N - 1) (by omega) (vH p lH) (Np p lH)]) (by simp[bJ,gk]))) (sum_ints _)
  have m1:=bb (i:=c) (j:=1 + ((aG it).map (tN pl n)).sum) (.inl hc);refine dg (ρ1:=[none,some (ofD it),some (.int c)]) (by simp[ofD,aa,bY,dq,fX]) ?_ (by simp[bJ,gk]);cases pl with
  | true=>simp only[if_true,og,RX,vL,rK,Int.one_mul]
  | false=>simp only[Bool.false_eq_true,if_false,xm,RX,vL,m1,rK]
def tJ (iw is:Nat):Ts:=(.cons (.asg 5 (.con (.int 1))) (.cons (.fr (.nm 6) (.seq (.call iw (.cons (.var 3) .nil) [])) (.cons (.asg 5 (.bin .Add (.var 5) (.call is (.cons (.var 6) (.cons (.var 1) .nil)) []))) .nil)) (.cons (.ifs (.var 1) (.cons (.asg 4 (.con (.int 1))) .nil) .nil) (.cons (.asg 2 (.bin .Add (.var 2) (.bin .Mult (.var 4) (.var 5)))) .nil))))
def rj (iw is:Nat):Ts:=(.cons (.asg 2 (.con (.int 0))) (.cons (.fr (.tp [3,4]) (.seq (.var 0)) (tJ iw is)) (.cons (.ret (.var 2)) .nil)))
def tZ (a b:List Int):(a++b).sum=a.sum + b.sum:=by simp
def kv {iw is:Nat} {pl:Bool} (hp:fs[iw]?=some ⟨1,1,false,fv⟩) (hf:fs[is]?=some ⟨2,7,false,rj iw is⟩):
  ∀{n:Nat} {N:Nat} {d:Mx.D},n + 1<=N->eV n d->aO fs N is [ofD d,.bl pl] none= .ok (.int (tN pl n d),none)
 | 0,N,d,_,h=>h.elim
 | n + 1,N,d,hN,⟨rs,e,h⟩=>by
  subst e;refine aI hf (by omega) rfl ?_;rw[show ofD (.tup rs)= .tup (aa rs) by rw[ofD]];show fin (aR (aO fs (N - 1)) (rj iw is) [some (.tup (aa rs)),some (.bl pl),none,none,none,none,none] none)=_;have loop:=fy (S:=none) (tg:= .tp [3,4]) (ds:=rs) (ρ:=[some (.tup (aa rs)),some (.bl pl),some (.int 0),none,none,none,none]) (body:=aR (aO fs (N - 1)) (tJ iw is))
   (λp ρ=>∃x y z w,ρ=[some (.tup (aa rs)),some (.bl pl),some (.int (p.map (rK pl (tN pl n))).sum),x,y,z,w]) ⟨none,none,none,none,by simp⟩ (by
    rintro p y q ρ e1 ⟨x3,x4,x5,x6,rfl⟩;obtain⟨it,c,rfl,hi,hc⟩:=h y (by rw[e1];simp);have Gh:=kG hp (N:=N - 1) (by omega) hi;have vH:=(jD hi).2;generalize hT:(p.map (rK pl (tN pl n))).sum=T;have inner:=fy (S:=none) (tg:= .nm 6) (ds:=aG it) (ρ:=[some (.tup (aa rs)),some (.bl pl),some (.int T),some (ofD it),some (.int c),some (.int 1),x6]) (body:=aR (aO fs (N - 1)) (.cons (.asg 5 (.bin .Add (.var 5) (.call is (.cons (.var 6) (.cons (.var 1) .nil)) []))) .nil))
     (λp ρ=>∃w,ρ=[some (.tup (aa rs)),some (.bl pl),some (.int T),some (ofD it),some (.int c),some (.int (1 + (p.map (tN pl n)).sum)),w]) ⟨x6,by simp⟩ (by
      rintro p2 y2 q2 ρ e2 ⟨w,rfl⟩;have ih:=kv (pl:=pl) hp hf (N:=N - 1) (by omega) (vH y2 (by rw[e2];simp));refine⟨_,_,rfl,fu (d:= .int (1 + (p2.map (tN pl n)).sum + tN pl n y2)) (S1:=none) (by simp only[RX,ih]) (by simp[bJ,gk]) rfl,some (ofD y2),?_⟩;rw[Qi,tZ,List.map_singleton,List.sum_singleton,<-Int.add_assoc];rfl)
    obtain⟨ρ1,vL,w,rfl⟩:=inner;generalize hZ:(1 + ((aG it).map (tN pl n)).sum)=Z at vL;have m1:=bb (i:=c) (j:=Z) (.inl hc);have m2:=bb (i:=1) (j:=Z) (.inl (by decide));have key:aR (aO fs (N - 1)) (.cons (.ifs (.var 1) (.cons (.asg 4 (.con (.int 1))) .nil) .nil) (.cons (.asg 2 (.bin .Add (.var 2) (.bin .Mult (.var 4) (.var 5)))) .nil)) [some (.tup (aa rs)),some (.bl pl),some (.int T),some (ofD it),some (.int c),some (.int Z),w] none= .ok (.next,[some (.tup (aa rs)),some (.bl pl),some (.int (T + (if pl=true then 1 else c) * Z)),some (ofD it),some (.int (if pl=true then 1 else c)),some (.int Z),w],none):=by
     cases pl with
     | true=>exact vV (S1:=none) (by simp only[RX]) (fu (d:= .int 1) (S1:=none) (by simp only[RX]) rfl (fu (d:= .int (T + 1 * Z)) (S1:=none) (by simp only[RX,m2]) (by simp[bJ,gk]) rfl))
     | false=>exact uN (S1:=none) (by simp only[RX]) (fu (d:= .int (T + c * Z)) (S1:=none) (by simp only[RX,m1]) (by simp[bJ,gk]) rfl)
    refine⟨[some (.tup (aa rs)),some (.bl pl),some (.int T),some (ofD it),some (.int c),x5,x6],_,by simp[ofD,aa,bY,dq],fu (d:= .int 1) (S1:=none) (by simp only[RX]) rfl (vY (ds:=aa (aG it)) (S1:=none) (by simp only[RX,Gh]) rfl vL key),some (ofD it),some (.int (if pl=true then 1 else c)),some (.int Z),w,?_⟩;rw[Qi,tZ,hT,List.map_singleton,List.sum_singleton,rK,hZ])
  obtain⟨ρ1,cF,x,y,z,w,rfl⟩:=loop;exact aA (d:= .int 0) (S1:=none) rfl rfl (cn (ds:=aa rs) (S1:=none) (by simp only[RX]) rfl cF (aq (by simp only[RX];rw[tN])))
def fT (l:List Int):Int:=l.foldr max 0
def iW:∀l:List Int,0<=fT l
 | []=>by simp[fT]
 | a::l=>by have:=iW l;simp only[fT,List.foldr_cons] at this ⊢;omega
def uc:∀a b:List Int,fT (a++b)=max (fT a) (fT b)
 | [],b=>by have:=iW b;simp only[fT,List.nil_append,List.foldr_nil] at this ⊢;omega
 | x::a,b=>by have:=uc a b;simp only[fT,List.cons_append,List.foldr_cons] at this ⊢;omega
def qQ:∀l:List Int,(∀x∈l,0<=x)->eQ l=fT l
 | [],_=>rfl
 | [a],h=>by have:=h a (by simp);simp only[eQ,fT,List.foldr_cons,List.foldr_nil];omega
 | a::b::l,h=>by rw[eQ,qQ (b::l) λx hx=>h x (Pq _ hx)];rfl;simp
def qe {f:Mx.D->List Int}:∀ts:List Mx.D,fT (ts.map λt=>1 + fT (f t))=if ts.isEmpty=true then 0 else 1 + fT (ts.flatMap f)
 | []=>rfl
 | t::ts=>by
  have ih:=qe (f:=f) ts;have h1:=iW (f t);rw[List.flatMap_cons,uc];cases ts with
  | nil=>simp[fT] at *;omega
  | cons u us=>simp only[List.isEmpty_cons,Bool.false_eq_true,if_false] at ih ⊢;have:fT ((t::u::us).map λt=>1 + fT (f t))=max (1 + fT (f t)) (fT ((u::us).map λt=>1 + fT (f t))):=rfl;omega
def bV:Mx.D->List Mx.D
 | .tup [it,_]=>gK it
 | _=>[]
def ll:Nat->Mx.D->Int
 | n + 1,.tup rs=>fT ((rs.flatMap bV).map λit=>1 + fT ((aG it).map (ll n)))
 | _,_=>0
def yY:∀(n:Nat) (d:Mx.D),0<=ll n d:=λn d=>by unfold ll;split <;> first | exact iW _ | exact Int.le_refl _
def EJ {n:Nat} {rs:List Mx.D} {t:Mx.D} (h:∀r∈rs,pK n r) (ht:t∈rs.flatMap bV):∃x ps c,t=ofT x ps/\ps.length<=3/\(∀p∈ps,eV n p)/\ .tup [t,c]∈rs:=by
 rw[List.mem_flatMap] at ht;obtain⟨r,hr,ht⟩:=ht;obtain⟨it,c,rfl,hi,_⟩:=h r hr;rcases hi with ⟨x,rfl⟩ | ⟨x,ps,rfl,h1,h2⟩
 ·simp[bV,gK,cP] at ht
 ·have:t=ofT x ps:=by simpa [bV,gK,ofT] using ht
  subst this;exact⟨x,ps,_,rfl,h1,h2,hr⟩
def sY (F:FT) (n:Nat) (it2:l0) (tg2:Tg) (cs2:Cs) (e:C):ak->Sx->R (List Dt×Sx):=λρ1 S1=>(dI F it2 ρ1 S1).bind λx2=>af (decide (n * x2.1.length<=lim)&&decide (qk it2=0)) (bg (br tg2 (cA F cs2) (dS F e) ρ1) x2.1 x2.2)
def wg {F:FT} {ρ:ak} {S S1 S2:Sx} {ds:List Dt} {cap:List (Option Nat)} {it it2:l0} {tg tg2:Tg} {cs cs2:Cs} {e:C} {out:List Dt} (h:dI F it ρ S= .ok (ds,S1)) (hl:ds.length<=lim) (hk:(decide (qk it<=1)||kK F it ρ S)=true) (hc:bg (br tg (cA F cs) (sY F ds.length it2 tg2 cs2 e) (fX cap ρ)) ds S1= .ok (out,S2)):
  ev F (.ja cap it tg cs it2 tg2 cs2 e) ρ S= .ok (.lst out,S2):=by
 rw[ev,h,R.ar,P3 hl,hk,Bool.and_true,guard_true];show (bg (br tg (cA F cs) (sY F ds.length it2 tg2 cs2 e) (fX cap ρ)) ds S1).bind _=_;rw[hc];rfl
def FG {F:FT} {ρ ρ1:ak} {S S1 S2:Sx} {d:Dt} {ds out:List Dt} {n:Nat} {it2:l0} {tg tg2:Tg} {cs2:Cs} {e:C} (hs:bY tg d ρ= .ok ρ1) (h:dI F it2 ρ1 S= .ok (ds,S1)) (hl:n * ds.length<=lim) (hk:qk it2=0) (hc:bg (br tg2 (cA F cs2) (dS F e) ρ1) ds S1= .ok (out,S2)):
  br tg (cA F .nil) (sY F n it2 tg2 cs2 e) ρ d S= .ok (out,S2):=by
 unfold br sY;rw[hs,R.ar,cA,R.ar];simp only[if_true,h,R.ar,P3 hl,P3 hk,Bool.and_true,guard_true,hc]
def qY (i:Nat):Ts:=(.cons (.asg 1 (.comp [none,none,none] (.seq (.var 0)) (.tp [1,2]) (.cons (.cmp .Eq (.idx (.var 1) (.con (.int 0))) (.con (.str "of"))) .nil) (.var 1))) (.cons (.ifs (.nt (.var 1)) (.cons (.ret (.con (.int 0))) .nil) .nil) (.cons (.ret (.bin .Add (.con (.int 1)) (.bi (.maxD 0) (.cons (.ja [none,none,none] (.seq (.var 1)) (.nm 1) .nil (.seq (.idx (.var 1) (.con (.int 2)))) (.nm 2) .nil (.call i (.cons (.var 2) .nil) [])) .nil)))) .nil)))
def vk (l:List Int) (h:∀x∈l,0<=x):dJ (.maxD 0) [.lst (l.map Dt.int)]= .ok (.int (fT l)):=by
 show (match intsOf (l.map Dt.int) with | some ns=>R.ok (Dt.int (if ns.isEmpty then 0 else eQ ns)) | none=> .bad)=_;rw[eD];cases l with
 | nil=>rfl
 | cons a l=>show R.ok (Dt.int (eQ (a::l)))=_;rw[qQ _ h]
def lU (l:List Int) (h:∀x∈l,0<=x):dJ .maxL [.lst (.int 0::l.map Dt.int)]= .ok (.int (fT l)):=by show (match intsOf ((0::l).map Dt.int) with | some ns=>af (!ns.isEmpty) (R.ok (Dt.int (eQ ns))) | none=> .bad)=_;rw[eD];show R.ok (Dt.int (eQ (0::l)))=_;rw[qQ _ λx hx=>(PC.mp hx).elim (λe=>by rw[e];exact Int.le_refl _) (h x)];have:=iW l;rw[show fT (0::l)=max 0 (fT l) from rfl,show max 0 (fT l)=fT l by omega]
def qg {i:Nat} (hf:fs[i]?=some ⟨1,2,false,qY i⟩):∀{n:Nat} {N:Nat} {d:Mx.D},n + 1<=N->eV n d->(ei n d).length<=100000->aO fs N i [ofD d] none= .ok (.int (ll n d),none)
 | 0,N,d,_,h,_=>h.elim
 | n + 1,N,d,hN,⟨rs,e,h⟩,hB=>by
  subst e;have dN:lim=1000000:=rfl;rw[ei] at hB;have Fc:=jP (n:=n) h;have Jd:(rs.flatMap bV).length<=rs.length:=by
   have:=fB (f:=bV) (k:=1) (l:=rs) λx _=>by unfold bV gK;split <;> (try split) <;> simp
   omega
  refine aI hf (by omega) rfl ?_;rw[show ofD (.tup rs)= .tup (aa rs) by rw[ofD]];show fin (aR (aO fs (N - 1)) (qY i) [some (.tup (aa rs)),none] none)=_;refine aA (d:= .lst (aa (rs.flatMap bV))) (S1:=none) (bR (ds:=aa rs) (S1:=none) (by simp only[RX]) (by rw[aj];omega) rfl ?_) rfl ?_
  ·rw[ey (λm=>aa (bV m)) λm hm=>?_]
   ·simp only[ba];rw[eY]
   ·obtain⟨it,c,rfl,hi,_⟩:=h m hm;rcases hi with ⟨x,rfl⟩ | ⟨x,ps,rfl,_⟩
    ·exact turn_if (b:=false) (y:= .bo) (ρ1:=[none,some (ofD (cP x)),some (.int c)]) (by simp[ofD,aa,bY,dq,fX]) (by rw[i8];simp only[RX];rfl) λz=>by cases z
    ·have e:aa (bV (.tup [ofT x ps,.int c]))=[ofD (ofT x ps)]:=by simp[bV,gK,ofT,aa]
     rw[e];exact turn_if (b:=true) (ρ1:=[none,some (ofD (ofT x ps)),some (.int c)]) (by simp[ofD,aa,bY,dq,fX]) (by rw[jW];simp only[RX];rfl) λ_=>⟨by simp only[RX],by simp[bJ,gJ]⟩
  ·show fin (aR (aO fs (N - 1)) _ [some (.tup (aa rs)),some (.lst (aa (rs.flatMap bV)))] none)=_;rw[ll,qe];have hT:=λt (ht:t∈rs.flatMap bV)=>EJ h ht
   generalize rs.flatMap bV=ts at hT Jd;cases hts:ts with
   | nil=>exact dF (S1:=none) rfl (aq rfl)
   | cons t0 ts0=>
    rw[<-hts];have jA:ts.isEmpty=false:=by rw[hts];rfl
    have K8:(aa ts).isEmpty=false:=by rw[hts];simp[aa]
    refine bZ (S1:=none) (by simp only[RX,K8];rfl) ?_;have hc:=wg (F:=aO fs (N - 1)) (ρ:=[some (.tup (aa rs)),some (.lst (aa ts))]) (S:=none) (S1:=none) (S2:=none) (ds:=aa ts) (cap:=[none,none,none]) (it:= .seq (.var 1)) (tg:= .nm 1) (cs:= .nil) (it2:= .seq (.idx (.var 1) (.con (.int 2)))) (tg2:= .nm 2) (cs2:= .nil) (e:= .call i (.cons (.var 2) .nil) []) (out:=(ts.flatMap λt=>(aG t).map (ll n)).map Dt.int) (by simp only[RX]) (by rw[aj];omega) rfl (by
     rw[ey (λt=>((aG t).map (ll n)).map Dt.int) λt ht=>?_]
     ·rw[eY]
     ·obtain⟨x,ps,c,rfl,h1,h2,h3⟩:=hT t ht;exact FG (ρ1:=[none,some (ofD (ofT x ps)),none]) rfl (ds:=aa ps) (S1:=none) (by rw[jW];simp only[RX]) (by rw[aj,aj];have:ts.length * ps.length<=ts.length * 3:=Nat.mul_le_mul_left _ h1;omega) rfl (fO λp hp=>dg (ρ1:=[none,some (ofD (ofT x ps)),some (ofD p)]) rfl (by simp only[RX,qg hf (N:=N - 1) (by omega) (h2 p hp) (Pz (j5 h3 hp) hB)]) (by simp[bJ,gk])))
    have hm:=vk (ts.flatMap λt=>(aG t).map (ll n)) λx hx=>by rw[List.mem_flatMap] at hx;obtain⟨t,_,hx⟩:=hx;obtain⟨p,_,rfl⟩:=P9.mp hx;exact yY _ _
    rw[jA];exact aq (by simp only[RX,hc,hm];rfl)
def wX (i:Nat):Ts:=(.cons (.ifs (.cmp .Eq (.idx (.var 2) (.con (.int 0))) (.con (.str "of"))) (.cons (.app 1 (.bin .Add (.con (.int 1)) (.bi .maxL (.cons (.bin .Add (.lst (.cons (.con (.int 0)) .nil)) (.comp [none,none] (.seq (.idx (.var 2) (.con (.int 2)))) (.nm 1) .nil (.call i (.cons (.var 1) .nil) []))) .nil)))) .nil) .nil) .nil)
def yh (i:Nat):Ts:=(.cons (.asgM 1 (.lst (.cons (.con (.int 0)) .nil))) (.cons (.fr (.tp [2,3]) (.seq (.var 0)) (wX i)) (.cons (.ret (.bi .maxL (.cons (.mvr 1) .nil))) .nil)))
def t7 {i:Nat} (hf:fs[i]?=some ⟨1,4,false,yh i⟩):∀{n:Nat} {N:Nat} {d:Mx.D},n + 1<=N->eV n d->(ei n d).length<=100000->aO fs N i [ofD d] none= .ok (.int (ll n d),none)
 | 0,N,d,_,h,_=>h.elim
 | n + 1,N,d,hN,⟨rs,e,h⟩,hB=>by
  subst e;have dN:lim=1000000:=rfl;rw[ei] at hB;have Fc:=jP (n:=n) h;refine aI hf (by omega) rfl ?_;rw[show ofD (.tup rs)= .tup (aa rs) by rw[ofD]];show fin (aR (aO fs (N - 1)) (yh i) [some (.tup (aa rs)),none,none,none] none)=_;have g:∀l:List Mx.D,∀x∈l.map λit=>1 + fT ((aG it).map (ll n)),0<=x:=λl x hx=>by obtain⟨t,_,rfl⟩:=P9.mp hx;have:=iW ((aG t).map (ll n));omega
  have loop:=fy (S:=none) (tg:= .tp [2,3]) (ds:=rs) (ρ:=[some (.tup (aa rs)),some (.lst [.int 0]),none,none]) (body:=aR (aO fs (N - 1)) (wX i))
   (λp ρ=>∃x y,ρ=[some (.tup (aa rs)),some (.lst (.int 0::((p.flatMap bV).map λit=>1 + fT ((aG it).map (ll n))).map Dt.int)),x,y]) ⟨none,none,by simp⟩ (by
    rintro p y q ρ e1 ⟨x2,x3,rfl⟩;have hy:y∈rs:=by rw[e1];simp
    obtain⟨it,c,rfl,hi,_⟩:=h y hy;have gG:p.length < rs.length:=by rw[e1];simp
    have Jd:=fB (f:=bV) (k:=1) (l:=p) λx _=>by unfold bV gK;split <;> (try split) <;> simp
    generalize hacc:p.flatMap bV=acc at Jd;refine⟨[some (.tup (aa rs)),some (.lst (.int 0::(acc.map λit=>1 + fT ((aG it).map (ll n))).map Dt.int)),some (ofD it),some (.int c)],[some (.tup (aa rs)),some (.lst (.int 0::((acc++gK it).map λit=>1 + fT ((aG it).map (ll n))).map Dt.int)),some (ofD it),some (.int c)],by simp[ofD,aa,bY,dq],?_,some (ofD it),some (.int c),?_⟩
    ·rcases hi with ⟨x,rfl⟩ | ⟨x,ps,rfl,h1,h2⟩
     ·refine uN (S1:=none) (by rw[i8];simp only[RX];rfl) ?_;simp[gK,cP,Ts.app,aR]
     ·have NI:=bR (F:=aO fs (N - 1)) (ρ:=[some (.tup (aa rs)),some (.lst (.int 0::(acc.map λit=>1 + fT ((aG it).map (ll n))).map Dt.int)),some (ofD (ofT x ps)),some (.int c)]) (S:=none) (S1:=none) (S2:=none) (cap:=[none,none]) (it:= .seq (.idx (.var 2) (.con (.int 2)))) (tg:= .nm 1) (cs:= .nil) (e:= .call i (.cons (.var 1) .nil) []) (ds:=aa ps) (by rw[jW];simp only[RX]) (by rw[aj];omega) rfl (fO (g:=ll n) λp hp=>dg (ρ1:=[none,some (ofD p)]) rfl (by simp only[RX,t7 hf (N:=N - 1) (by omega) (h2 p hp) (Pz (j5 hy hp) hB)]) (by simp[bJ,gk]));have ca:=nQ (a:=[.int 0]) (b:=(ps.map (ll n)).map Dt.int) (by simp;omega);have mL:=lU (ps.map (ll n)) λx hx=>by obtain⟨p,_,rfl⟩:=P9.mp hx;exact yY _ _
      refine vV (S1:=none) (by rw[jW];simp only[RX];rfl) (fm (ds:= .int 0::(acc.map λit=>1 + fT ((aG it).map (ll n))).map Dt.int) (d:= .int (1 + fT (ps.map (ll n)))) (S1:=none) rfl (by simp only[RX,NI,ca,List.cons_append,List.nil_append,mL]) (by simp[bJ,gk]) (by simp;omega) ?_);simp[gK,ofT,aG,Ts.app,aR]
    ·rw[List.flatMap_append,hacc];simp[bV])
  obtain⟨ρ1,cF,x,y,rfl⟩:=loop;have mL:=lU _ (g (rs.flatMap bV));exact d6 (d:= .lst [.int 0]) (S1:=none) rfl rfl (cn (ds:=aa rs) (S1:=none) (by simp only[RX]) rfl cF (aq (by simp only[RX,mL];rw[ll])))
variable {fs:List Fn}
def mG (its:List Mx.D):(uq none (aK its)).Pairwise (λa b=>Mx.D.lt a b=true)/\∀x,x∈uq none (aK its)↔x∈its:=by refine⟨(mE (gW _) λ_ _ _ z=>by cases z).1,λx=>?_⟩;have hq:=xD (x:=x) (a:=aK its) (p:=none);simp only[reduceCtorEq,or_false] at hq;rw[hq,cH]
def Eh {x y:Str} (h:Mx.D.lt (cP x) (cP y)=true):Mx.D.lt (.str x) (.str y)=true:=by
 simp only[cP,Mx.D.lt,Mx.D.dc,if_true] at h ⊢;split at h
 ·simp[Mx.D.eO] at h
 ·exact h
def oF {Q:Mx.D->Prop}:∀{us:List Mx.D},(∀m∈us,eI Q m)->us.Pairwise (λa b=>Mx.D.lt a b=true)->((us.flatMap dZ).map Mx.D.str).Pairwise (λa b=>Mx.D.lt a b=true)
 | [],_,_=>by simp
 | u::us,h,hp=>by
  rw[List.pairwise_cons] at hp;have ih:=oF (λm hm=>h m (Pq _ hm)) hp.2;rcases h u Pu with ⟨x,rfl⟩ | ⟨x,ps,rfl,_⟩
  ·rw[List.flatMap_cons,show dZ (cP x)=[x] from rfl,List.singleton_append,Qh,List.pairwise_cons];refine⟨λz hz=>?_,ih⟩;obtain⟨y,hy,rfl⟩:=P9.mp hz;rw[List.mem_flatMap] at hy;obtain⟨m,hm,hy⟩:=hy;rcases h m (Pq _ hm) with ⟨w,rfl⟩ | ⟨w,ps,rfl,_⟩
   ·have:y=w:=by simpa [dZ,cP] using hy
    subst this;exact Eh (hp.1 _ hm)
   ·simp[dZ,ofT] at hy
  ·exact ih
def lK {Q:Mx.D->Prop}:∀{us:List Mx.D},(∀m∈us,eI Q m)->(us.flatMap gK).Sublist us
 | [],_=>by simp
 | u::us,h=>by
  have ih:=lK λm hm=>h m (Pq _ hm)
  rcases h u Pu with ⟨x,rfl⟩ | ⟨x,ps,rfl,_⟩
  ·exact ih.cons _
  ·exact ih.cons_cons _
def vC {Q:Mx.D->Prop} {its:List Mx.D} (h:∀m∈its,eI Q m):aK ((dd (its.flatMap dZ)).map Mx.D.str)=((uq none (aK its)).flatMap dZ).map Mx.D.str:=by
 obtain⟨h1,h2⟩:=mG its;refine gC (pU (List.pairwise_map.mpr (Kb.imp λh e=>h (by cases e;rfl)))) (oF (λm hm=>h m ((h2 m).mp hm)) h1) λx=>?_
 rw[cH,P9,P9];simp only[Km,List.mem_flatMap,h2]
def rM {Q:Mx.D->Prop} {its:List Mx.D} (h:∀m∈its,eI Q m):uq none (aK (its.flatMap gK))=(uq none (aK its)).flatMap gK:=by
 obtain⟨h1,h2⟩:=mG its;obtain⟨h3,h4⟩:=mG (its.flatMap gK);refine gC h3 (h1.sublist (lK λm hm=>h m ((h2 m).mp hm))) λx=>?_
 rw[h4];simp only[List.mem_flatMap,h2]
variable {fs:List Fn}
def qL (ps:List Mx.D):Mx.D:= .tup [.str "mix",.tup ps]
def tf (ps:List Mx.D):ofD (qL ps)= .tup [.str "mix",.tup (aa ps)]:=by simp[qL,ofD,aa]
def oC:Nat->Mx.D->Prop
 | 0,_=>False
 | n + 1,t=>(∃x,t=cP x)\/(∃x ps,t=ofT x ps/\ps.length<=3/\∀p∈ps,oC n p)\/∃ps,t=qL ps/\ps.length<=4/\∀p∈ps,oC n p
def nd:Nat->Nat
 | 0=>0
 | n + 1=>1 + 4 * nd n
def sH (ix it:Nat):C:=(.comp [none,none,some 2,some 1,some 3,some 0,some 4] (.rng1 (.var 6)) (.nm 1) .nil (.call it (.cons (.var 5) (.cons (.call ix (.cons (.var 3) (.cons (.var 1) .nil)) []) (.cons (.bin .Sub (.var 2) (.con (.int 1))) (.cons (.var 4) (.cons (.var 6) .nil))))) []))
def vA (ip:Nat) (j m:Int):C:=(.call ip (.cons (.var 0) (.cons (.bin .Add (.var 1) (.con (.int j))) (.cons (.con (.int m)) .nil))) [])
def xl (ip ix it:Nat):Ts:=(.cons (.asg 5 (.call ip (.cons (.var 0) (.cons (.var 1) (.cons (.con (.int 9)) .nil))) [])) (.cons (.ifs (.or (.cmp .Eq (.var 2) (.con (.int 0))) (.cmp .Lt (.var 5) (.con (.int 2)))) (.cons (.ifs (.cmp .Eq (vA ip 1 2) (.con (.int 0))) (.cons (.ret (.tup (.cons (.con (.str "any")) (.cons (.idx (.var 3) (vA ip 2 3)) .nil)))) .nil) .nil) (.cons (.ret (.tup (.cons (.con (.str "of")) (.cons (.idx (.var 4) (vA ip 2 3)) (.cons (.tup .nil) .nil))))) .nil)) .nil) (.cons (.ifs (.cmp .Lt (.var 5) (.con (.int 5))) (.cons (.asg 6 (.bin .Add (.con (.int 1)) (vA ip 1 3))) (.cons (.asg 7 (sH ix it)) (.cons (.ret (.tup (.cons (.con (.str "of")) (.cons (.idx (.var 4) (vA ip 2 3)) (.cons (.bi .tuple (.cons (.var 7) .nil)) .nil))))) .nil))) .nil) (.cons (.asg 6 (vA ip 1 5)) (.cons (.ret (.tup (.cons (.con (.str "mix")) (.cons (.bi .tuple (.cons (sH ix it) .nil)) .nil)))) .nil)))))
def uE {ip ix it:Nat} (hp:jw fs ip) (hx:fs[ix]?=some ⟨2,2,false,tO⟩) (hf:fs[it]?=some ⟨5,8,false,xl ip ix it⟩) {ns:List Int} {a b c a' b' c':Str}:
  ∀(deep:Nat) {N k:Nat},deep + 3<=N->k < 100000->∃t,aO fs N it [.bK ns,.int k,.int deep,.lst [.str a,.str b,.str c],.lst [.str a',.str b',.str c']] none= .ok (ofD t,none)/\oC (deep + 1) t
 | deep,N,k,hN,hk=>by
  have dN:lim=1000000:=rfl;generalize hnm:Dt.lst [.str a,.str b,.str c]=nm;generalize hsg:Dt.lst [.str a',.str b',.str c']=sg;have P:=λ(k many:Nat) (h1:k < 1000000) (h2:0 < many)=>ni hp (n:=N - 1) (by omega) (ns:=ns) h1 h2
  have q0:aO fs (N - 1) ip [.bK ns,.int k,.int 9] none=_:=P k 9 (by omega) (by decide);have Kl:aO fs (N - 1) ip [.bK ns,.int ((k:Int) + 1),.int 2] none=_:=P (k + 1) 2 (by omega) (by decide);have MS:aO fs (N - 1) ip [.bK ns,.int ((k:Int) + 1),.int 3] none=_:=P (k + 1) 3 (by omega) (by decide);have Mt:aO fs (N - 1) ip [.bK ns,.int ((k:Int) + 1),.int 5] none=_:=P (k + 1) 5 (by omega) (by decide);have q2:aO fs (N - 1) ip [.bK ns,.int ((k:Int) + 2),.int 3] none=_:=P (k + 2) 3 (by omega) (by decide);have l2:=du (ns:=ns) (k:=k + 2) (many:=3) (by decide);have OM:=du (ns:=ns) (k:=k + 1) (many:=3) (by decide);have OO:=du (ns:=ns) (k:=k + 1) (many:=5) (by decide);generalize b8 ns k 9=way at q0;generalize b8 ns (k + 1) 2=Il at Kl;generalize b8 ns (k + 1) 3=v13 at MS OM;generalize b8 ns (k + 1) 5=v15 at Mt OO;generalize b8 ns (k + 2) 3=v2 at q2 l2;obtain⟨IX,wz⟩:=pe (a:=a') (b:=b') (c:=c') l2;obtain⟨MW,qD⟩:=pe (a:=a) (b:=b) (c:=c) l2;rw[hsg] at wz;rw[hnm] at qD;have parts:∀(m:Nat) (y5 y7:Option Dt),m<=4->1<=deep->∃qs,ev (aO fs (N - 1)) (sH ix it) [some (.bK ns),some (.int k),some (.int deep),some nm,some sg,y5,some (.int m),y7] none= .ok (.lst (aa qs),none)/\qs.length=m/\∀q∈qs,oC deep q:=by
   intro m y5 y7 hm hd;obtain⟨qs,k1,k2,k3⟩:=pW (f:=br (.nm 1) (cA (aO fs (N - 1)) .nil) (dS (aO fs (N - 1)) (.call it (.cons (.var 5) (.cons (.call ix (.cons (.var 3) (.cons (.var 1) .nil)) []) (.cons (.bin .Sub (.var 2) (.con (.int 1))) (.cons (.var 4) (.cons (.var 6) .nil))))) [])) [none,none,some (.int deep),some (.int k),some nm,some (.bK ns),some sg]) (S:=none) (ds:=bU 0 m) (oC deep) (by
    intro x rd;obtain⟨i,hi,rfl⟩:=zI rd;have N3:=Bi hx (n:=N - 1) (by omega) (k:=k) (j:=i);have O6:=yR (k:=k) (j:=i);obtain⟨t,r1,r2⟩:=uE hp hx hf (ns:=ns) (a:=a) (b:=b) (c:=c) (a':=a') (b':=b') (c':=c') (deep - 1) (N:=N - 1) (k:=mv k i) (by omega) (by omega);rw[hnm,hsg] at r1;refine⟨t,dg (ρ1:=[none,some (.int i),some (.int deep),some (.int k),some nm,some (.bK ns),some sg]) rfl ?_ (by simp[bJ,gJ]),by rw[show deep=deep - 1 + 1 by omega];exact r2⟩;have r3:aO fs (N - 1) it [.bK ns,.int (mv k i),.int ((deep:Int) - 1),nm,sg] none= .ok (ofD t,none):=by rw[show (deep:Int) - 1=((deep - 1:Nat):Int) by omega];exact r1
    simp only[RX,N3,r3])
   exact⟨qs,bR (ds:=bU 0 m) (S1:=none) (kF (n:=m) (by simp only[RX]) (by omega)) (by simp[bU];omega) rfl k1,by rw[k2];simp[bU],k3⟩
  suffices hh:∃t,fin (aR (aO fs (N - 1)) (xl ip ix it) [some (.bK ns),some (.int k),some (.int deep),some nm,some sg,none,none,none] none)= .ok (ofD t,none)/\oC (deep + 1) t by obtain⟨t,h1,h2⟩:=hh;exact⟨t,aI hf (by omega) rfl h1,h2⟩
  have E8:bQ (aO fs (N - 1)) (.or (.cmp .Eq (.var 2) (.con (.int 0))) (.cmp .Lt (.var 5) (.con (.int 2)))) [some (.bK ns),some (.int k),some (.int deep),some nm,some sg,some (.int way),none,none] none= .ok (decide (deep=0\/way < 2),none):=by
   simp only[RX];by_cases h0:deep=0
   ·subst h0;rfl
   ·have e0:((deep:Int)==0)=false:=by simpa using h0
    rw[e0];by_cases h1:way < 2 <;> simp[h0,h1] <;> omega
  by_cases hlf:deep=0\/way < 2
  ·rw[P3 hlf] at E8;by_cases Fg:Il=0
   ·subst Fg;exact⟨cP MW,aA (d:= .int way) (S1:=none) (by simp only[RX,q0]) rfl (dF (S1:=none) E8 (dF (S1:=none) (by simp only[vA,RX,Kl];rfl) (aq (by simp only[vA,RX,q2,qD];rw[i8])))),.inl ⟨MW,rfl⟩⟩
   ·have e0:((Il:Int)==0)=false:=by simpa using Fg
    exact⟨ofT IX [],aA (d:= .int way) (S1:=none) (by simp only[RX,q0]) rfl (dF (S1:=none) E8 (bZ (S1:=none) (by simp only[vA,RX,Kl,e0]) (aq (by simp only[vA,RX,q2,wz];rw[jW];rfl)))),.inr (.inl ⟨IX,[],rfl,by simp,by simp⟩)⟩
  ·rw[PY hlf] at E8;have hd:1<=deep:=by omega
   by_cases h5:(way:Int) < 5
   ·obtain⟨qs,p1,p2,p3⟩:=parts (1 + v13) (some (.int way)) none (by omega) hd;refine⟨ofT IX qs,aA (d:= .int way) (S1:=none) (by simp only[RX,q0]) rfl (bZ (S1:=none) E8 (dF (S1:=none) (by simp only[RX,P3 h5]) (aA (d:= .int (1 + v13)) (S1:=none) (by simp only[vA,RX,MS]) rfl (aA (d:= .lst (aa qs)) (S1:=none) ?_ rfl (aq (by simp only[vA,RX,q2,wz];rw[jW])))))),.inr (.inl ⟨IX,qs,rfl,by omega,p3⟩)⟩;exact p1
   ·obtain⟨qs,p1,p2,p3⟩:=parts v15 (some (.int way)) none (by omega) hd;refine⟨qL qs,aA (d:= .int way) (S1:=none) (by simp only[RX,q0]) rfl (bZ (S1:=none) E8 (bZ (S1:=none) (by simp only[RX,PY h5]) (aA (d:= .int v15) (S1:=none) (by simp only[vA,RX,Mt]) rfl (aq (by simp only[RX];rw[show ev (aO fs (N - 1)) (sH ix it) ([some (.bK ns),some (.int k),some (.int deep),some nm,some sg,some (.int way),some (.int v15),none]) none=_ from p1];simp only[RX];rw[tf]))))),.inr (.inr ⟨qs,rfl,by omega,p3⟩)⟩
def wI (g:Nat) (it:Mx.D):Nat:=1 + ((aG it).flatMap (ei g)).length
def yj:Ts:=(.cons (.ifs (.and (.cmp .Gt (.bi .len (.cons (.mvr 1) .nil)) (.con (.int 0))) (.cmp .Eq (.idx (.idx (.mvr 1) (.neg (.con (.int 1)))) (.con (.int 0))) (.var 2))) (.cons (.yH 1 (.neg (.con (.int 1))) (.tup (.cons (.var 2) (.cons (.bin .Add (.idx (.idx (.mvr 1) (.neg (.con (.int 1)))) (.con (.int 1))) (.con (.int 1))) .nil)))) .nil) (.cons (.app 1 (.tup (.cons (.var 2) (.cons (.con (.int 1)) .nil)))) .nil)) .nil)
def px (ii:Nat):Ts:=(.cons (.asgM 1 (.lst .nil)) (.cons (.fr (.nm 2) (.seq (.bi .sorted (.cons (.call ii (.cons (.var 0) .nil) []) .nil))) yj) (.cons (.ret (.bi .tuple (.cons (.mvr 1) .nil))) .nil)))
def qB {g:Nat} {it c:Mx.D}:(dR (ei g) (.tup [it,c])).length=wI g it:=by rw[dR,PM,wI];omega
def lB {ii ig N:Nat} (hf:fs[ig]?=some ⟨1,3,false,px ii⟩) (hN:1<=N) {d:Dt} {ms:List Mx.D} {g:Nat} (hg:g<=8) (hl:ms.length<=1000) (h:∀m∈ms,eI (eV g) m) (hi:aO fs (N - 1) ii [d] none= .ok (.lst (aa ms),none)):
  ∃rs,aO fs N ig [d] none= .ok (.tup (aa rs),none)/\(∀r∈rs,∃(it:Mx.D) (c:Int),r=Mx.D.tup [it,Mx.D.int c]/\eI (eV g) it/\(0:Int)<=c/\c<=1000)/\(rs.flatMap (dR (ei g))).length<=(ms.map (wI g)).sum:=by
 have dN:lim=1000000:=rfl;have hs:=(fR (yt hg (by omega) h)).1;have tF:(aK ms).length=ms.length:=(bx ms).length_eq;have loop:=fy (S:=none) (tg:= .nm 2) (ds:=aK ms) (ρ:=[some d,some (.lst []),none]) (body:=aR (aO fs (N - 1)) yj)
  (λp ρ=>∃rs x,(∀r∈rs,∃(it:Mx.D) (c:Int),r=Mx.D.tup [it,Mx.D.int c]/\eI (eV g) it/\(0:Int)<=c/\c<=p.length)/\rs.length<=p.length/\(rs.flatMap (dR (ei g))).length<=(p.map (wI g)).sum/\ρ=[some d,some (.lst (aa rs)),x]) ⟨[],none,by simp,by simp,by simp,by simp[aa]⟩ (by
   rintro p y q ρ e1 ⟨rs,x,hr,Fc,hw,rfl⟩;have hy:eI (eV g) y:=h y (cH.mp (by rw[e1];simp));have gG:p.length < ms.length:=by rw[<-tF,e1];simp
   have IJ:∀r∈rs,∃(it:Mx.D) (c:Int),r=Mx.D.tup [it,Mx.D.int c]/\eI (eV g) it/\(0:Int)<=c/\c<=(p++[y]).length:=λr hm=>by obtain⟨it,c,e,h1,h2,h3⟩:=hr r hm;exact⟨it,c,e,h1,h2,by rw[PJ];omega⟩
   have zB:∀{c:Int},0<=c->c<=(p++[y]).length->∃it c',Mx.D.tup [y,.int c]= .tup [it,.int c']/\eI (eV g) it/\0<=c'/\c'<=(p++[y]).length:=λ {c} h1 h2=>⟨y,c,rfl,hy,h1,h2⟩
   have He:∀r∈rs++[Mx.D.tup [y,.int 1]],∃(it:Mx.D) (c:Int),r=Mx.D.tup [it,Mx.D.int c]/\eI (eV g) it/\(0:Int)<=c/\c<=(p++[y]).length:=λr hm=>by
    rcases PU.mp hm with hm | hm
    ·exact IJ r hm
    ·rw[P8] at hm;subst hm;exact zB (by decide) (by rw[PJ];simp;omega)
   have M1:((rs++[Mx.D.tup [y,.int 1]]).flatMap (dR (ei g))).length<=((p++[y]).map (wI g)).sum:=by rw[List.flatMap_append,PJ,Qi,List.sum_append_nat,List.flatMap_singleton,qB,List.map_singleton,List.sum_singleton];omega
   have oP:(rs++[Mx.D.tup [y,.int 1]]).length<=(p++[y]).length:=by simp;omega
   rcases kM rs with rfl | ⟨qj,r0,rfl⟩
   ·exact⟨[some d,some (.lst []),some (ofD y)],_,rfl,uN (S1:=none) rfl (fm (ds:=[]) (d:= .tup [ofD y,.int 1]) (S1:=none) rfl (by simp only[RX]) (by simp[bJ,gk,gI,gJ]) (by simp) rfl),[.tup [y,.int 1]],some (ofD y),He,oP,M1,by simp[ofD,aa]⟩
   ·obtain⟨zo,c0,rfl,B0,NK,O7⟩:=hr r0 (by simp);have Ph:=fI (n:=4 * g + 2) (λd hd=>oY hd) rfl B0;have hq:=Au (a:=zo) (b:=y) (by omega);have el:aa (qj++[.tup [zo,.int c0]])=aa qj++[.tup [ofD zo,.int c0]]:=by rw[aQ];simp[ofD,aa]
    have Mr:decide ((0:Int) < ((aa qj++[Dt.tup [ofD zo,.int c0]]).length:Nat))=true:=P3 (by rw[PJ];simp);rw[el];by_cases heq:zo=y
    ·rw[P3 heq] at hq;have KS:((aa qj++[Dt.tup [ofD zo,.int c0]]).set qj.length (.tup [ofD y,.int (c0 + 1)]))=aa (qj++[.tup [y,.int (c0 + 1)]]):=by rw[aQ,zS (aa qj) _ _ (aj qj).symm];simp[ofD,aa]
     refine⟨[some d,some (.lst (aa qj++[.tup [ofD zo,.int c0]])),some (ofD y)],_,rfl,vV (S1:=none) (by simp only[RX,Mr,fE,hq,if_true]) (nx (zE (ds:=aa qj++[.tup [ofD zo,.int c0]]) (d:= .tup [ofD y,.int (c0 + 1)]) (S1:=none) (S2:=none) (n:= -1) (j:=qj.length) rfl (by simp only[RX,fE]) (by simp only[RX]) (by simp[bJ,gk,gI,gJ]) (by rw[PJ,aj];exact zW)) rfl),qj++[.tup [y,.int (c0 + 1)]],some (ofD y),λr hm=>?_,by simp at Fc ⊢;omega,?_,by rw[KS];rfl⟩
     ·rcases PU.mp hm with hm | hm
      ·exact IJ r (by simp[hm])
      ·rw[P8] at hm;subst hm;exact zB (by omega) (by rw[PJ];simp;omega)
     ·subst heq;rw[List.flatMap_append,PJ,List.flatMap_singleton,qB] at hw ⊢;rw[Qi,List.sum_append_nat];omega
    ·rw[PY heq] at hq;exact⟨[some d,some (.lst (aa qj++[.tup [ofD zo,.int c0]])),some (ofD y)],_,rfl,uN (S1:=none) (by simp only[RX,Mr,fE,hq,if_true]) (fm (ds:=aa qj++[.tup [ofD zo,.int c0]]) (d:= .tup [ofD y,.int 1]) (S1:=none) rfl (by simp only[RX]) (by simp[bJ,gk,gI,gJ]) (by rw[<-el,aj];omega) rfl),_,some (ofD y),He,oP,M1,by rw[aQ (qj++_),el];simp[ofD,aa]⟩)
 obtain⟨ρ1,cF,rs,x,h1,h2,h3,rfl⟩:=loop;have hp:((aK ms).map (wI g)).sum=(ms.map (wI g)).sum:=((bx ms).map _).sum_nat;refine⟨rs,aI hf hN rfl ?_,λr hm=>?_,by omega⟩
 ·show fin (aR (aO fs (N - 1)) (px ii) [some d,none,none] none)=_;exact d6 (d:= .lst []) (S1:=none) rfl rfl (cn (ds:=aa (aK ms)) (S1:=none) (by simp only[RX,hi,hs]) rfl cF (aq (by simp only[RX])))
 ·obtain⟨it,c,e,k1,k2,k3⟩:=h1 r hm;exact⟨it,c,e,k1,k2,by omega⟩
def fP (ii ig:Nat):Ts:=(.cons (.ifs (.cmp .Eq (.idx (.var 0) (.con (.int 0))) (.con (.str "any"))) (.cons (.ret (.lst (.cons (.var 0) .nil))) .nil) .nil) (.cons (.ifs (.cmp .Eq (.idx (.var 0) (.con (.int 0))) (.con (.str "of"))) (.cons (.ret (.lst (.cons (.tup (.cons (.con (.str "of")) (.cons (.idx (.var 0) (.con (.int 1))) (.cons (.bi .tuple (.cons (.comp [none,none] (.seq (.idx (.var 0) (.con (.int 2)))) (.nm 1) .nil (.call ig (.cons (.var 1) .nil) [])) .nil)) .nil)))) .nil))) .nil) .nil) (.cons (.asg 2 (.lst .nil)) (.cons (.fr (.nm 1) (.seq (.idx (.var 0) (.con (.int 1)))) (.cons (.asg 2 (.bin .Add (.var 2) (.call ii (.cons (.var 1) .nil) []))) .nil)) (.cons (.ret (.var 2)) .nil)))))
def xo:∀{n m:Nat},n<=m->nd n<=nd m
 | 0,m,_=>Nat.zero_le _
 | n + 1,0,h=>by omega
 | n + 1,m + 1,h=>by have:=xo (n:=n) (m:=m) (by omega);simp only[nd];omega
def km {g:Nat}:∀{ms:List Mx.D},ms.length<=(ms.map (wI g)).sum
 | []=>by simp
 | m::ms=>by have:=km (g:=g) (ms:=ms);rw[Qh,List.sum_cons,PM,wI];omega
def iS {ii ig:Nat} (hi:fs[ii]?=some ⟨1,3,false,fP ii ig⟩) (hf:fs[ig]?=some ⟨1,3,false,px ii⟩):
  ∀(n:Nat) {N g:Nat} {t:Mx.D},n<=4->2 * n + 2<=N->n<=g + 1->g<=8->oC n t->∃ms,aO fs N ii [ofD t] none= .ok (.lst (aa ms),none)/\(∀m∈ms,eI (eV g) m)/\(ms.map (wI g)).sum<=nd n
 | 0,N,g,t,_,_,_,_,h=>h.elim
 | n + 1,N,g,t,hn,hN,Mp,hg,h=>by
  have dN:lim=1000000:=rfl;have eS:nd n<=85:=Pz (xo (m:=4) (by omega)) (by decide);rcases h with ⟨x,rfl⟩ | ⟨x,ps,rfl,hl,hp⟩ | ⟨ps,rfl,hl,hp⟩
  ·refine⟨[cP x],aI hi (by omega) rfl ?_,λm hm=>by rw[P8] at hm;subst hm;exact .inl ⟨x,rfl⟩,by simp[wI,cP,aG,nd]⟩;rw[i8];show fin (aR (aO fs (N - 1)) (fP ii ig) [some (.tup [.str "any",.str x]),none,none] none)=_;exact dF (S1:=none) (by simp only[RX];rfl) (aq (by simp only[RX];rw[aa,i8];rfl))
  ·have ex:∃qs,bg (br (.nm 1) (cA (aO fs (N - 1)) .nil) (dS (aO fs (N - 1)) (.call ig (.cons (.var 1) .nil) [])) [none,none]) (aa ps) none= .ok (aa qs,none)/\qs.length=ps.length/\(∀q∈qs,eV g q)/\(qs.flatMap (ei g)).length<=ps.length * nd n:=by
    clear hl
    induction ps with
    | nil=>exact⟨[],by simp[aa,bg],rfl,by simp,by simp⟩
    | cons p ps ihp=>
     obtain⟨qs,k1,k2,k3,k4⟩:=ihp λp lH=>hp p (Pq _ lH)
     have M3:=hp p Pu;obtain⟨g',rfl⟩:∃g',g=g' + 1:=by
      cases g with
      | zero=>cases n with
       | zero=>exact M3.elim
       | succ n=>omega
      | succ g'=>exact⟨g',rfl⟩
     obtain⟨ms,j1,j2,j3⟩:=iS hi hf n (N:=N - 1 - 1) (g:=g') (by omega) (by omega) (by omega) (by omega) M3;have Mq:=km (g:=g') (ms:=ms);obtain⟨rs,f1,f2,f3⟩:=lB hf (N:=N - 1) (by omega) (d:=ofD p) (g:=g') (by omega) (by omega) j2 j1;refine⟨.tup rs::qs,?_,by simp[k2],λq hq=>?_,?_⟩
     ·have ht:br (.nm 1) (cA (aO fs (N - 1)) .nil) (dS (aO fs (N - 1)) (.call ig (.cons (.var 1) .nil) [])) [none,none] (ofD p) none= .ok ([.tup (aa rs)],none):=dg (ρ1:=[none,some (ofD p)]) rfl (by simp only[RX,f1]) rfl;rw[aa,bg,ht,R.ar,k1,R.ar,aa,ofD];rfl
     ·rcases PC.mp hq with rfl | hq
      ·refine⟨rs,rfl,λr hr=>?_⟩;obtain⟨it,c,e,z1,z2,z3⟩:=f2 r hr;exact⟨it,c,e,z1,by omega⟩
      ·exact k3 q hq
     ·rw[List.flatMap_cons,PJ,PM,Nat.succ_mul,ei];omega
   obtain⟨qs,k1,k2,k3,k4⟩:=ex;have h3:ps.length * nd n<=3 * nd n:=Nat.mul_le_mul_right _ hl;refine⟨[ofT x qs],aI hi (by omega) rfl ?_,λm hm=>by rw[P8] at hm;subst hm;exact .inr ⟨x,qs,rfl,by omega,k3⟩,?_⟩
   ·rw[jW];show fin (aR (aO fs (N - 1)) (fP ii ig) [some (.tup [.str "of",.str x,.tup (aa ps)]),none,none] none)=_;have hc:=bR (F:=aO fs (N - 1)) (ρ:=[some (.tup [.str "of",.str x,.tup (aa ps)]),none,none]) (S:=none) (S1:=none) (cap:=[none,none]) (it:= .seq (.idx (.var 0) (.con (.int 2)))) (tg:= .nm 1) (cs:= .nil) (ds:=aa ps) (by simp only[RX]) (by rw[aj];omega) rfl k1;exact bZ (S1:=none) (by simp only[RX];rfl) (dF (S1:=none) (by simp only[RX];rfl) (aq (by simp only[RX,hc];rw[aa,jW];rfl)))
   ·show (([ofT x qs].map (wI g)).sum<=nd (n + 1));simp only[List.map_singleton,List.sum_singleton,wI,nd];have:aG (ofT x qs)=qs:=rfl;rw[this];omega
  ·have loop:=fy (S:=none) (tg:= .nm 1) (ds:=ps) (ρ:=[some (ofD (qL ps)),none,some (.lst [])]) (body:=aR (aO fs (N - 1)) (.cons (.asg 2 (.bin .Add (.var 2) (.call ii (.cons (.var 1) .nil) []))) .nil))
    (λp ρ=>∃ms x,(∀m∈ms,eI (eV g) m)/\(ms.map (wI g)).sum<=p.length * nd n/\ρ=[some (ofD (qL ps)),x,some (.lst (aa ms))]) ⟨[],none,by simp,by simp,by simp[aa]⟩ (by
     rintro p y q ρ e1 ⟨ms,x,h1,h2,rfl⟩;obtain⟨Ik,j1,j2,j3⟩:=iS hi hf n (N:=N - 1) (g:=g) (by omega) (by omega) (by omega) hg (hp y (by rw[e1];simp));have gG:p.length + 1<=4:=by rw[e1] at hl;simp at hl;omega
     have Mq:=km (g:=g) (ms:=ms);have N6:=km (g:=g) (ms:=Ik);have h4:p.length * nd n<=3 * nd n:=Nat.mul_le_mul_right _ (by omega);have ca:=nQ (a:=aa ms) (b:=aa Ik) (by rw[aj,aj];omega);rw[<-aQ] at ca;refine⟨_,_,rfl,fu (d:= .lst (aa (ms++Ik))) (S1:=none) (by simp only[RX,j1,ca]) rfl rfl,ms++Ik,some (ofD y),λm hm=>(PU.mp hm).elim (h1 m) (j2 m),?_,rfl⟩;rw[Qi,List.sum_append_nat,PJ,List.length_singleton,Nat.succ_mul];omega)
   obtain⟨ρ1,cF,ms,x,h1,h2,rfl⟩:=loop;have h4:ps.length * nd n<=4 * nd n:=Nat.mul_le_mul_right _ hl;refine⟨ms,aI hi (by omega) rfl ?_,h1,by simp only[nd];omega⟩;show fin (aR (aO fs (N - 1)) (fP ii ig) [some (ofD (qL ps)),none,none] none)=_;exact bZ (S1:=none) (by rw[tf];simp only[RX];rfl) (bZ (S1:=none) (by rw[tf];simp only[RX];rfl) (aA (d:= .lst []) (S1:=none) rfl rfl (cn (ds:=aa ps) (S1:=none) (by rw[tf];simp only[RX]) rfl cF (aq (by simp only[RX])))))
def yT {ii ig:Nat} (hi:fs[ii]?=some ⟨1,3,false,fP ii ig⟩) (hf:fs[ig]?=some ⟨1,3,false,px ii⟩) {n N g:Nat} {t:Mx.D} (hn:n<=4) (hN:2 * n + 3<=N) (Mp:n<=g + 1) (hg:g<=8) (h:oC n t):
  ∃rs,aO fs N ig [ofD t] none= .ok (.tup (aa rs),none)/\(∀r∈rs,∃(it:Mx.D) (c:Int),r=Mx.D.tup [it,Mx.D.int c]/\eI (eV g) it/\(0:Int)<=c/\c<=1000)/\(rs.flatMap (dR (ei g))).length<=85:=by
 obtain⟨ms,j1,j2,j3⟩:=iS hi hf n (N:=N - 1) (g:=g) hn (by omega) Mp hg h;have eS:nd n<=85:=Pz (xo (m:=4) (by omega)) (by decide);have Mq:=km (g:=g) (ms:=ms);obtain⟨rs,f1,f2,f3⟩:=lB hf (N:=N) (by omega) (d:=ofD t) hg (by omega) j2 j1;exact⟨rs,f1,f2,by omega⟩
end Rx
end
section
namespace Rx
open PySem PySem.W PySem.Spec PyProof.Rows L2 PySem.SeqAt
def wY {fs:List Fn} {n k:Nat} {g:Fn} {args:List Dt} {S:Sx} (h:fs[k]?=some g):aO fs (n + 1) k args S=gf (aO fs n) g args S:=by show (match fs[k]? with | some g=>gf (aO fs n) g args S | none=>R.bad)=_;rw[h]
section
variable {g:G} {K:Frag} {mg:Str->Option Value} {P:Program} {w:World} {base:Heap} {fs:List Fn}
def sv {n L m:Nat} {params:Arguments} {body:List Stmt} {scope:Scope} {dV kV doc pm eU ct oc:Value} {an od:Option Addr} {tE:Array (Option Value)} {f:Addr} {N ps:List Str} {M:List Bool} {δ:Option Nat} {fF:Bool} {ts:Ts}
  (hm:MG g mg) (ok:oQ g K mg 0 g.fns fs) (lk:K.lookup f=some ⟨oc,od,.func (PySem.W.fnOf "law" "law" params body scope dV kV doc pm an eU ct),tE⟩) (zm:PySem.W.codeIn K eU "law"=true) (S:ej N ps scope)
  (hM:∀i,i < ps.length->M[i]?≠some true) (hp:ps.length=1) (hc:vG m g ⟨scope.names,N,M,δ⟩ false fF body=some ts) (hf:fs[L]?=some ⟨1,N.length,false,ts⟩)
  (hn:∀ns:List Int,ns.length<=63->∃S,aO fs (n + 1) L [.bK ns] none= .ok (.bl true,S)):
  iO P w K mg base (om P w) (n + 1) f (PySem.W.fnOf "law" "law" params body scope dV kV doc pm an eU ct) ps (tL K):=by
 have h:=lJ (xv:=λ_=>Value.none) (P:=P) (w:=w) (base:=base) lk zm S hm (kC (P:=P) (w:=w) (base:=base) (xv:=λ_=>Value.none) hm ok n) hM (λz=>by cases z) hc;refine h.imp λvs H Q E q=>?_
 obtain⟨a,ns,rfl,hs,hl,hq⟩:=q;obtain⟨S',hS⟩:=hn ns hl;rw[wY hf] at hS;rw[hp];refine⟨rfl,N0,none,[.bK ns],none,[.ref a],⟨rfl,rfl,rfl⟩,ai.cons ?_ ai.nil,λb z=>z.elim,?_⟩
 ·unfold RV;refine⟨a,rfl,?_⟩;rcases hs with hs | hs
  ·exact .inl ⟨hs,λz=>z⟩
  ·exact .inr hs
 ·rw[hS];intro v H' fo;rw[fo.val.aC];exact hq H'
end
def walkR {l:PySem.W.OpenLaw} {q:Program} {k:Nat} {loose:List Str} {XP:(Str->Option Value)->Heap->Prop} {YP:World->Heap->Prop} {d:DefRec} {K:Params->PySem.W.Frag} (hn:l.most=some 63) (FW:d.params.defaults=[]) (hr:iz k callerA)
  (hY:∀(w:World) (h:Heap),YP w h->(K w.params).In h)
  (F:∀(w:World) (mg:Str->Option Value) (fa:Addr) (h:Heap),(K w.params).In h->h.Ns mainGlobals mg->mg d.name=some (.ref fa)->
   ∃fd:FuncData,(∀(s:Shared) (u:Value),BindsTo s fd ⟨[u],[]⟩ [("_law_script",u)])/\∀base:Heap,(K w.params).In base->base.Ns mainGlobals mg->iO l.prog w (K w.params) mg base (om l.prog w) k fa fd ["_law_script"] (tL (K w.params))):
  PySem.W.WalkO q loose XP YP l.row.toRowW d [] (λf vs=>PySem.call f vs):=
 L2.AU (n:=63) (k:=k) (x:="_law_script") (CX:=λw=>om l.prog w) (sp:=λw=>tL (K w.params)) hn (by decide) FW hr hY F (λ_ _ a ns hl _ hS=>⟨a,ns,rfl,hS,hl,λ_=>rfl⟩) λ_ _ _ _ _ z=>by obtain⟨_,_,_,_,_,_,_,_,_,z⟩:=z;exact z
structure Row where
 nm:Str
 s:Stmt
 ps:List Str
 ms:List Str:=[]
 dr:Option Str:=none
 dp:Bool:=false
 fH:List Dt:=[]
namespace Row
def N (r:Row):List Str:=NL (bp r.s).names r.ps
def gm (r:Row):Gm:=⟨(bp r.s).names,r.N,Ff r.N r.ms,if r.dp then some 0 else r.dr.bind (B7 · r.N)⟩
def fn (g:G) (j:Nat) (r:Row):Option Fn:=(vG 60 g r.gm r.dp (g.fr j) (g0 r.s)).map λts=>⟨r.ps.length,r.N.length,r.dp,ts⟩
def ent (r:Row):Str×Nat×List Dt×Bool:=(r.nm,r.ps.length,r.fH,r.dp)
def ok (r:Row):Bool:=
 ((bp r.s).kind== .function)&& !(bp r.s).isCoroutine&& !(bp r.s).isGenerator&&decide r.N.Nodup&&decide (r.N.take r.ps.length=r.ps)&&
 (r.ps.all λx=>(bp r.s).names.lookup x==some .local||(bp r.s).names.lookup x==some .cell)&&((bp r.s).names.all λy=>y.2 != .free)&&
 ((Ff r.N r.ms).take r.ps.length).all (λb=> !b)&&r.fH.all ou
def scope {r:Row} (h:r.ok=true):ej r.N r.ps (bp r.s)/\(∀i,i < r.ps.length->(Ff r.N r.ms)[i]?≠some true)/\r.fH.all ou=true:=by
 unfold ok at h;simp only[Pm] at h;obtain⟨⟨⟨⟨⟨⟨⟨⟨h1,h2⟩,h3⟩,h4⟩,h5⟩,h6⟩,h7⟩,h8⟩,h9⟩:=h;refine⟨⟨PV h1,by simpa using h2,by simpa using h3,Po h4,Po h5,λx hx=>?_,λy hy e=>?_⟩,HN h8,h9⟩
 ·have:=Qa.mp h6 x hx;rcases Bool.or_eq_true_iff.mp this with z | z
  ·exact .inl (PV z)
  ·exact .inr (PV z)
 ·have:=Qa.mp h7 y hy;rw[e] at this;cases this
end Row
def p5 (g:G):Nat->List Row->Option (List Fn)
 | _,[]=>some []
 | j,r::rs=>(r.fn g j).bind λf=>(p5 g (j + 1) rs).map (f:: ·)
def Fd (K:Frag) (nm:Str) (s:Stmt) (ps:List Str) (fH:List Dt):Prop:=∃(fa:Addr) (oc dV kV doc pm eU ct:Value) (od an:Option Addr) (tE:Array (Option Value)),
 nsIn K mainGlobals nm=some (some (.ref fa))/\K.lookup fa=some ⟨oc,od,.func (fnOf nm nm (mH s) (g0 s) (bp s) dV kV doc pm an eU ct),tE⟩/\codeIn K eU nm=true/\keepIn K (.ref fa)=true/\(fH=[]->dV= .none)/\
 ∀j,j<=fH.length->∃ds,aw ((fH.drop j).map ql) ds/\Binds K (fnOf nm nm (mH s) (g0 s) (bp s) dV kV doc pm an eU ct) ps ds
def IF (K:Frag):List Row->Prop
 | []=>True
 | r::rs=>Fd K r.nm r.s r.ps r.fH/\IF K rs
section
variable {g:G} {K:Frag} {mg:Str->Option Value} {h:Heap} {fs:List Fn}
def wO (X:K.In h) (Gs:h.Ns mainGlobals mg):∀{rs:List Row} {i:Nat} {fs:List Fn},rs.all Row.ok=true->p5 g i rs=some fs->IF K rs->oQ g K mg i (rs.map Row.ent) fs
 | [],i,fs,_,e,_=>by cases e;trivial
 | r::rs,i,fs,hk,e,F=>by rw[List.all_cons,Pm] at hk;obtain⟨f,e1,e⟩:=Pj.mp e;obtain⟨KD,e2,rfl⟩:=PH.mp e;obtain⟨ts,c1,rfl⟩:=PH.mp e1;obtain⟨⟨fa,oc,dV,kV,doc,pm,eU,ct,od,an,tE,a,l,c,k,_,b⟩,F⟩:=F;obtain⟨s1,s2,s3⟩:=Row.scope hk.1;exact⟨⟨fa,r.ps,r.N,_,_,60,oc,od,an,tE,_,_,_,dV,kV,doc,pm,eU,ct,l,c,k,mg_of X Gs a,s1,s2,λz=>if_pos z,rfl,c1,rfl,rfl,rfl,b,s3⟩,wO X Gs hk.2 e2 F⟩
def Dp {rs:List Row}:∀{L i:Nat} {fs:List Fn} {r:Row},p5 g i rs=some fs->rs[L]?=some r->∃ts,vG 60 g r.gm r.dp (g.fr (i + L)) (g0 r.s)=some ts/\fs[L]?=some ⟨r.ps.length,r.N.length,r.dp,ts⟩:=by
 induction rs with
 | nil=>intro L i fs r _ e;simp at e
 | cons r0 rs ih=>
  intro L i fs r e hr;obtain⟨f,e1,e⟩:=Pj.mp e;obtain⟨KD,e2,rfl⟩:=PH.mp e;cases L with
  | zero=>cases hr;obtain⟨ts,c1,rfl⟩:=PH.mp e1;exact⟨ts,c1,rfl⟩
  | succ L=>obtain⟨ts,c1,c2⟩:=ih e2 (by simpa using hr);exact⟨ts,by rw[show i + (L + 1)=i + 1 + L by omega];exact c1,by simpa using c2⟩
def ze:∀{rs:List Row} {L:Nat} {r:Row},IF K rs->rs[L]?=some r->Fd K r.nm r.s r.ps r.fH
 | [],L,r,_,e=>by simp at e
 | r0::rs,0,r,F,e=>by cases e;exact F.1
 | r0::rs,L + 1,r,F,e=>ze F.2 (by simpa using e)
def JT (K:Frag):List Str->Prop
 | []=>True
 | x::xs=>nsIn K mainGlobals x=some none/\JT K xs
def J8 (K:Frag):List (Str×Dt)->Prop
 | []=>True
 | x::xs=>(∃u,nsIn K mainGlobals x.1=some (some u)/\ou x.2=true/\RelV (ql x.2) u)/\J8 K xs
def yW {x:Str}:∀{xs:List Str},JT K xs->x∈xs->nsIn K mainGlobals x=some none
 | y::xs,h,hx=>by
  rcases PC.mp hx with rfl | hx
  ·exact h.1
  ·exact yW h.2 hx
def yB {x:Str} {d:Dt}:∀{xs:List (Str×Dt)},J8 K xs->xs.lookup x=some d->∃u,nsIn K mainGlobals x=some (some u)/\ou d=true/\RelV (ql d) u
 | [],_,e=>by simp at e
 | y::xs,h,e=>by
  rw[PZ] at e;split at e
  ·rename_i q;cases e;rw[PV q];exact h.1
  ·exact yB h.2 e
def law_mk {l:OpenLaw} {w:World} {fa:Addr} {rs:List Row} {cons:List (Str×Dt)} {bls:List Str} {fr:Nat->Bool} {L n:Nat} {sL:Stmt} {ms:List Str} {dr:Option Str} (X:K.In h) (Gs:h.Ns mainGlobals mg) (Ng:mg "law"=some (.ref fa))
  (hL:rs[L]?=some ⟨"law",sL,["_law_script"],ms,dr,false,[]⟩) (hk:rs.all Row.ok=true) (hfs:p5 ⟨rs.map Row.ent,cons,bls,fr⟩ 0 rs=some fs)
  (hb:∀(s:Shared) (v:Value) (kV doc pm eU ct:Value) (an:Option Addr),BindsTo s (fnOf "law" "law" (mH sL) (g0 sL) (bp sL) .none kV doc pm an eU ct) ⟨[v],[]⟩ [("_law_script",v)])
  (hn:∀ns:List Int,ns.length<=63->∃S,aO fs (n + 1) L [.bK ns] none= .ok (.bl true,S)) (B:JT K bls) (C:J8 K cons) (F:IF K rs):
  ∃fd:FuncData,(∀(s:Shared) (v:Value),BindsTo s fd ⟨[v],[]⟩ [("_law_script",v)])/\∀base:Heap,K.In base->base.Ns mainGlobals mg->iO l.prog w K mg base (om l.prog w) (n + 1) fa fd ["_law_script"] (tL K):=by
 have hm:MG ⟨rs.map Row.ent,cons,bls,fr⟩ mg:=⟨λx d hx=>by
   obtain⟨u,k1,k2,k3⟩:=yB C hx;exact⟨u,k2,mg_of X Gs k1,k3⟩,λx hx=>mg_none_of X Gs (yW B hx)⟩
 have ok:=wO (g:=⟨rs.map Row.ent,cons,bls,fr⟩) X Gs hk hfs F;obtain⟨O5,oc,dV,kV,doc,pm,eU,ct,od,an,tE,a,lk,c,k,hd,b⟩:=ze F hL;cases hd rfl;have e:=Ng.symm.trans (mg_of X Gs a);cases e;obtain⟨ts,c1,c2⟩:=Dp hfs hL;have hok:=Row.scope (Qa.mp hk _ (List.mem_iff_getElem?.mpr ⟨L,hL⟩));exact⟨_,λs v=>hb s v kV doc pm eU ct an,λbase _ _=>sv hm ok lk c hok.1 hok.2.1 rfl c1 c2 hn⟩
end
end Rx
end
section
namespace K03
open PySem PySem.W PySem.Spec PyProof.Rows L2 Mx Rx
def top (i:Nat):Stmt:=PySem.Challenge.pw_mixform_k03_measures.main.body.getD i (.Pass ⟨0,0,0,0⟩)
abbrev rows:List Rx.Row:=[⟨"parts_of",top 1,["item"],[],none,false,[]⟩,
 ⟨"size",top 3,["form"],[],none,false,[]⟩,
 ⟨"spread",top 4,["form"],[],none,false,[]⟩,
 ⟨"depth",top 5,["form"],[],none,false,[]⟩,
 ⟨"items_within",top 6,["form"],["found"],none,false,[]⟩,
 ⟨"unknowns",top 7,["form"],[],none,false,[]⟩,
 ⟨"things_among",top 8,["items"],[],none,false,[]⟩,
 ⟨"things",top 9,["form"],[],none,false,[]⟩,
 ⟨"_law_cell",top 11,["_law_script","_law_k"],[],none,false,[]⟩,
 ⟨"_law_pick",top 12,["_law_script","_law_k","_law_many"],[],none,false,[]⟩,
 ⟨"_law_names",top 13,["_law_script","_law_k","_law_letters"],["_law_names_here"],none,false,[]⟩,
 ⟨"_law_unknowns",top 14,["_law_script","_law_k"],[],none,false,[]⟩,
 ⟨"_law_signs",top 15,["_law_script","_law_k"],[],none,false,[]⟩,
 ⟨"_law_next",top 16,["_law_k","_law_j"],[],none,false,[]⟩,
 ⟨"_law_term",top 17,["_law_script","_law_k","_law_deep_here","_law_names_here","_law_signs_here"],[],none,false,[]⟩,
 ⟨"_law_items",top 18,["_law_term_here"],[],none,false,[]⟩,
 ⟨"_law_form",top 19,["_law_term_here"],["_law_found"],none,false,[]⟩,
 ⟨"_law_same",top 20,["_law_found","_law_due"],[],none,false,[]⟩,
 ⟨"_law_within",top 21,["_law_item"],[],none,false,[]⟩,
 ⟨"_law_sized",top 22,["_law_form_here","_law_plain"],[],none,false,[]⟩,
 ⟨"_law_deep",top 23,["_law_form_here"],["_law_found"],none,false,[]⟩,
 ⟨"_law_all",top 24,["_law_form_here"],["_law_found"],none,false,[]⟩,
 ⟨"_law_once",top 25,["_law_rows"],["_law_found"],none,false,[]⟩,
 ⟨"_law_told",top 26,["_law_form_here"],[],none,false,[]⟩,
 ⟨"law",top 27,["_law_script"],[],none,false,[]⟩]
abbrev cons:List (Str×Dt):=[]
abbrev bls:List Str:=["bool","enumerate","int","isinstance","len","list","max","range","set","sorted","str","sum","tuple","zip"]
abbrev fr (i:Nat):Bool:=[false,false,false,false,true,false,false,false,false,true,true,true,true,true,false,false,false,false,false,false,false,true,true,false,false].getD i false
def b7:Ts:=(.cons (.ret (.call 6 (.cons (.call 4 (.cons (.var 0) .nil) []) .nil) [])) .nil)
def Kw:Ts:=(.cons (.ret (.call 10 (.cons (.var 0) (.cons (.var 1) (.cons (.con (.str "abcdefghijklmnopqrstuvwxyz")) .nil))) [])) .nil)
def JU:Ts:=(.cons (.ret (.call 10 (.cons (.var 0) (.cons (.var 1) (.cons (.con (.str "ABCDEFGHIJKLMNOPQRSTUVWXYZ")) .nil))) [])) .nil)
def Lj:Ts:=(.cons (.ifs (.or (.nt (.call 17 (.cons (.call 1 (.cons (.var 0) .nil) []) (.cons (.call 19 (.cons (.var 0) (.cons (.con (.bl false)) .nil)) []) .nil)) [])) (.nt (.call 17 (.cons (.call 2 (.cons (.var 0) .nil) []) (.cons (.call 19 (.cons (.var 0) (.cons (.con (.bl true)) .nil)) []) .nil)) []))) (.cons (.ret (.con (.bl false))) .nil) .nil) (.cons (.asg 1 (.call 22 (.cons (.call 21 (.cons (.var 0) .nil) []) .nil) [])) (.cons (.asg 2 (.bi .tuple (.cons (.comp [none,none] (.seq (.var 1)) (.nm 1) (.cons (.cmp .Eq (.idx (.var 1) (.con (.int 0))) (.con (.str "any"))) .nil) (.idx (.var 1) (.con (.int 1)))) .nil))) (.cons (.ifs (.or (.nt (.call 17 (.cons (.call 5 (.cons (.var 0) .nil) []) (.cons (.var 2) .nil)) [])) (.nt (.call 17 (.cons (.call 3 (.cons (.var 0) .nil) []) (.cons (.call 20 (.cons (.var 0) .nil) []) .nil)) []))) (.cons (.ret (.con (.bl false))) .nil) .nil) (.cons (.ret (.call 17 (.cons (.call 7 (.cons (.var 0) .nil) []) (.cons (.bi .tuple (.cons (.comp [none,none] (.seq (.var 1)) (.nm 1) (.cons (.cmp .Eq (.idx (.var 1) (.con (.int 0))) (.con (.str "of"))) .nil) (.var 1)) .nil)) .nil)) [])) .nil)))))
def J5:Ts:=(.cons (.asg 1 (.call 11 (.cons (.var 0) (.cons (.con (.int 0)) .nil)) [])) (.cons (.asg 2 (.call 12 (.cons (.var 0) (.cons (.con (.int 7)) .nil)) [])) (.cons (.asg 3 (.call 16 (.cons (.call 14 (.cons (.var 0) (.cons (.con (.int 20)) (.cons (.con (.int 3)) (.cons (.var 1) (.cons (.var 2) .nil))))) []) .nil) [])) (.cons (.asg 4 (.bin .Add (.con (.int 1)) (.bin .Mod (.call 8 (.cons (.var 0) (.cons (.con (.int 1)) .nil)) []) (.bin .Pow (.con (.int 10)) (.con (.int 15)))))) (.cons (.asg 3 (.bi .tuple (.cons (.comp [none,none,none,some 4] (.seq (.var 3)) (.tp [1,2]) .nil (.tup (.cons (.var 1) (.cons (.bin .Mult (.var 3) (.var 2)) .nil)))) .nil))) (.cons (.ifs (.cmp .Eq (.call 9 (.cons (.var 0) (.cons (.con (.int 2)) (.cons (.con (.int 2)) .nil))) []) (.con (.int 0))) (.cons (.asg 3 (.bi .tuple (.cons (.bi .sorted (.cons (.lst (.cons (.tup (.cons (.tup (.cons (.con (.str "of")) (.cons (.idx (.var 2) (.con (.int 0))) (.cons (.tup (.cons (.var 3) (.cons (.tup .nil) .nil))) .nil)))) (.cons (.var 4) .nil))) (.cons (.tup (.cons (.tup (.cons (.con (.str "any")) (.cons (.idx (.var 1) (.con (.int 1))) .nil))) (.cons (.con (.int 2)) .nil))) .nil))) .nil)) .nil))) .nil) .nil) (.cons (.ret (.and (.call 23 (.cons (.var 3) .nil) []) (.and (.call 23 (.cons (.tup .nil) .nil) []) (.call 23 (.cons (.sliH (.var 3) (.con (.int 1))) .nil) [])))) .nil)))))))
def fs:List Fn:=[⟨1,1,false,fv⟩,⟨1,1,false,IM (xm 0 1)⟩,⟨1,1,false,IM (og 0 2)⟩,⟨1,2,false,qY 3⟩,⟨1,5,false,jz 0 (.cons (.xtd 1 (.call 4 (.cons (.var 4) .nil) [])) .nil)⟩,⟨1,2,false,D2 4⟩,⟨1,2,false,nk⟩,⟨1,1,false,b7⟩,⟨2,3,false,pE⟩,⟨3,4,false,xY 8⟩,⟨3,9,false,qV 9⟩,⟨2,2,false,Kw⟩,⟨2,2,false,JU⟩,⟨2,2,false,tO⟩,⟨5,8,false,xl 9 13 14⟩,⟨1,3,false,fP 15 16⟩,⟨1,3,false,px 15⟩,⟨2,4,false,pZ 17⟩,⟨1,1,false,fv⟩,⟨2,7,false,rj 18 19⟩,⟨1,4,false,yh 20⟩,⟨1,5,false,jz 18 (.cons (.asgM 1 (.bin .Add (.mvr 1) (.call 21 (.cons (.var 4) .nil) []))) .nil)⟩,⟨1,3,false,yg⟩,⟨1,3,false,Lj⟩,⟨1,5,false,J5⟩]
def hok:rows.all Rx.Row.ok=true:=by decide +kernel
def hfs:p5 ⟨rows.map Rx.Row.ent,cons,bls,fr⟩ 0 rows=some fs:=by kernel_rfl
def tG:jw fs 9:=⟨8,rfl,rfl⟩
def t9 (n:Nat) (hn:4<=n) (ns:List Int) (k:Nat) (hk:k < 1000):(∃a b c,aO fs n 11 [.bK ns,.int k] none= .ok (.lst [.str a,.str b,.str c],none))/\∃a b c,aO fs n 12 [.bK ns,.int k] none= .ok (.lst [.str a,.str b,.str c],none):=by
 obtain⟨a,b,c,h1⟩:=pN (fs:=fs) tG (im:=10) rfl (n:=n - 1) (by omega) (ns:=ns) (k:=k) (L:="abcdefghijklmnopqrstuvwxyz") (by omega) rfl;obtain⟨a',b',c',h2⟩:=pN (fs:=fs) tG (im:=10) rfl (n:=n - 1) (by omega) (ns:=ns) (k:=k) (L:="ABCDEFGHIJKLMNOPQRSTUVWXYZ") (by omega) rfl;refine⟨⟨a,b,c,aI (body:=Kw) rfl (by omega) rfl ?_⟩,⟨a',b',c',aI (body:=JU) rfl (by omega) rfl ?_⟩⟩
 ·show fin (aR (aO fs (n - 1)) Kw [some (.bK ns),some (.int k)] none)=_;exact aq (by simp only[RX,h1])
 ·show fin (aR (aO fs (n - 1)) JU [some (.bK ns),some (.int k)] none)=_;exact aq (by simp only[RX,h2])
def B2 (l:List Mx.D) (h:∀d∈l,Mx.D.dep d<=40):aO fs 58 17 [.tup (aa l),.tup (aa l)] none= .ok (.bl true,none):=
 ny (fs:=fs) (is:=17) rfl 58 (.tup (aa l)) (by simp[sm,rE]) (by have:=d9 h;simp only[dp,nK];omega)
def Gb (i:Int):aO fs 58 17 [.int i,.int i] none= .ok (.bl true,none):=
 ny (fs:=fs) (is:=17) rfl 58 (.int i) rfl (by simp[dp])
def AJ {d:Mx.D} {n:Nat} (hn:n<=5) (h:eV (n + 1) d) (hl:(ei (n + 1) d).length<=1000):aO fs 59 23 [ofD d] none= .ok (.bl true,none):=by
 have dN:lim=1000000:=rfl;have v1:=nP (fs:=fs) (ip:=0) (is:=1) (pl:=false) rfl rfl (N:=58) (by omega) h (by omega);have v2:=nP (fs:=fs) (ip:=0) (is:=2) (pl:=true) rfl rfl (N:=58) (by omega) h (by omega);have Lo:=kv (fs:=fs) (iw:=18) (is:=19) (pl:=false) rfl rfl (N:=58) (by omega) h;have J9:=kv (fs:=fs) (iw:=18) (is:=19) (pl:=true) rfl rfl (N:=58) (by omega) h;have v3:=qg (fs:=fs) (i:=3) rfl (N:=58) (by omega) h (by omega);have v20:=t7 (fs:=fs) (i:=20) rfl (N:=58) (by omega) h (by omega);have v4:=λN (hN:10<=N)=>iP (fs:=fs) (ip:=0) (ii:=4) rfl rfl (λ {N d0 d2 d3 acc ds p} hs hl=>by
  refine(C1 (ds:=aa acc) (es:=aa ds) (S1:=none) rfl (by simp only[RX,hs]) (Nat.le_of_ble_eq_true rfl) (by rw[aj,aj];omega) rfl).trans ?_;rw[aQ];rfl) (N:=N) (by omega) h (by omega)
 have NS:=iP (fs:=fs) (ip:=18) (ii:=21) rfl rfl (λ {N d0 d2 d3 acc ds p} hs hl=>by
  have ca:=nQ (a:=aa acc) (b:=aa ds) (by rw[aj,aj];omega);refine(AD (d:= .lst (aa acc++aa ds)) (S1:=none) (by simp only[RX,hs,ca]) rfl rfl).trans ?_;rw[aQ];rfl) (N:=58) (by omega) h (by omega)
 have hI:∀m∈ei (n + 1) d,eI (eV n) m:=λm hm=>yv h hm
 have v5:=AE (fs:=fs) (iu:=5) (ii:=4) rfl (N:=58) (by decide) hI (by omega) (v4 57 (by decide));generalize hits:ei (n + 1) d=its at *;have hT:∀m∈its.flatMap gK,eI (eV n) m:=λm hm=>hI m (kL hI hm).1
 have Jd:=jS (its:=its);have A4:∀m,eI (eV n) m->Mx.D.dep m<=30:=λm hm=>by have:=fI (n:=4 * n + 2) (λd hd=>oY hd) rfl hm;omega
 have v6:=qK (fs:=fs) (it:=6) rfl (N:=57) (by decide) (by omega) hI (yt (by omega) (by omega) hT) λm hm=>by have:=A4 m (hT m hm);omega
 have v7:aO fs 58 7 [ofD d] none= .ok (.tup (aa (uq none (aK (its.flatMap gK)))),none):=by refine aI (body:=b7) rfl (by decide) rfl ?_;show fin (aR (aO fs 57) b7 [some (ofD d)] none)=_;exact aq (by simp only[RX,v4 57 (by decide),v6])
 have NV:=A8 (fs:=fs) (io:=22) rfl (N:=58) (by decide) (ms:=its) (yt (by omega) (by omega) hI) (by omega) λm hm=>by have:=A4 m (hI m hm);omega
 rw[vC hI] at v5;rw[rM hI] at v7;obtain⟨o1,o2⟩:=mG its;have hU:∀m∈uq none (aK its),eI (eV n) m:=λm hm=>hI m ((o2 m).mp hm)
 have Nv:(uq none (aK its)).length<=its.length:=Pz rB (by rw[(bx its).length_eq];exact Pt _);generalize uq none (aK its)=us at *;have s0:=Gb;have s1:=B2 ((us.flatMap dZ).map Mx.D.str) λm hm=>by obtain⟨y,_,rfl⟩:=P9.mp hm;simp[Mx.D.dep]
 have s2:=B2 (us.flatMap gK) λm hm=>by have:=A4 m (hU m (kL hU hm).1);omega
 refine aI (body:=Lj) rfl (by decide) rfl ?_;show fin (aR (aO fs 58) Lj [some (ofD d),none,none] none)=_;have c1:=bR (F:=aO fs 58) (ρ:=[some (ofD d),some (.lst (aa us)),none]) (S:=none) (S1:=none) (cap:=[none,none]) (it:= .seq (.var 1)) (ds:=aa us) (by simp only[RX]) (by rw[aj];omega) rfl (j0 hU);have c2:=bR (F:=aO fs 58) (ρ:=[some (ofD d),some (.lst (aa us)),some (.tup (aa ((us.flatMap dZ).map Mx.D.str)))]) (S:=none) (S1:=none) (cap:=[none,none]) (it:= .seq (.var 1)) (ds:=aa us) (by simp only[RX]) (by rw[aj];omega) rfl (jd hU);refine bZ (S1:=none) (by simp only[RX,v1,v2,Lo,J9,s0,Bool.not_true,Bool.false_eq_true,if_false]) (aA (d:= .lst (aa us)) (S1:=none) (by simp only[RX,NS,NV]) rfl (aA (d:= .tup (aa ((us.flatMap dZ).map Mx.D.str))) (S1:=none) (BG c1 rfl) rfl (bZ (S1:=none) (by simp only[RX,v5,s1,v3,v20,s0,Bool.not_true,Bool.false_eq_true,if_false]) (aq ?_))));simp only[RX,v7,c2,s2]
def E7 (k:Int):Mx.D->Mx.D
 | .tup [it,.int c]=> .tup [it,.int (k * c)]
 | d=>d
def Gv:nG .Pow (.int 10) (.int 15)= .ok (.int 1000000000000000):=rfl
def lF {rs:List Mx.D} {n:Nat} (hn:n<=5) (h:∀r∈rs,pK n r) (hl:(rs.flatMap (dR (ei n))).length<=1000):
  aO fs 59 23 [.tup (aa rs)] none= .ok (.bl true,none)/\aO fs 59 23 [.tup (aa (rs.take 1))] none= .ok (.bl true,none):=by
 have t:=λ(rs:List Mx.D) h hl=>AJ (d:= .tup rs) hn ⟨rs,rfl,h⟩ (by rw[ei];exact hl)
 simp only[ofD] at t;refine⟨t rs h hl,t (rs.take 1) (λr hr=>h r (List.mem_of_mem_take hr)) (Pz ?_ hl)⟩;cases rs with
 | nil=>simp
 | cons r rs=>simp
def LN (ds:List Dt):cutD ds none (some 1)=ds.take 1:=by
 cases ds with
 | nil=>rfl
 | cons d ds=>unfold Rx.cutD;rw[HT.yE,show HT.bE (d::ds).length (d::ds).length (some 1)=min 1 (d::ds).length from HT.Bc _ _ 1];simp
def tail:Ts:=(.cons (.ret (.and (.call 23 (.cons (.var 3) .nil) []) (.and (.call 23 (.cons (.tup .nil) .nil) []) (.call 23 (.cons (.sliH (.var 3) (.con (.int 1))) .nil) [])))) .nil)
def uw {rs:List Mx.D} {n:Nat} {x0 x1 x2 x4:Option Dt} (hn:n<=5) (h:∀r∈rs,pK n r) (hl:(rs.flatMap (dR (ei n))).length<=1000):fin (aR (aO fs 59) tail [x0,x1,x2,some (.tup (aa rs)),x4] none)= .ok (.bl true,none):=by
 obtain⟨t1,t2⟩:=lF hn h hl;have t0:=(lF (rs:=[]) (n:=0) (by decide) (by simp) (by simp)).1;have hs:ir (.tup (aa rs)) none (some 1)= .ok (.tup (aa (rs.take 1))):=by show R.ok (Dt.tup (cutD (aa rs) none (some 1)))=_;rw[LN,ba,ba,List.map_take]
 rw[aa] at t0;exact aq (by simp only[RX,t1,t0,hs,t2])
def law_true:∀ns:List Int,ns.length<=63->∃S,aO fs (59 + 1) 24 [.bK ns] none= .ok (.bl true,S):=by
 intro ns _;have dN:lim=1000000:=rfl;obtain⟨⟨a,b,c,v11⟩,_⟩:=t9 59 (by decide) ns 0 (by decide);obtain⟨_,⟨a',b',c',Il⟩⟩:=t9 59 (by decide) ns 7 (by decide);obtain⟨t,Na,ht⟩:=uE (fs:=fs) (ip:=9) (ix:=13) (it:=14) tG rfl rfl (ns:=ns) (a:=a) (b:=b) (c:=c) (a':=a') (b':=b') (c':=c') 3 (N:=59) (k:=20) (by decide) (by decide);obtain⟨rs,MQ,JM,hw⟩:=yT (fs:=fs) (ii:=15) (ig:=16) rfl rfl (n:=4) (N:=59) (g:=3) (by decide) (by decide) (by decide) (by decide) ht;have v8:aO fs 59 8 [.bK ns,.int 1] none=_:=n9 (fs:=fs) (ic:=8) rfl (n:=59) (by decide) (ns:=ns) (k:=1) (by decide);generalize gd ns 1=y at v8;have m1:=cc (i:=y) (j:=1000000000000000) (by decide);have r1:=Qb y (b:=1000000000000000) (by decide);have r2:=Qc y (b:=1000000000000000) (by decide);generalize hk:1 + y % 1000000000000000=k;have v9:aO fs 59 9 [.bK ns,.int 2,.int 2] none=_:=ni (fs:=fs) tG (n:=59) (by decide) (ns:=ns) (k:=2) (many:=2) (by decide) (by decide);generalize b8 ns 2 2=p at v9;have Ku:aO fs 59 11 [.bK ns,.int 0] none=_:=v11;have JF:aO fs 59 12 [.bK ns,.int 7] none=_:=Il;have Jq:aO fs 59 14 [.bK ns,.int 20,.int 3,.lst [.str a,.str b,.str c],.lst [.str a',.str b',.str c']] none=_:=Na;have Fc:rs.length<=85:=Pz (jP (n:=3) λr hr=>by obtain⟨it,c,e,h1,h2,h3⟩:=JM r hr;exact⟨it,c,e,h1,by omega⟩) hw;have zp:∀r∈rs,∃it c,r= .tup [it,.int c]/\eI (eV 3) it/\(k * c).natAbs < 2 ^ 64:=λr hr=>by obtain⟨it,c,e,h1,h2,h3⟩:=JM r hr;refine⟨it,c,e,h1,?_⟩;have b1:k * c<=k * 1000:=Int.mul_le_mul_of_nonneg_left h3 (by omega);have b0:0<=k * c:=Int.mul_nonneg (by omega) h2;omega
 have hG:∀r∈rs.map (E7 k),pK 3 r:=λr hr=>by obtain⟨q,hq,rfl⟩:=P9.mp hr;obtain⟨it,c,rfl,h1,h2⟩:=zp q hq;exact⟨it,k * c,rfl,h1,h2⟩
 have hW:((rs.map (E7 k)).flatMap (dR (ei 3))).length<=85:=by
  refine Pz (Nat.le_of_eq ?_) hw;clear hG hw MQ Fc JM
  induction rs with
  | nil=>rfl
  | cons r rs ih=>obtain⟨it,c,rfl,_⟩:=zp r Pu;rw[Qh,List.flatMap_cons,List.flatMap_cons,PJ,PJ,ih λr hr=>zp r (Pq _ hr)];rfl
 have comp:=bR (F:=aO fs 59) (ρ:=[some (.bK ns),some (.lst [.str a,.str b,.str c]),some (.lst [.str a',.str b',.str c']),some (.tup (aa rs)),some (.int k)]) (S:=none) (S1:=none) (S2:=none) (cap:=[none,none,none,some 4]) (it:= .seq (.var 3)) (tg:= .tp [1,2]) (cs:= .nil) (e:= .tup (.cons (.var 1) (.cons (.bin .Mult (.var 3) (.var 2)) .nil))) (ds:=aa rs) (out:=aa (rs.map (E7 k))) (by simp only[RX]) (by rw[aj];omega) rfl (by
  rw[ey (λr=>[ofD (E7 k r)]) λr hr=>?_]
  ·rw[fq,ba,List.map_map];rfl
  ·obtain⟨it,c,rfl,h1,h2⟩:=zp r hr;have mm:=bb (i:=k) (j:=c) (.inl (by omega));exact dg (ρ1:=[none,some (ofD it),some (.int c),some (.int k)]) (by simp[ofD,aa,bY,dq,fX]) (by simp only[RX,mm];simp[E7,ofD,aa]) (by simp[bJ,gJ]))
 generalize hqs:rs.map (E7 k)=qs at *;refine⟨none,aI (body:=J5) rfl (by decide) rfl ?_⟩;show fin (aR (aO fs 59) J5 [some (.bK ns),none,none,none,none] none)=_;refine aA (d:= .lst [.str a,.str b,.str c]) (S1:=none) (by simp only[RX,Ku]) rfl (aA (d:= .lst [.str a',.str b',.str c']) (S1:=none) (by simp only[RX,JF]) rfl (aA (d:= .tup (aa rs)) (S1:=none) (by simp only[RX,Jq,MQ]) rfl (aA (d:= .int k) (S1:=none) (by simp only[RX,v8,Gv,m1,hk]) rfl (aA (d:= .tup (aa qs)) (S1:=none) (BG comp rfl) rfl ?_))));by_cases hp:p=0
 ·subst hp;have hF:eV 4 (.tup qs):=⟨qs,rfl,hG⟩;have h0:eV 4 (.tup []):=⟨[],rfl,by simp⟩;have R1:pK 4 (.tup [ofT a' [.tup qs,.tup []],.int k]):=⟨_,_,rfl,.inr ⟨a',_,rfl,by simp,λp hp=>by
   rcases PC.mp hp with rfl | hp
   ·exact hF
   ·rw[P8] at hp;subst hp;exact h0⟩,by omega⟩
  have R2:pK 4 (.tup [cP b,.int 2]):=⟨_,_,rfl,.inl ⟨b,rfl⟩,by decide⟩;generalize hl:[Mx.D.tup [ofT a' [.tup qs,.tup []],.int k],.tup [cP b,.int 2]]=l;have hR:∀r∈l,pK 4 r:=λr hr=>by
   subst hl;rcases PC.mp hr with rfl | hr
   ·exact R1
   ·rw[P8] at hr;subst hr;exact R2
  have O0:l.length=2:=by subst hl;rfl
  have Ei:il l=true:=wy .tt (by omega) (d9 λd hd=>by
    obtain⟨it,c,rfl,hi,_⟩:=hR d hd;have:=fI (n:=4 * 4 + 2) (λd hd=>oY hd) rfl hi;simp[Mx.D.dep,Mx.D.cC];omega) (λd hd=>by
    obtain⟨it,c,rfl,hi,_⟩:=hR d hd;rcases hi with ⟨x,rfl⟩ | ⟨x,ps,rfl,_⟩ <;> rfl) λd hd e he=>by
    obtain⟨it,c,rfl,hi,_⟩:=hR d hd;obtain⟨ji,c',rfl,B1,_⟩:=hR e he;simp only[k7,iC,Bool.and_true];exact n8 (λp q hp hq=>D1 hp hq) hi B1
  have hs:=(fR Ei).1;have E5:((aK l).flatMap (dR (ei 4))).length<=1000:=by rw[List.length_flatMap,((bx l).map _).sum_nat];subst hl;simp only[Qh,List.map_nil,List.sum_cons,List.sum_nil,qB,wI];have e1:aG (ofT a' [.tup qs,.tup []])=[.tup qs,.tup []]:=rfl;have e2:aG (cP b)=[]:=rfl;rw[e1,e2];simp only[List.flatMap_cons,List.flatMap_nil,Qd,PJ,List.length_nil];rw[ei,ei,List.flatMap_nil,List.length_nil];omega
  have B0:c8 (.lst [.str a',.str b',.str c']) (.int 0)= .ok (.str a'):=rfl;have NX:c8 (.lst [.str a,.str b,.str c]) (.int 1)= .ok (.str b):=rfl;have el:aa l=[.tup [.tup [.str "of",.str a',.tup [.tup (aa qs),.tup []]],.int k],.tup [.tup [.str "any",.str b],.int 2]]:=by subst hl;simp[aa,ofD,ofT,cP]
  rw[el] at hs;refine dF (S1:=none) (by simp only[RX,v9];rfl) (aA (d:= .tup (aa (aK l))) (S1:=none) (by simp only[RX,B0,NX,hs]) rfl (uw (n:=4) (by decide) (λr hr=>hR r (cH.mp hr)) E5))
 ·have e0:((p:Int)==0)=false:=by simpa using hp
  exact bZ (S1:=none) (by simp only[RX,v9,e0]) (uw (n:=3) (by decide) hG (by omega))
end K03
end
section
open PySem PySem.W PyProof.Rows Rx
set_option maxHeartbeats 0 in
theorem PySem.Challenge.cw_mixform_k03_measures_holds : PySem.Challenge.rw_mixform_k03_measures.Holds := by
 w_on;o_law;k_head;(case hw=>w_witness2)
 k_fill
 refine walkR (k:=60) (l:=PySem.Challenge.rw_mixform_k03_measures) rfl rfl ⟨rfl,by decide,by decide⟩ (λw h Y=>kIn_of Y) ?F
 case F=>
  intro w mg fa h KX G hmg;refine law_mk (rs:=K03.rows) (cons:=K03.cons) (bls:=K03.bls) (L:=24) (n:=59) KX G hmg rfl K03.hok K03.hfs (λs v _ _ _ _ _ _=> .of_eq rfl) K03.law_true ?B ?C ?D
  case B=>exact⟨by k_is,by k_is,by k_is,by k_is,by k_is,by k_is,by k_is,by k_is,by k_is,by k_is,by k_is,by k_is,by k_is,by k_is,trivial⟩
  case C=>exact trivial
  case D=>
   refine⟨?_,?_,?_,?_,?_,?_,?_,?_,?_,?_,?_,?_,?_,?_,?_,?_,?_,?_,?_,?_,?_,?_,?_,?_,?_,trivial⟩
   ·exact⟨_,_,_,_,_,_,_,_,_,_,_,by k_is,by k_is,by k_is,by k_is,λ_=>rfl,binds0 λus hl=>match us,hl with | [_],_=>rfl⟩
   ·exact⟨_,_,_,_,_,_,_,_,_,_,_,by k_is,by k_is,by k_is,by k_is,λ_=>rfl,binds0 λus hl=>match us,hl with | [_],_=>rfl⟩
   ·exact⟨_,_,_,_,_,_,_,_,_,_,_,by k_is,by k_is,by k_is,by k_is,λ_=>rfl,binds0 λus hl=>match us,hl with | [_],_=>rfl⟩
   ·exact⟨_,_,_,_,_,_,_,_,_,_,_,by k_is,by k_is,by k_is,by k_is,λ_=>rfl,binds0 λus hl=>match us,hl with | [_],_=>rfl⟩
   ·exact⟨_,_,_,_,_,_,_,_,_,_,_,by k_is,by k_is,by k_is,by k_is,λ_=>rfl,binds0 λus hl=>match us,hl with | [_],_=>rfl⟩
   ·exact⟨_,_,_,_,_,_,_,_,_,_,_,by k_is,by k_is,by k_is,by k_is,λ_=>rfl,binds0 λus hl=>match us,hl with | [_],_=>rfl⟩
   ·exact⟨_,_,_,_,_,_,_,_,_,_,_,by k_is,by k_is,by k_is,by k_is,λ_=>rfl,binds0 λus hl=>match us,hl with | [_],_=>rfl⟩
   ·exact⟨_,_,_,_,_,_,_,_,_,_,_,by k_is,by k_is,by k_is,by k_is,λ_=>rfl,binds0 λus hl=>match us,hl with | [_],_=>rfl⟩
   ·exact⟨_,_,_,_,_,_,_,_,_,_,_,by k_is,by k_is,by k_is,by k_is,λ_=>rfl,binds0 λus hl=>match us,hl with | [_,_],_=>rfl⟩
   ·exact⟨_,_,_,_,_,_,_,_,_,_,_,by k_is,by k_is,by k_is,by k_is,λ_=>rfl,binds0 λus hl=>match us,hl with | [_,_,_],_=>rfl⟩
   ·exact⟨_,_,_,_,_,_,_,_,_,_,_,by k_is,by k_is,by k_is,by k_is,λ_=>rfl,binds0 λus hl=>match us,hl with | [_,_,_],_=>rfl⟩
   ·exact⟨_,_,_,_,_,_,_,_,_,_,_,by k_is,by k_is,by k_is,by k_is,λ_=>rfl,binds0 λus hl=>match us,hl with | [_,_],_=>rfl⟩
   ·exact⟨_,_,_,_,_,_,_,_,_,_,_,by k_is,by k_is,by k_is,by k_is,λ_=>rfl,binds0 λus hl=>match us,hl with | [_,_],_=>rfl⟩
   ·exact⟨_,_,_,_,_,_,_,_,_,_,_,by k_is,by k_is,by k_is,by k_is,λ_=>rfl,binds0 λus hl=>match us,hl with | [_,_],_=>rfl⟩
   ·exact⟨_,_,_,_,_,_,_,_,_,_,_,by k_is,by k_is,by k_is,by k_is,λ_=>rfl,binds0 λus hl=>match us,hl with | [_,_,_,_,_],_=>rfl⟩
   ·exact⟨_,_,_,_,_,_,_,_,_,_,_,by k_is,by k_is,by k_is,by k_is,λ_=>rfl,binds0 λus hl=>match us,hl with | [_],_=>rfl⟩
   ·exact⟨_,_,_,_,_,_,_,_,_,_,_,by k_is,by k_is,by k_is,by k_is,λ_=>rfl,binds0 λus hl=>match us,hl with | [_],_=>rfl⟩
   ·exact⟨_,_,_,_,_,_,_,_,_,_,_,by k_is,by k_is,by k_is,by k_is,λ_=>rfl,binds0 λus hl=>match us,hl with | [_,_],_=>rfl⟩
   ·exact⟨_,_,_,_,_,_,_,_,_,_,_,by k_is,by k_is,by k_is,by k_is,λ_=>rfl,binds0 λus hl=>match us,hl with | [_],_=>rfl⟩
   ·exact⟨_,_,_,_,_,_,_,_,_,_,_,by k_is,by k_is,by k_is,by k_is,λ_=>rfl,binds0 λus hl=>match us,hl with | [_,_],_=>rfl⟩
   ·exact⟨_,_,_,_,_,_,_,_,_,_,_,by k_is,by k_is,by k_is,by k_is,λ_=>rfl,binds0 λus hl=>match us,hl with | [_],_=>rfl⟩
   ·exact⟨_,_,_,_,_,_,_,_,_,_,_,by k_is,by k_is,by k_is,by k_is,λ_=>rfl,binds0 λus hl=>match us,hl with | [_],_=>rfl⟩
   ·exact⟨_,_,_,_,_,_,_,_,_,_,_,by k_is,by k_is,by k_is,by k_is,λ_=>rfl,binds0 λus hl=>match us,hl with | [_],_=>rfl⟩
   ·exact⟨_,_,_,_,_,_,_,_,_,_,_,by k_is,by k_is,by k_is,by k_is,λ_=>rfl,binds0 λus hl=>match us,hl with | [_],_=>rfl⟩
   ·exact⟨_,_,_,_,_,_,_,_,_,_,_,by k_is,by k_is,by k_is,by k_is,λ_=>rfl,binds0 λus hl=>match us,hl with | [_],_=>rfl⟩
#print axioms PySem.Challenge.cw_mixform_k03_measures_holds
end