import PyProof.Rows.All
import Wide.All
import OpenK.AllK
import Wide.FinOn
import Lean
import PyProof.EqAt
import PyProof.EqKinds
import PyProof.TupleCall
import PyProof.NeKinds
import PySem.Challenge.RW_mixform_k62_bonds_and_equations
set_option Elab.async false
set_option linter.all false
set_option maxRecDepth 100000
set_option maxHeartbeats 4000000
section
open PySem PySem.W PySem.Spec PyProof.Rows
def PP:=@wpAny_bind
def PQ:=@Option.bind_eq_some_iff
def PU:=@Heap.get?_push_of_some
def PV:=@wpAny_pure
def PX:=@Bool.and_eq_true
def PY:=@List.size_toArray
def PZ:=@of_decide_eq_true
def P0:=@List.getElem?_eq_some_iff
def P1:=@List.mem_cons_of_mem
def P3:=@kasC_bind
def P4:=@Nat.le_refl
def P5:=@List.mem_cons_self
def P6:=@Heap.get?_push_size
def P7:=@kasC_pure
def P8:=@List.length_map
def P9:=@Heap.lt_size
def Qa:=@Nat.le_trans
def Qb:=@List.mem_cons
def Qc:=@List.not_mem_nil
def Qd:=@List.append_assoc
def Qe:=@Option.map_eq_some_iff
def Qf:=@List.length_append
def Qg:=@List.getElem?_set_ne
def Qh:=@List.length_cons
def Qi:=@List.getElem?_map
def Qj:=@Array.length_toList
def Qk:=@Nat.lt_of_lt_of_le
def Ql:=@List.mem_append
def Qm:=@eq_of_beq
def Qn:=@List.getElem?_eq_getElem
def Qo:=@decide_eq_false
def Qp:=@List.lookup_cons
def Qq:=@KeyOrd.kle_trans
def Qr:=@Heap.get?_update_other
def Qs:=@decide_eq_true
def Qt:=@Heap.size_push
def Qu:=@Nat.ne_of_lt
def Qv:=@List.mem_append_right
def Qw:=@wpAny_setField_rec
def Qx:=@List.mem_singleton
def Qy:=@List.mem_map
def Qz:=@List.all_eq_true
def QA:=@Int.emod_nonneg
def QB:=@Int.emod_lt_of_pos
def QC:=@List.append_nil
def QD:=@Bool.or_eq_true
def QE:=@List.getElem?_append_left
def QF:=@List.getElem?_append_right
def QG:=@List.map_cons
def QH:=@List.map_append
def QI:=@List.getElem?_set_self
def QJ:=@List.mem_range
def QK:=@Array.size_push
end
section
namespace L2
open PySem PySem.Spec PyProof.Rows
abbrev Key:=Sum Int Str
def B9:Key->Value->Bool
 | .inl k,v=>Value.isInt k v
 | .inr x,v=>Value.isStrOf x v
def Ls (w:World):Key->Int
 | .inl k=>hashInt k
 | .inr x=>hashStr w x
def bj:∀{k:Key} {v:Value},B9 k v=true->(∃i t,k=Sum.inl i/\v=Value.int i t)\/(∃x t,k=Sum.inr x/\v=Value.str x t)
 | .inl i,v,h=>by obtain⟨t,e⟩:=Value.isInt_shape (k:=i) (v:=v) h;exact .inl ⟨i,t,rfl,e⟩
 | .inr x,v,h=>by obtain⟨t,e⟩:=Value.isStrOf_shape (x:=x) (v:=v) h;exact .inr ⟨x,t,rfl,e⟩
def Fb (a b:Int):decide ((Sum.inl a:Key)=Sum.inl b)=(a==b):=by grind
def D9 (a b:Str):decide ((Sum.inr a:Key)=Sum.inr b)=decide (a=b):=by grind
def DO (a:Int) (b:Str):decide ((Sum.inl a:Key)=Sum.inr b)=false:=Qo (λq=>nomatch q)
def Fc (a:Str) (b:Int):decide ((Sum.inr a:Key)=Sum.inl b)=false:=Qo (λq=>nomatch q)
def oh (prog:Program) (w:World):PySem.KeyKind prog w Key where
 is:=B9
 hash:=Ls w
 inj:=λv a b ha hb=>by
  rcases bj ha with ⟨i,t,rfl,rfl⟩ | ⟨x,t,rfl,rfl⟩
  ·rcases bj hb with ⟨j,u,rfl,e⟩ | ⟨y,u,rfl,e⟩
   ·injection e with e1 _;rw[e1]
   ·exact nomatch e
  ·rcases bj hb with ⟨j,u,rfl,e⟩ | ⟨y,u,rfl,e⟩
   ·exact nomatch e
   ·injection e with e1 _;rw[e1]
 byValue:=λk v h=>by rcases bj h with ⟨i,t,rfl,rfl⟩ | ⟨x,t,rfl,rfl⟩ <;> rfl
 pyHash:=λhv h=>by
  rcases bj hv with ⟨i,t,rfl,rfl⟩ | ⟨x,t,rfl,rfl⟩
  ·exact wpAny_pyHash_int h
  ·exact wpAny_pyHash_str h
 eqBool:=λhu hv h=>by
  rcases bj hu with ⟨i,t,rfl,rfl⟩ | ⟨x,t,rfl,rfl⟩
  ·rcases bj hv with ⟨j,u,rfl,rfl⟩ | ⟨y,u,rfl,rfl⟩
   ·rw[Fb] at h;exact wpAny_eqBool_int h
   ·rw[DO] at h;exact SeqAt.EqAt.int_str i t y u _ _ _ _ h
  ·rcases bj hv with ⟨j,u,rfl,rfl⟩ | ⟨y,u,rfl,rfl⟩
   ·rw[Fc] at h;exact SeqAt.EqAt.str_int x t j u _ _ _ _ h
   ·rw[D9] at h;exact wpAny_eqBool_str h
 «strs»:=λk x t v h=>by
  rcases bj h with ⟨i,u,rfl,e⟩ | ⟨y,u,rfl,e⟩
  ·exact nomatch e
  ·injection e with e1 _;subst e1;cases v <;> rfl
end L2
namespace L2
open PySem PySem.Spec PyProof.Rows
inductive V where
 | bo | bl (b:Bool) | int (i:Int) | str (x:Str) | Fu (b:Array UInt8) | Av (b:UInt64) | ref (a:Addr) | ty (n:String)
 deriving DecidableEq
def RelV:V->Value->Prop
 | .bo,u=>u=Value.none
 | .bl b,u=>u=Value.bool b
 | .int i,u=>∃t,u=Value.int i t
 | .str x,u=>∃t,u=Value.str x t
 | .Fu b,u=>∃t,u=Value.bytes b t
 | .Av b,u=>∃t,u=Value.float b t
 | .ref a,u=>u=Value.ref a
 | .ty n,u=>u=Value.type n
abbrev aw:List V->List Value->Prop:=Paired RelV
def aw.length {xs:List V} {us:List Value} (r:aw xs us):xs.length=us.length:=Paired.length r
def aw.get:∀{xs:List V} {us:List Value} {i:Nat} {x:V},aw xs us->xs[i]?=some x->∃u,us[i]?=some u/\RelV x u
 | _,_,_,_,.nil,e=>by simp at e
 | _,_,0,_,.cons r _,e=>by simp at e;subst e;exact⟨_,rfl,r⟩
 | _,_,i + 1,x,.cons _ t,e=>by obtain⟨u,h1,h2⟩:=aw.get (i:=i) (x:=x) t (by simpa using e);exact⟨u,by simpa using h1,h2⟩
def aw.set {x:V} {u:Value} (r:RelV x u):∀{xs:List V} {us:List Value} (i:Nat),aw xs us->aw (xs.set i x) (us.set i u)
 | _,_,_,.nil=> .nil
 | _,_,0,.cons _ t=> .cons r t
 | _,_,i + 1,.cons q t=> .cons q (aw.set r i t)
def aw.append:∀{xs ys:List V} {us ws:List Value},aw xs us->aw ys ws->aw (xs++ys) (us++ws)
 | _,_,_,_,.nil,s=>s
 | _,_,_,_,.cons r t,s=> .cons r (aw.append t s)
def aw.take:∀{xs:List V} {us:List Value} (n:Nat),aw xs us->aw (xs.take n) (us.take n)
 | _,_,0,_=> .nil
 | _,_,_ + 1,.nil=> .nil
 | _,_,n + 1,.cons r t=> .cons r (aw.take n t)
def aw.drop:∀{xs:List V} {us:List Value} (n:Nat),aw xs us->aw (xs.drop n) (us.drop n)
 | _,_,0,r=>r
 | _,_,_ + 1,.nil=> .nil
 | _,_,n + 1,.cons _ t=>aw.drop n t
def DP:Option V->Option Value->Prop
 | some v,some u=>RelV v u
 | none,none=>True
 | _,_=>False
def KV {κ:Type}:List (κ×V)->List (κ×Value)->Prop:=Paired λ(p:κ×V) (q:κ×Value)=>p.1=q.1/\RelV p.2 q.2
def kV:Key->V
 | .inl i=> .int i
 | .inr x=> .str x
inductive HO where
 | lst (xs:List V)
 | tup (xs:List V)
 | dK (fg:List (Key×V)) | dT (fg:List (List Key×V))
 | set (S:Int->Bool) (n:Nat)
 | ins (C dx:Addr) (fs:List (Str×V))
 | own (x:Addr)
 | xd (fs:List (Str×V))
 | met (f x:Addr)
 | K9 (lo hi:Int)
 | tH (o:Obj) (u:HO)
 | Ez (ps:Array Value)
 | ext (φ:Heap->Prop)
abbrev Hp:=Addr->Option HO
def upd (H:Hp) (a:Addr) (o:HO):Hp:=λb=>if b=a then some o else H b
theorem aC {H:Hp} {a:Addr} {o:HO}:upd H a o a=some o:=by unfold upd;rw[if_pos rfl]
theorem ao {H:Hp} {a b:Addr} {o:HO} (h:b≠a):upd H a o b=H b:=by unfold upd;rw[if_neg h]
def au {H:Hp} {a b:Addr} {o:HO} (h:H a=some o) (h':H b=none):a≠b:=by intro e;subst e;rw[h] at h';cases h'
section
variable (P:Program) (w:World)
def bY (H:Hp) (h:Heap) (a:Addr):HO->Prop
 | .lst xs=>xs.length<=sizeLine/\∃(its:List Value) (n:Nat),aw xs its/\h.get? a=some {cls:= .type "list",data:= .seq its.toArray n}
 | .tup xs=>xs.length<=sizeLine/\∃its:List Value,aw xs its/\IsTup h a its.toArray
 | .dK fg=>fg.length<=sizeLine/\(a==sysModules)=false/\∃vs,KV fg vs/\h.DictOf (oh P w) a vs
 | .dT fg=>fg.length<=sizeLine/\(a==sysModules)=false/\∃xs:List (List Key×Addr×Value),
   Paired (λ(p:List Key×V) (q:List Key×Addr×Value)=>p.1=q.1/\H q.2.1=some (.tup (p.1.map kV))/\RelV p.2 q.2.2) fg xs/\
   ∃o es ep,h.get? a=some o/\o.ExactDict/\o.data= .dict es ep/\es.toList=xs.map (entryOfKey (tupleKind (oh P w)))/\(xs.map (·.1)).Nodup
 | .set S n=>h.SetOf (intKind P w) a S n
 | .ins C dx fs=>H dx=some (.own a)/\fs.length<=1000/\dx≠a/\h.get? a=some (PySem.W.instObj C dx)/\
   ∃mA,h.Ns1 dx mA/\(∀f,DP (fs.lookup f) (mA f))/\PySem.Within mA (fs.map (·.1))
 | .own _=>∃o,h.get? a=some o
 | .xd fs=>∃mA,h.Ns1 a mA/\∀f,DP (fs.lookup f) (mA f)
 | .K9 lo hi=>∃t u v,h.get? a=some {cls:= .type "range",data:= .fields #[.int lo t,.int hi u,.int 1 v]}
 | .tH o u=>h.get? a=some o/\bY H h a u
 | .Ez ps=>h.get? a=some {cls:= .none,data:= .fields ps}
 | .met f x=>h.get? a=some (PySem.W.methodObj (.ref f) (.ref x))
 | .ext φ=>φ h/\(∃o,h.get? a=some o)/\∀h1 h2:Heap,φ h1->(∀o,h1.get? a=some o->h2.get? a=some o)->φ h2
def eX (H:Hp) (h:Heap):Prop:=∀a o,H a=some o->bY P w H h a o
end
section
variable {P:Program} {w:World} {H H':Hp} {h h':Heap} {a:Addr} {o:HO}
def bY.lt (x:bY P w H h a o):a < h.objs.size:=by
 cases o with
 | lst xs=>obtain⟨_,_,_,_,e⟩:=x;exact P9 e
 | tup xs=>obtain⟨_,_,_,p⟩:=x;exact p.lt
 | dK fg=>obtain⟨_,_,_,_,o,_,_,e,_⟩:=x;exact P9 e
 | dT fg=>obtain⟨_,_,_,_,o,_,_,e,_⟩:=x;exact P9 e
 | set S n=>obtain⟨o,_,_,_,e,_⟩:=x;exact P9 e
 | ins C dx fs=>obtain⟨_,_,_,e,_⟩:=x;exact P9 e
 | own y=>obtain⟨_,e⟩:=x;exact P9 e
 | xd fs=>obtain⟨_,⟨_,_,_,e,_⟩,_⟩:=x;exact P9 e
 | K9 lo hi=>obtain⟨_,_,_,e⟩:=x;exact P9 e
 | tH ob u=>obtain⟨e,_⟩:=x;exact P9 e
 | Ez ps=>exact P9 (show h.get? a=some _ from x)
 | met f y=>exact P9 (show h.get? a=some _ from x)
 | ext φ=>obtain⟨_,⟨_,e⟩,_⟩:=x;exact P9 e
def Paired.Ie {α β:Type} {F G:α->β->Prop}:∀{l₁:List α} {l₂:List β},Paired F l₁ l₂->(∀a b,F a b->G a b)->Paired G l₁ l₂
 | _,_,.nil,_=> .nil
 | _,_,.cons r t,f=> .cons (f _ _ r) (Paired.Ie t f)
def bY.iV (x:bY P w H h a o) (k:∀b u,(b=a\/H b=some (.own a))->h.get? b=some u->h'.get? b=some u)
  (ho:∀b,H b=some (.own a)->H' b=some (.own a)) (ht:∀b xs,H b=some (.tup xs)->H' b=some (.tup xs)):bY P w H' h' a o:=by
 induction o with
 | lst xs=>obtain⟨z,its,n,r,e⟩:=x;exact⟨z,its,n,r,k _ _ (.inl rfl) e⟩
 | tup xs=>obtain⟨z,its,r,ob,e,c⟩:=x;exact⟨z,its,r,ob,k _ _ (.inl rfl) e,c⟩
 | dK fg=>obtain⟨z,y,vs,r,ob,es,ep,e,c⟩:=x;exact⟨z,y,vs,r,ob,es,ep,k _ _ (.inl rfl) e,c⟩
 | dT fg=>obtain⟨z,y,xs,r,ob,es,ep,e,c⟩:=x;exact⟨z,y,xs,Paired.Ie r λp q z=>⟨z.1,ht _ _ z.2.1,z.2.2⟩,ob,es,ep,k _ _ (.inl rfl) e,c⟩
 | set S n=>obtain⟨ob,es,ep,t,e,c⟩:=x;exact⟨ob,es,ep,t,k _ _ (.inl rfl) e,c⟩
 | ins C dx fs=>obtain⟨d,z,ne,e,mA,⟨od,es,ep,e2,c⟩,r⟩:=x;exact⟨ho _ d,z,ne,k _ _ (.inl rfl) e,mA,⟨od,es,ep,k _ _ (.inr d) e2,c⟩,r⟩
 | own y=>obtain⟨ob,e⟩:=x;exact⟨ob,k _ _ (.inl rfl) e⟩
 | xd fs=>obtain⟨mA,⟨od,es,ep,e,c⟩,r⟩:=x;exact⟨mA,⟨od,es,ep,k _ _ (.inl rfl) e,c⟩,r⟩
 | K9 lo hi=>obtain⟨t,u,v,e⟩:=x;exact⟨t,u,v,k _ _ (.inl rfl) e⟩
 | tH ob u ih=>obtain⟨e,q⟩:=x;exact⟨k _ _ (.inl rfl) e,ih q⟩
 | Ez ps=>have e:h.get? a=some {cls:= .none,data:= .fields ps}:=x;show h'.get? a=some {cls:= .none,data:= .fields ps};exact k a _ (.inl rfl) e
 | met f y=>have e:h.get? a=some (PySem.W.methodObj (.ref f) (.ref y)):=x;show h'.get? a=some (PySem.W.methodObj (.ref f) (.ref y));exact k a _ (.inl rfl) e
 | ext φ=>obtain⟨p,⟨o,e⟩,st⟩:=x;exact⟨st _ _ p λo q=>k _ _ (.inl rfl) q,⟨o,k _ _ (.inl rfl) e⟩,st⟩
def eX.lt (x:eX P w H h) (e:H a=some o):a < h.objs.size:=(x a o e).lt
def eX.fresh (x:eX P w H h) (e:h.objs.size<=a):H a=none:=by
 cases q:H a with
 | none=>rfl
 | some u=>exact absurd (Qk (x.lt q) e) (Nat.lt_irrefl _)
def eX.kept (x:eX P w H h) (k:∀b u,h.get? b=some u->h'.get? b=some u):eX P w H h':=λa o e=>
 (x a o e).iV (λb u _ q=>k b u q) (λ_ q=>q) λ_ _ q=>q
def eX.laid (x:eX P w H h) (k:∀b u,h.get? b=some u->h'.get? b=some u) (hp:h.objs.size<=a) (new:bY P w (upd H a o) h' a o):eX P w (upd H a o) h':=λb u e=>by
 have hn:=x.fresh hp;by_cases hb:b=a
 ·subst hb;rw[aC] at e;cases e;exact new
 ·rw[ao hb] at e;exact(x b u e).iV (λc v _ q=>k c v q) (λc q=>by rw[ao (au q hn)];exact q) λc xs q=>by rw[ao (au q hn)];exact q
end
def Rd (H:Hp) (a:Addr) (u:HO):Prop:=H a=some u\/∃o,H a=some (.tH o u)
def Rd.ok {P:Program} {w:World} {H:Hp} {h:Heap} {a:Addr} {u:HO} (r:Rd H a u) (x:eX P w H h):bY P w H h a u:=by
 rcases r with r | ⟨o,r⟩
 ·exact x a u r
 ·obtain⟨_,q⟩:=x a _ r;exact q
def Jj:Option HO->Prop
 | some (.lst _)=>True
 | some (.dK _)=>True
 | some (.dT _)=>True
 | some (.set _ _)=>True
 | some (.ins _ _ _)=>True
 | some (.ext _)=>True
 | _=>False
section
variable {P:Program} {w:World} {H:Hp} {h h':Heap} {x e:Addr} {o':HO}
def eX.write (ok:eX P w H h) (mu:Jj (H x)) (he:e=x\/H e=some (.own x)) (k:∀b u,b≠e->h.get? b=some u->h'.get? b=some u) (FC:∃u,h'.get? e=some u)
  (new:bY P w (upd H x o') h' x o'):eX P w (upd H x o') h':=λb u q=>by
 have Io:∀c y,H c=some (.own y)->c≠x:=λc y r z=>by subst z;rw[r] at mu;exact mu
 have KH:∀c xs,H c=some (.tup xs)->c≠x:=λc xs r z=>by subst z;rw[r] at mu;exact mu
 by_cases hb:b=x
 ·subst hb;rw[aC] at q;cases q;exact new
 ·rw[ao hb] at q;by_cases hbe:b=e
  ·have q':H b=some (.own x):=by
    rcases he with z | z
    ·exact absurd (hbe.trans z) hb
    ·rw[hbe];exact z
   rw[q] at q';cases q';obtain⟨v,hv⟩:=FC;exact⟨v,by rw[hbe];exact hv⟩
  ·refine(ok b u q).iV (λc v hc r=>k c v ?_ r) (λc r=>by rw[ao (Io c b r)];exact r) λc xs r=>by rw[ao (KH c xs r)];exact r
   rcases hc with rfl | hc
   ·exact hbe
   ·rintro rfl;rcases he with z | z
    ·exact Io c b hc z
    ·rw[hc] at z;cases z;exact hb rfl
end
structure Un (fs ex:List Addr) (H H':Hp) (h h':Heap):Prop where
 keep:∀b o,h.get? b=some o->H b=none->b∉fs->b∉ex->h'.get? b=some o
 slot:∀b o,h.get? b=some o->H b=none->b∈fs->b∉ex->∃sl,h'.get? b=some {o with slots:=sl}
 free:∀b o,h.get? b=some o->H b=none->b∉ex->H' b=none
 there:∀b o,h.get? b=some o->b∉ex->∃o',h'.get? b=some o'
 tups:∀b xs,H b=some (.tup xs)->H' b=some (.tup xs)
 frzs:∀b o u,H b=some (.tH o u)->H' b=some (.tH o u)
 tbls:∀b ps,H b=some (.Ez ps)->∃more,H' b=some (.Ez (ps++more))
section
variable {fs KE ex Pg:List Addr} {H H1 H2:Hp} {h h1 h2 h':Heap} {a x e:Addr} {o:HO}
def Un.any (u:Un fs ex H H1 h h1) {b:Addr} {ob:Obj} (q:h.get? b=some ob) (n:H b=none) (hx:b∉ex):∃sl,h1.get? b=some {ob with slots:=sl}:=by
 by_cases hb:b∈fs
 ·exact u.slot b ob q n hb hx
 ·exact⟨ob.slots,u.keep b ob q n hb hx⟩
def Un.trans (a:Un fs ex H H1 h h1) (b:Un fs ex H1 H2 h1 h2):Un fs ex H H2 h h2 where
 keep:=λc ob q n hc hx=>b.keep c ob (a.keep c ob q n hc hx) (a.free c ob q n hx) hc hx
 slot:=λc ob q n hc hx=>by obtain⟨sl,e1⟩:=a.slot c ob q n hc hx;obtain⟨F9,e2⟩:=b.slot c _ e1 (a.free c ob q n hx) hc hx;exact⟨F9,e2⟩
 free:=λc ob q n hx=>by obtain⟨o',e1⟩:=a.there c ob q hx;exact b.free c o' e1 (a.free c ob q n hx) hx
 there:=λc ob q hx=>by obtain⟨o',e1⟩:=a.there c ob q hx;exact b.there c o' e1 hx
 tups:=λc xs q=>b.tups c xs (a.tups c xs q)
 frzs:=λc ob xs q=>b.frzs c ob xs (a.frzs c ob xs q)
 tbls:=λc ps q=>by obtain⟨m1,e1⟩:=a.tbls c ps q;obtain⟨m2,e2⟩:=b.tbls c _ e1;exact⟨m1++m2,by rw[e2,Array.append_assoc]⟩
def Un.kept (k:∀b u,h.get? b=some u->h'.get? b=some u):Un fs ex H H h h':=
 ⟨λb ob q _ _ _=>k b ob q,λb ob q _ _ _=>⟨ob.slots,k b ob q⟩,λ_ _ _ n _=>n,λb ob q _=>⟨ob,k b ob q⟩,λ_ _ q=>q,λ_ _ _ q=>q,λ_ ps q=>⟨#[],by rw[q];simp⟩⟩
def Un.refl:Un fs ex H H h h:=Un.kept λ_ _ q=>q
def Un.laid (k:∀b u,h.get? b=some u->h'.get? b=some u) (hp:h.objs.size<=a) (hn:H a=none):Un fs ex H (upd H a o) h h' where
 keep:=λb u q _ _ _=>k b u q
 slot:=λb u q _ _ _=>⟨u.slots,k b u q⟩
 free:=λb u q n _=>by rw[ao (Qu (Qk (P9 q) hp))];exact n
 there:=λb u q _=>⟨u,k b u q⟩
 tups:=λb xs q=>by rw[ao (au q hn)];exact q
 frzs:=λb u xs q=>by rw[ao (au q hn)];exact q
 tbls:=λb ps q=>⟨#[],by rw[ao (au q hn),q];simp⟩
def Un.write (mu:Jj (H x)) (he:e=x\/H e=some (.own x)) (k:∀b u,b≠e->h.get? b=some u->h'.get? b=some u) (FC:∃u,h'.get? e=some u):Un fs ex H (upd H x o) h h':=by
 have hx:∀b,H b=none->b≠x:=λb n z=>by subst z;rw[n] at mu;exact mu
 have hb:∀b,H b=none->b≠e:=λb n z=>by
  subst z;rcases he with r | r
  ·exact hx b n r
  ·rw[n] at r;cases r
 have hm:∀b u,H b=some u->¬Jj (some u)->b≠x:=λb u q nm z=>by subst z;rw[q] at mu;exact nm mu
 refine⟨λb u q n _ _=>k b u (hb b n) q,λb u q n _ _=>⟨u.slots,k b u (hb b n) q⟩,λb u q n _=>by rw[ao (hx b n)];exact n,λb u q _=>?_,
  λb xs q=>by rw[ao (hm b _ q λz=>z)];exact q,λb u xs q=>by rw[ao (hm b _ q λz=>z)];exact q,λb ps q=>⟨#[],by rw[ao (hm b _ q λz=>z),q];simp⟩⟩
 by_cases hbe:b=e
 ·subst hbe;exact FC
 ·exact⟨u,k b u hbe q⟩
end
def Fe (h:Heap) (H:Hp):List Addr:=(List.range h.objs.size).filter λa=>(H a).isSome
def oF (h:Heap) (H:Hp):Heap:=PySem.W.hideAll h (Fe h H)
def vP (h:Heap) (H:Hp):(oF h H).objs.size=h.objs.size:=PySem.W.hideAll_size _ _
def wH {h:Heap} {H:Hp} {b:Addr} {o:Obj} (e:h.get? b=some o) (n:H b=none):(oF h H).get? b=some o:=
 PySem.W.hideAll_get _ e λhm=>by have q:(H b).isSome=true:=(List.mem_filter.mp hm).2;rw[n] at q;simp at q
def AM {h:Heap} {H:Hp} {b:Addr} {o:Obj} (e:(oF h H).get? b=some o):h.get? b=some o/\H b=none:=by
 have e':h.get? b=some o:=PySem.W.of_hideAll (Fe h H) e;refine⟨e',?_⟩;cases q:H b with
 | none=>rfl
 | some x=>have hm:b∈Fe h H:=List.mem_filter.mpr ⟨QJ.mpr (P9 e'),by simp[q]⟩;have z:(oF h H).get? b=none:=PySem.W.hideAll_none (Fe h H) hm;rw[z] at e;cases e
def Ao (g h:Heap) (L:Addr):List (Addr×Obj):=(List.range h.objs.size).filterMap λa=>if a=L\/(g.get? a).isSome=true then none else(h.get? a).map λo=>(a,o)
def rest (g h:Heap) (L d:Addr):List (Addr×Obj):=(Ao g h L).filter λp=>decide (p.1≠d)
end L2
namespace L2
open PySem PySem.Spec PyProof.Rows
structure Mod (K:PySem.W.Frag) (mg:Str->Option Value) (base:Heap):Prop where
 Kb:K.In base
 glob:base.Ns mainGlobals mg
 blt:∃mb,base.Ns builtinsNs mb/\∀x:Str,x≠"__name__"->mb x=bootBuiltins x
 nolimit:base.NoLimit
structure Cx where
 prog:Program
 w:World
 K:PySem.W.Frag
 mg:Str->Option Value
 base:Heap
 A:Around
 N:List Str
 s₀:Shared
 H₀:Hp
 env:Env
 outer:List Env
 stack:List Env
 ex:List Addr
 fn:Str->Bool
 calm:Bool
 pn:List (Addr×Obj)
 xe:Value->Shared->Prop
def fu (l:List Env):List Addr:=l.filterMap (·.frame)
abbrev Cx.fs (X:Cx):List Addr:=fu X.outer
def FY (sc:Scope) (x:Str):Prop:=sc.names.lookup x=some .local\/sc.names.lookup x=some .cell\/sc.names.lookup x=some .free
def Loc (sc:Scope) (x:Str):Prop:=sc.names.lookup x=some .local\/sc.names.lookup x=some .cell
def Look (env:Env) (h:Heap) (m:Str->Option Value) (x:Str) (u:Value):Prop:=
 (env.kindOf x=some .local/\m x=some u)\/((env.kindOf x=some .cell\/env.kindOf x=some .free)/\∃c,env.cells.lookup x=some c/\h.IsCell c (some u))
structure Cx.Ok (X:Cx):Prop where
 mod:Mod X.K X.mg X.base
 kind:X.env.scope.kind= .function
 glob:X.env.globals=mainGlobals
 blt:X.env.builtins=builtinsNs
 above:X.s₀.heap.objs.size<=X.env.locals
 inj:∀x y c,X.env.cells.lookup x=some c->X.env.cells.lookup y=some c->x=y
 has:∀x,(X.env.kindOf x=some .cell\/X.env.kindOf x=some .free)->∃c,X.env.cells.lookup x=some c
 D3:∀x c,X.fn x=true->X.env.cells.lookup x=some c->X.s₀.heap.objs.size<=c
 hd:X.calm=true->X.A.handled=none
 frames:X.A.frames=some X.stack
 Fy:X.stack=X.outer\/(X.stack=X.env::X.outer/\X.env.frame=some X.env.locals)
 Ii:∀b∈X.ex,b≠X.env.locals/\∀x c,X.env.cells.lookup x=some c->c≠b
 bs:∀b o,X.base.get? b=some o->X.s₀.heap.get? b=some o/\X.H₀ b=none
 BV:X.base.objs.size<=X.s₀.heap.objs.size
 qU:∀b o,X.base.get? b=some o->b∉X.ex
 vL:∀b∈X.ex,b∉X.fs
 k9:X.s₀.heap.FunFrames X.base X.outer
 Fp:∀b∈X.fs,X.H₀ b=none
structure Inv (X:Cx) (pins:List (Addr×Obj)) (σ:List (Option V)) (H:Hp) (s:Shared):Prop where
 ok:X.Ok
 os:s.os=X.s₀.os
 bare:AllBare s.gens
 base:Un X.fs X.ex X.H₀ H X.s₀.heap s.heap
 loc:∃m,s.heap.Ns X.env.locals m/\∀(i:Nat) (x:Str) (v:V),X.N[i]?=some x->σ[i]?=some (some v)->FY X.env.scope x->∃u,RelV v u/\Look X.env s.heap m x u
 cell:∀x c,X.env.cells.lookup x=some c->∃v,s.heap.IsCell c v
 free:H X.env.locals=none
 dO:∀x c,X.env.cells.lookup x=some c->H c=none
 pin:∀p∈X.pn++pins,s.heap.get? p.1=some p.2/\H p.1=none/\p.1≠X.env.locals/\p.1∉X.fs/\∀v,p.2.data≠ .cell v
 hok:eX X.prog X.w H s.heap
 len:σ.length=X.N.length
section
variable {X:Cx} {pins:List (Addr×Obj)} {σ:List (Option V)} {H H':Hp} {s:Shared} {h':Heap}
def Cx.Ok.KF (ok:X.Ok) {b:Addr} {o:Obj} (e:X.base.get? b=some o):b∉X.fs:=λhb=>by have:=(ok.k9.mem hb).1;rw[e] at this;cases this
def Inv.bs (I:Inv X pins σ H s):∀b o,X.base.get? b=some o->s.heap.get? b=some o/\H b=none:=λb o e=>
 ⟨I.base.keep b o (I.ok.bs b o e).1 (I.ok.bs b o e).2 (I.ok.KF e) (I.ok.qU b o e),I.base.free b o (I.ok.bs b o e).1 (I.ok.bs b o e).2 (I.ok.qU b o e)⟩
def Inv.bk (I:Inv X pins σ H s):∀b o,X.base.get? b=some o->s.heap.get? b=some o:=λb o e=>(I.bs b o e).1
def Inv.mod (I:Inv X pins σ H s):Mod X.K X.mg X.base:=I.ok.mod
def Inv.p5 (I:Inv X pins σ H s):X.K.In s.heap:=I.ok.mod.Kb.keeps I.bk
def Inv.fr (I:Inv X pins σ H s):∃m,Fr X.base X.env.locals s.heap m:=
 let ⟨m,hn,_⟩:=I.loc
 ⟨m,hn,I.bk,Qa I.ok.BV I.ok.above⟩
def Inv.lt (I:Inv X pins σ H s):X.env.locals < s.heap.objs.size:=let ⟨_,hn,_⟩:=I.loc;hn.lt
def Inv.sz (I:Inv X pins σ H s):X.s₀.heap.objs.size<=s.heap.objs.size:=Qa I.ok.above (Nat.le_of_lt I.lt)
def Inv.L7 (I:Inv X pins σ H s) {a:Addr} (h:s.heap.objs.size<=a):a∉X.fs:=λhb=>by obtain⟨_,o,ho,_⟩:=I.ok.k9.mem hb;exact absurd (Qk (P9 ho) (Qa I.sz h)) (Nat.lt_irrefl _)
def Inv.EG (I:Inv X pins σ H s):∀x c,X.env.cells.lookup x=some c->c≠X.env.locals:=λx c e z=>by obtain⟨v,o,ho,hd⟩:=I.cell x c e;obtain⟨m,⟨o',es,ep,oO,qT,_⟩,_⟩:=I.loc;rw[z,oO] at ho;cases ho;rw[qT] at hd;cases hd
def Inv.k9 (I:Inv X pins σ H s):s.heap.FunFrames X.base X.outer:=by
 have all:∀(l:List Env),(∀b∈fu l,b∈X.fs)->X.s₀.heap.FunFrames X.base l->s.heap.FunFrames X.base l:=by
  intro l
  induction l with
  | nil=>intro _ _;trivial
  | cons env r ih=>
   intro hs hl;obtain⟨hk,⟨L,o,hf,hn,ho,hd⟩,hr⟩:=hl;have hL:L∈X.fs:=hs L (by unfold fu;rw[List.filterMap_cons,hf];exact P5);obtain⟨sl,e⟩:=I.base.slot L o ho (I.ok.Fp L hL) hL λz=>I.ok.vL L z hL
   exact⟨hk,⟨L,_,hf,hn,e,hd⟩,ih (λb hb=>hs b (by unfold fu;rw[List.filterMap_cons,hf];exact P1 _ hb)) hr⟩
 exact all X.outer (λ_ hb=>hb) I.ok.k9
def Inv.stack (I:Inv X pins σ H s):s.heap.FunFrames X.base X.stack:=by
 rcases I.ok.Fy with e | ⟨e,hf⟩
 ·rw[e];exact I.k9
 ·rw[e];obtain⟨m,hn,_⟩:=I.loc;refine .cons (by rw[I.ok.kind];decide) hf hn ?_ I.k9;exact Heap.get?_none_of_le (Qa I.ok.BV I.ok.above)
def Inv.kW (I:Inv X pins σ H s):∀b∈fu X.stack,b∈X.env.locals::X.fs:=λb hb=>by
 rcases I.ok.Fy with e | ⟨e,hf⟩
 ·rw[e] at hb;exact P1 _ hb
 ·rw[e] at hb;unfold fu at hb;rw[List.filterMap_cons,hf] at hb;exact hb
def Inv.oq (I:Inv X pins σ H s):∀b∈fu X.stack,H b=none:=λb hb=>by
 rcases Qb.mp (I.kW b hb) with e | hb
 ·rw[e];exact I.free
 ·obtain⟨_,o,ho,_⟩:=I.ok.k9.mem hb;exact I.base.free b o ho (I.ok.Fp b hb) λz=>I.ok.vL b z hb
def Inv.step {g':Array GenState} {t':Nat} {d':Drawn} {ch:List Addr} (I:Inv X pins σ H s)
  (zI:∀b∈ch,(b∈X.ex\/X.s₀.heap.objs.size<=b)/\b≠X.env.locals/\(∀x c,X.env.cells.lookup x=some c->c≠b)/\∀p∈X.pn++pins,p.1≠b)
  (keep:∀b o,b≠X.env.locals->b∉X.fs->b∉ch->s.heap.get? b=some o->H b=none->h'.get? b=some o)
  (slot:∀b o,b≠X.env.locals->b∈X.fs->b∉ch->s.heap.get? b=some o->H b=none->∃sl,h'.get? b=some {o with slots:=sl}) (free:∀b o,b∉ch->s.heap.get? b=some o->H b=none->H' b=none)
  (there:∀b o,b∉ch->s.heap.get? b=some o->∃o',h'.get? b=some o')
  (tups:∀b xs,H b=some (.tup xs)->H' b=some (.tup xs)) (frzs:∀b o u,H b=some (.tH o u)->H' b=some (.tH o u)) (tbls:∀b ps,H b=some (.Ez ps)->∃more,H' b=some (.Ez (ps++more)))
  (ns:∀m,s.heap.Ns X.env.locals m->h'.Ns X.env.locals m) (hok:eX X.prog X.w H' h') (hg:AllBare g'):
  Inv X pins σ H' {s with heap:=h',gens:=g',drawn:=d',toks:=t'}:=by
 have II:∀b o,X.s₀.heap.get? b=some o->b≠X.env.locals:=λb o e=>Qu (Qk (P9 e) I.ok.above)
 have Jr:∀b o,X.s₀.heap.get? b=some o->b∉X.ex->b∉ch:=λb o e hx hb=>by
  rcases (zI b hb).1 with z | z
  ·exact hx z
  ·exact absurd (Qk (P9 e) z) (Nat.lt_irrefl _)
 have cellK:∀x c,X.env.cells.lookup x=some c->∀v,s.heap.IsCell c v->h'.IsCell c v:=λx c e v ⟨o,ho,hd⟩=>by
  have F2:c∉ch:=λz=>(zI c z).2.2.1 x c e rfl
  by_cases hc:c∈X.fs
  ·obtain⟨sl,q⟩:=slot c o (I.EG x c e) hc F2 ho (I.dO x c e);exact⟨_,q,hd⟩
  ·exact⟨o,keep c o (I.EG x c e) hc F2 ho (I.dO x c e),hd⟩
 refine⟨I.ok,I.os,hg,⟨λb o e n hb hx=>?_,λb o e n hb hx=>?_,λb o e n hx=>?_,λb o e hx=>?_,λb xs e=>tups b xs (I.base.tups b xs e),λb o xs e=>frzs b o xs (I.base.frzs b o xs e),λb ps e=>?_⟩,?_,λx c e=>?_,?_,λx c e=>?_,λp hp=>?_,hok,I.len⟩
 ·exact keep b o (II b o e) hb (Jr b o e hx) (I.base.keep b o e n hb hx) (I.base.free b o e n hx)
 ·obtain⟨sl,e1⟩:=I.base.slot b o e n hb hx;obtain⟨F9,e2⟩:=slot b _ (II b o e) hb (Jr b o e hx) e1 (I.base.free b o e n hx);exact⟨F9,e2⟩
 ·obtain⟨o',e1⟩:=I.base.there b o e hx;exact free b o' (Jr b o e hx) e1 (I.base.free b o e n hx)
 ·obtain⟨o',e1⟩:=I.base.there b o e hx;exact there b o' (Jr b o e hx) e1
 ·obtain⟨m1,e1⟩:=I.base.tbls b ps e;obtain⟨m2,e2⟩:=tbls b _ e1;exact⟨m1++m2,by rw[e2,Array.append_assoc]⟩
 ·obtain⟨m,hn,hl⟩:=I.loc;refine⟨m,ns m hn,λi x v e1 e2 e3=>?_⟩;obtain⟨u,r,l⟩:=hl i x v e1 e2 e3;refine⟨u,r,?_⟩;rcases l with l | ⟨k,c,e,z⟩
  ·exact .inl l
  ·exact .inr ⟨k,c,e,cellK x c e _ z⟩
 ·obtain⟨v,z⟩:=I.cell x c e;exact⟨v,cellK x c e v z⟩
 ·obtain⟨m,⟨o,_,_,ho,_⟩,_⟩:=I.loc;exact free _ o (λz=>(zI _ z).2.1 rfl) ho I.free
 ·obtain⟨v,o,ho,hd⟩:=I.cell x c e;exact free c o (λz=>(zI c z).2.2.1 x c e rfl) ho (I.dO x c e)
 ·obtain⟨e,n,ne,nf,d⟩:=I.pin p hp;have F2:p.1∉ch:=λz=>(zI p.1 z).2.2.2 p hp rfl
  exact⟨keep p.1 p.2 ne nf F2 e n,free p.1 p.2 F2 e n,ne,nf,d⟩
def Inv.un {t':Nat} (I:Inv X pins σ H s) (u:Un X.fs [] H H' s.heap h') (hok:eX X.prog X.w H' h'):Inv X pins σ H' {s with heap:=h',toks:=t'}:=by
 obtain⟨m,⟨o,es,ep,ho,r⟩,_⟩:=id I.loc;obtain⟨sl,hL⟩:=u.any ho I.free (by simp);exact I.step (g':=s.gens) (d':=s.drawn) (ch:=[]) (λ_ z=>nomatch z) (λb o _ hb _ e n=>u.keep b o e n hb (by simp)) (λb o _ hb _ e n=>u.slot b o e n hb (by simp)) (λb o _ e n=>u.free b o e n (by simp)) (λb o _ e=>u.there b o e (by simp)) u.tups u.frzs u.tbls (λm' hm=>by
  obtain⟨o',de,Jp,oO,r'⟩:=hm;rw[ho] at oO;cases oO;exact⟨_,de,Jp,hL,r'⟩) hok I.bare
def Inv.call {g':Array GenState} {t':Nat} {d':Drawn} {ch:List Addr} (I:Inv X pins σ H s) (u:Un (fu X.stack) ch H H' s.heap h') (hok:eX X.prog X.w H' h') (hg:AllBare g')
  (zI:∀b∈ch,(b∈X.ex\/X.s₀.heap.objs.size<=b)/\b≠X.env.locals/\(∀x c,X.env.cells.lookup x=some c->c≠b)/\∀p∈X.pn++pins,p.1≠b):
  Inv X pins σ H' {s with heap:=h',gens:=g',drawn:=d',toks:=t'}:=by
 obtain⟨m,⟨o,es,ep,ho,r⟩,_⟩:=id I.loc;obtain⟨sl,hL⟩:=u.any ho I.free λz=>(zI _ z).2.1 rfl
 exact I.step (ch:=ch) zI (λb o hL hb hc e n=>u.keep b o e n (λz=>(Qb.mp (I.kW b z)).elim hL hb) hc) (λb o _ _ hc e n=>u.any e n hc) (λb o hc e n=>u.free b o e n hc) (λb o hc e=>u.there b o e hc) u.tups u.frzs u.tbls (λm' hm=>by
  obtain⟨o',de,Jp,oO,r'⟩:=hm;rw[ho] at oO;cases oO;exact⟨_,de,Jp,hL,r'⟩) hok hg
def Inv.turned {t':Nat} {it:Addr} (I:Inv X pins σ H s) (k:∀b o,b≠it->s.heap.get? b=some o->h'.get? b=some o) (hn:H it=none) (hL:it≠X.env.locals)
  (h1:it∈X.ex\/X.s₀.heap.objs.size<=it) (h2:∀x c,X.env.cells.lookup x=some c->c≠it) (h3:∀p∈X.pn++pins,p.1≠it):Inv X pins σ H {s with heap:=h',toks:=t'}:=by
 have Mg:∀b u,H b=some u->b≠it:=λb u e z=>by rw[z,hn] at e;cases e
 refine I.step (g':=s.gens) (d':=s.drawn) (ch:=[it]) (λb hb=>?_) (λb o _ _ hc e _=>k b o (λz=>hc (by simp[z])) e) (λb o _ _ hc e _=>⟨o.slots,k b o (λz=>hc (by simp[z])) e⟩) (λ_ _ _ _ n=>n)
  (λb o hc e=>⟨o,k b o (λz=>hc (by simp[z])) e⟩) (λ_ _ e=>e) (λ_ _ _ e=>e) (λb ps e=>⟨#[],by rw[e];simp⟩) (λm hm=>?_) (λb u e=>?_) I.bare
 ·have e:b=it:=by simpa using hb
  subst e;exact⟨h1,hL,h2,h3⟩
 ·obtain⟨o,es,ep,ho,r⟩:=hm;exact⟨o,es,ep,k _ o (Ne.symm hL) ho,r⟩
 ·refine(I.hok b u e).iV (λc v hc q=>k c v ?_ q) (λ_ q=>q) λ_ _ q=>q
  rcases hc with z | z
  ·rw[z];exact Mg b u e
  ·exact Mg c _ z
def Inv.tok (I:Inv X pins σ H s) (t:Nat):Inv X pins σ H {s with toks:=t}:=I.un (h':=s.heap) (t':=t) Un.refl I.hok
def Inv.kept {t':Nat} (I:Inv X pins σ H s) (k:∀b u,s.heap.get? b=some u->h'.get? b=some u):Inv X pins σ H {s with heap:=h',toks:=t'}:=I.un (Un.kept k) (I.hok.kept k)
def Inv.laid {a:Addr} {o:HO} {t':Nat} (I:Inv X pins σ H s) (k:∀b u,s.heap.get? b=some u->h'.get? b=some u) (hp:s.heap.objs.size<=a) (new:bY X.prog X.w (upd H a o) h' a o):
  Inv X pins σ (upd H a o) {s with heap:=h',toks:=t'}:=I.un (Un.laid k hp (I.hok.fresh hp)) (I.hok.laid k hp new)
def Inv.write {x e:Addr} {o:HO} {t':Nat} (I:Inv X pins σ H s) (mu:Jj (H x)) (he:e=x\/H e=some (.own x)) (k:∀b u,b≠e->s.heap.get? b=some u->h'.get? b=some u) (FC:∃u,h'.get? e=some u)
  (new:bY X.prog X.w (upd H x o) h' x o):Inv X pins σ (upd H x o) {s with heap:=h',toks:=t'}:=I.un (Un.write mu he k FC) (I.hok.write mu he k FC new)
def Inv.weak {σ':List (Option V)} (I:Inv X pins σ H s) (hl:σ'.length=σ.length) (w:∀(i:Nat) v,σ'[i]?=some (some v)->σ[i]?=some (some v)):Inv X pins σ' H s:=
 ⟨I.ok,I.os,I.bare,I.base,let ⟨m,hn,Af⟩:=I.loc;⟨m,hn,λi x v e1 e2 e3=>Af i x v e1 (w i v e2) e3⟩,I.cell,I.free,I.dO,I.pin,I.hok,hl.trans I.len⟩
def Inv.jR {Cg:List (Addr×Obj)} (I:Inv X pins σ H s) (h:∀p∈Cg,s.heap.get? p.1=some p.2/\H p.1=none/\p.1≠X.env.locals/\p.1∉X.fs/\∀v,p.2.data≠ .cell v):Inv X Cg σ H s:=
 ⟨I.ok,I.os,I.bare,I.base,I.loc,I.cell,I.free,I.dO,λp hp=>(Ql.mp hp).elim (λz=>I.pin p (List.mem_append_left _ z)) (h p),I.hok,I.len⟩
def kY {N:List Str} (hN:N.Nodup) {i j:Nat} {x:Str} (a:N[i]?=some x) (b:N[j]?=some x):i=j:=by obtain⟨h1,e1⟩:=P0.mp a;obtain⟨h2,e2⟩:=P0.mp b;exact(List.getElem_inj hN).mp (e1.trans e2.symm)
def mI {M:Model} {A:Around} {E:Value->Shared->Prop} {i:Nat} {x:Str} {v:V} {u:Value} {Q:Unit->Shared->Prop} (I:Inv X pins σ H s) (hN:X.N.Nodup) (hi:X.N[i]?=some x) (hx:Loc X.env.scope x) (r:RelV v u)
  (h:∀s',Inv X pins (σ.set i (some v)) H s'->(∃a,Heap.SameBut a s.heap s'.heap/\(a=X.env.locals\/X.env.cells.lookup x=some a))->Q () s') (hf:X.fn x=true\/X.env.scope.names.lookup x=some .local:=by first | exact .inl rfl | exact .inr rfl | assumption):wpAny M A (storeName X.env x u) Q E s:=by
 obtain⟨m,hn,hl⟩:=id I.loc;have qe:(X.env.scope.kind== .class||(X.env.scope.kind== .module&&X.env.locals != X.env.globals))=false:=by rw[I.ok.kind];rfl
 have hiσ:i < σ.length:=by rw[I.len];exact(P0.mp hi).1
 have EG:=I.EG;have tracked:∀{a:Addr} {h':Heap},(∃o,s.heap.get? a=some o/\H a=none)->Heap.SameBut a s.heap h'->eX X.prog X.w H h':=λ {a h'} ha hs b ob e=>by
  obtain⟨_,_,CA⟩:=ha;refine(I.hok b ob e).iV (λc w' hc q=>(hs.2 c ?_).trans q) (λ_ q=>q) λ_ _ q=>q
  rintro rfl;rcases hc with rfl | hc
  ·rw[CA] at e;cases e
  ·rw[CA] at hc;cases hc
 rcases hx with hk | hk
 ·refine wpAny_storeName_local hk hn (λh' NY hs=>?_) qe;obtain⟨oL,_,_,Jl,_⟩:=id hn;refine h _ ⟨I.ok,I.os,I.bare,⟨λb o e n hb hx=>?_,λb o e n hb hx=>?_,I.base.free,λb o e hx=>?_,I.base.tups,I.base.frzs,I.base.tbls⟩,⟨_,NY,λj y v' e1 e2 e3=>?_⟩,λy c e=>?_,I.free,I.dO,λp hp=>?_,tracked ⟨oL,Jl,I.free⟩ hs,by simpa using I.len⟩ ⟨_,hs,.inl rfl⟩
  ·exact(hs.2 b (Qu (Qk (P9 e) I.ok.above))).trans (I.base.keep b o e n hb hx)
  ·obtain⟨sl,e1⟩:=I.base.slot b o e n hb hx;exact⟨sl,(hs.2 b (Qu (Qk (P9 e) I.ok.above))).trans e1⟩
  ·obtain⟨o',e1⟩:=I.base.there b o e hx;exact⟨o',(hs.2 b (Qu (Qk (P9 e) I.ok.above))).trans e1⟩
  ·by_cases hj:j=i
   ·subst hj;rw[hi] at e1;cases e1;rw[QI hiσ] at e2;cases e2;exact⟨u,r,.inl ⟨hk,by simp⟩⟩
   ·rw[Qg (Ne.symm hj)] at e2;obtain⟨u',r',q⟩:=hl j y v' e1 e2 e3;refine⟨u',r',?_⟩;rcases q with ⟨k,e⟩ | ⟨k,c,e,z⟩
    ·refine .inl ⟨k,?_⟩;have:y≠x:=λe=>hj (kY hN e1 (e▸hi))
     simp[this,e]
    ·exact .inr ⟨k,c,e,z.sameBut hs (EG y c e)⟩
  ·obtain⟨w',z⟩:=I.cell y c e;exact⟨w',z.sameBut hs (EG y c e)⟩
  ·obtain⟨e,n,ne,nf,d⟩:=I.pin p hp;exact⟨(hs.2 p.1 ne).trans e,n,ne,nf,d⟩
 ·have wM:X.fn x=true:=by
   rcases hf with z | z
   ·exact z
   ·rw[z] at hk;cases hk
  obtain⟨c,hc⟩:=I.ok.has x (.inl hk);obtain⟨w',z⟩:=I.cell x c hc;refine wpAny_storeName_cell I.ok.kind hk hc z (λh' n9 hs=>?_);obtain⟨oc,Mb,Kv⟩:=id z;refine h {s with heap:=h'} ⟨I.ok,I.os,I.bare,⟨λb o e n hb hx=>?_,λb o e n hb hx=>?_,I.base.free,λb o e hx=>?_,I.base.tups,I.base.frzs,I.base.tbls⟩,⟨m,hn.sameBut hs (Ne.symm (EG x c hc)),λj y v' e1 e2 e3=>?_⟩,λy c' e=>?_,I.free,I.dO,λp hp=>?_,tracked ⟨oc,Mb,I.dO x c hc⟩ hs,by simpa using I.len⟩ ⟨c,hs,.inr hc⟩
  ·exact(hs.2 b (Qu (Qk (P9 e) (I.ok.D3 x c wM hc)))).trans (I.base.keep b o e n hb hx)
  ·obtain⟨sl,e1⟩:=I.base.slot b o e n hb hx;exact⟨sl,(hs.2 b (Qu (Qk (P9 e) (I.ok.D3 x c wM hc)))).trans e1⟩
  ·obtain⟨o',e1⟩:=I.base.there b o e hx;exact⟨o',(hs.2 b (Qu (Qk (P9 e) (I.ok.D3 x c wM hc)))).trans e1⟩
  ·by_cases hj:j=i
   ·subst hj;rw[hi] at e1;cases e1;rw[QI hiσ] at e2;cases e2;exact⟨u,r,.inr ⟨.inl hk,c,hc,n9⟩⟩
   ·rw[Qg (Ne.symm hj)] at e2;obtain⟨u',r',q⟩:=hl j y v' e1 e2 e3;refine⟨u',r',?_⟩;rcases q with q | ⟨k,c',e,z'⟩
    ·exact .inl q
    ·refine .inr ⟨k,c',e,z'.sameBut hs ?_⟩;rintro rfl;exact hj (kY hN e1 (I.ok.inj _ _ _ e hc▸hi))
  ·by_cases hcc:c'=c
   ·subst hcc;exact⟨_,n9⟩
   ·obtain⟨w2,z2⟩:=I.cell y c' e;exact⟨w2,z2.sameBut hs hcc⟩
  ·obtain⟨e,n,ne,nf,d⟩:=I.pin p hp;refine⟨(hs.2 p.1 ?_).trans e,n,ne,nf,d⟩;intro q;rw[q,Mb] at e;have q':oc=p.2:=Option.some.inj e;exact d w' (by rw[<-q'];exact Kv)
def pQ {M:Model} {A:Around} {E:Value->Shared->Prop} {i:Nat} {x:Str} {v:V} {u:Value} {Q:Unit->Shared->Prop} (I:Inv X pins σ H s) (hN:X.N.Nodup) (hi:X.N[i]?=some x) (hx:Loc X.env.scope x) (r:RelV v u)
  (h:∀s',Inv X pins (σ.set i (some v)) H s'->Q () s') (hf:X.fn x=true\/X.env.scope.names.lookup x=some .local:=by first | exact .inl rfl | exact .inr rfl | assumption):wpAny M A (storeName X.env x u) Q E s:=
 mI I hN hi hx r (λs' I' _=>h s' I') hf
def Inv.xc {s':Shared} {ch:List Addr} (I:Inv X pins σ H s) (ho:s'.os=s.os) (u:Un (fu X.stack) ch H H' s.heap s'.heap) (hok:eX X.prog X.w H' s'.heap) (hg:AllBare s'.gens)
  (zI:∀b∈ch,(b∈X.ex\/X.s₀.heap.objs.size<=b)/\b≠X.env.locals/\(∀x c,X.env.cells.lookup x=some c->c≠b)/\∀p∈X.pn++pins,p.1≠b):Inv X pins σ H' s':=by
 obtain⟨h',g',d',t',o'⟩:=s';have e:o'=s.os:=ho;subst e;exact I.call (g':=g') (t':=t') (d':=d') u hok hg zI
end
abbrev XK:=Value->Option Addr->Hp->Prop
abbrev St:=List (Option V)
abbrev VK:=V->Hp->Prop
abbrev TE:=St->Hp->VK->Prop
abbrev TT:=St->Hp->(Bool->Hp->Prop)->Prop
abbrev TA:=St->Hp->(List V->Hp->Prop)->Prop
structure Ends where
 nx:St->Hp->Prop
 rt:VK
 bk:St->Hp->Prop:=λ_ _=>False
 ct:St->Hp->Prop:=λ_ _=>False
abbrev TS:=Ends->St->Hp->Prop
def EP (X:Cx) (pins:List (Addr×Obj)) (σ:St) (Q:VK) (u:Value) (s':Shared):Prop:=∃v H',Inv X pins σ H' s'/\RelV v u/\Q v H'
def TP (X:Cx) (pins:List (Addr×Obj)) (σ:St) (Q:Bool->Hp->Prop) (b:Bool) (s':Shared):Prop:=∃H',Inv X pins σ H' s'/\Q b H'
def AP (X:Cx) (pins:List (Addr×Obj)) (σ:St) (Q:List V->Hp->Prop) (us:List Value) (s':Shared):Prop:=∃vs H',Inv X pins σ H' s'/\aw vs us/\Q vs H'
def SP (X:Cx) (pins:List (Addr×Obj)) (D:Ends) (f:Flow) (s':Shared):Prop:=
 match f with
 | .next=>∃σ' H',Inv X pins σ' H' s'/\D.nx σ' H'
 | .brk=>∃σ' H',Inv X pins σ' H' s'/\D.bk σ' H'
 | .cont=>∃σ' H',Inv X pins σ' H' s'/\D.ct σ' H'
 | .ret u=>∃v σ' H',Inv X pins σ' H' s'/\RelV v u/\D.rt v H'
def PE (X:Cx) (e:Expr) (t:TE):Prop:=
 ∀(pins:List (Addr×Obj)) (s:Shared) (σ:St) (H:Hp) (Q:VK),Inv X pins σ H s->t σ H Q->wpAny (model X.prog X.w) X.A (eval e X.env) (EP X pins σ Q) X.xe s
def PT (X:Cx) (e:Expr) (t:TT):Prop:=
 ∀(pins:List (Addr×Obj)) (s:Shared) (σ:St) (H:Hp) (Q:Bool->Hp->Prop),Inv X pins σ H s->t σ H Q->wpAny (model X.prog X.w) X.A (isTrue e X.env (eval e X.env)) (TP X pins σ Q) X.xe s
def PW (X:Cx) (e:Expr) (t:TT):Prop:=
 ∀(whole:Sem Value) (pins:List (Addr×Obj)) (s:Shared) (σ:St) (H:Hp) (Q:Bool->Hp->Prop),Inv X pins σ H s->t σ H Q->wpAny (model X.prog X.w) X.A (isTrue e X.env whole) (TP X pins σ Q) X.xe s
def PW.pt {X:Cx} {e:Expr} {t:TT} (h:PW X e t):PT X e t:=h _
def PA (X:Cx) (es:List Expr) (t:TA):Prop:=
 ∀(pos:Pos) (pins:List (Addr×Obj)) (s:Shared) (σ:St) (H:Hp) (Q:List V->Hp->Prop),Inv X pins σ H s->t σ H Q->wpAny (model X.prog X.w) X.A (spliced (backTo pos (starEach es X.env))) (AP X pins σ Q) X.xe s
def PS (X:Cx) (st:Stmt) (t:TS):Prop:=
 ∀(pins:List (Addr×Obj)) (s:Shared) (σ:St) (H:Hp) (D:Ends),Inv X pins σ H s->t D σ H->wpAny (model X.prog X.w) X.A (exec st X.env) (SP X pins D) X.xe s
def qL (X:Cx) (st:List Stmt) (t:TS):Prop:=
 ∀(pins:List (Addr×Obj)) (s:Shared) (σ:St) (H:Hp) (D:Ends),Inv X pins σ H s->t D σ H->wpAny (model X.prog X.w) X.A (execs st X.env) (SP X pins D) X.xe s
def bN {α:Type} {t:Sem α} {Q Q':α->Shared->Prop} {M:Model} {A:Around} {E:Value->Shared->Prop} {s:Shared} (h:wpAny M A t Q E s) (hQ:∀a s,Q a s->Q' a s):wpAny M A t Q' E s:=wpAny_mono h hQ λ_ _ x=>x
end L2
namespace L2
open PySem PySem.Spec PyProof.Rows
section
variable {X:Cx}
def bin {a b:Expr} {ta tb:TE} (ha:PE X a ta) (hb:PE X b tb) {pins:List (Addr×Obj)} {s:Shared} {σ:St} {H:Hp} {R:V->V->Hp->Prop} (I:Inv X pins σ H s) (h:ta σ H λx H1=>tb σ H1 λy H2=>R x y H2)
  {α:Type} {Q:α->Shared->Prop} {f:Value->Value->Sem α}
  (hf:∀v u s2 x y H2,Inv X pins σ H2 s2->RelV x v->RelV y u->R x y H2->wpAny (model X.prog X.w) X.A (f v u) Q X.xe s2):
  wpAny (model X.prog X.w) X.A (eval a X.env) (λv s₁=>wpAny (model X.prog X.w) X.A (eval b X.env) (λu s₂=>wpAny (model X.prog X.w) X.A (f v u) Q X.xe s₂) X.xe s₁) X.xe s:=by
 refine bN (ha pins s σ H _ I h) λv s1 ⟨x,H1,I1,r1,q1⟩=>?_
 refine bN (hb pins s1 σ H1 _ I1 q1) λu s2 ⟨y,H2,I2,r2,q2⟩=>?_
 exact hf v u s2 x y H2 I2 r1 r2 q2
def lI (i:Nat):TE:=λσ H Q=>∃v,σ[i]?=some (some v)/\Q v H
def tC (v:V):TE:=λ_ H Q=>Q v H
def wW {i:Nat} {x:Str} {pos:Pos} (hN:X.N[i]?=some x) (hv:FY X.env.scope x) (hd:(x==("__debug__":Str))=false:=by decide) (zM:(x==("__classdict__":Str))=false:=by decide):PE X (.Name x pos) (lI i):=by
 intro pins s σ H Q I h;obtain⟨v,e,h⟩:=h;obtain⟨m,hn,hl⟩:=I.loc;obtain⟨u,r,l⟩:=hl i x v hN e hv;have fin:EP X pins σ Q u s:=⟨v,H,I,r,h⟩;rcases l with ⟨hk,hm⟩ | ⟨hk,c,hc,Ck⟩
 ·exact wpAny_Name (wpAny_loadName_local I.ok.kind hk hn hm fin) hd
 ·rcases hk with hk | hk
  ·exact wpAny_Name (wpAny_loadName_cell I.ok.kind hk hc Ck fin) hd
  ·exact wpAny_Name (wpAny_loadName_free I.ok.kind hk hc Ck fin zM) hd
def DZ {i j pos}:PE X (.Constant (.int i) j pos) (tC (.int i)):=λ_ _ _ H _ I h=>wpAny_Constant_int ⟨.int i,H,I.tok _,⟨_,rfl⟩,h⟩
def Iy {b j pos}:PE X (.Constant (.bool b) j pos) (tC (.bl b)):=λ_ _ _ H _ I h=>Constant_bool ⟨.bl b,H,I,rfl,h⟩
def DM {j pos}:PE X (.Constant .none j pos) (tC .bo):=λ_ _ _ H _ I h=>Constant_none ⟨.bo,H,I,rfl,h⟩
def Ef {x j pos}:PE X (.Constant (.str x) j pos) (tC (.str x)):=λ_ _ _ H _ I h=>Calls.Constant_str ⟨.str x,H,I.tok _,⟨_,rfl⟩,h⟩
def Gl (X:Cx) (x:Str):Prop:=X.env.kindOf x=some .globalImplicit
def ub {E:Value->Shared->Prop} {pins:List (Addr×Obj)} {s:Shared} {σ:St} {H:Hp} {x:Str} {u:Value} {pos:Pos} {Q:Value->Shared->Prop} (I:Inv X pins σ H s) (hg:Gl X x) (hm:X.mg x=some u) (h:Q u s)
  (hd:(x==("__debug__":Str))=false:=by decide):wpAny (model X.prog X.w) X.A (eval (.Name x pos) X.env) Q E s:=
 Calls.Name_function_global I.ok.kind hg (Calls.loadGlobal_global (by rw[I.ok.glob];exact I.mod.glob.keeps I.bk) hm h) hd
def d5 {E:Value->Shared->Prop} {pins:List (Addr×Obj)} {s:Shared} {σ:St} {H:Hp} {x:Str} {u:Value} {pos:Pos} {Q:Value->Shared->Prop} (I:Inv X pins σ H s) (hg:Gl X x) (hm:X.mg x=none) (hv:bootBuiltins x=some u) (h:Q u s)
  (hn:x≠"__name__":=by decide) (hd:(x==("__debug__":Str))=false:=by decide):wpAny (model X.prog X.w) X.A (eval (.Name x pos) X.env) Q E s:=by
 obtain⟨mb,h1,h2⟩:=I.mod.blt;exact Calls.Name_function_global I.ok.kind hg (Calls.loadGlobal_builtin (by rw[I.ok.glob];exact I.mod.glob.keeps I.bk) hm (by rw[I.ok.blt];exact h1.keeps I.bk) ((h2 x hn).trans hv) h) hd
def AB {x:Str} {v:V} {u:Value} {pos:Pos} (hg:Gl X x) (hm:X.mg x=some u) (r:RelV v u) (hd:(x==("__debug__":Str))=false:=by decide):PE X (.Name x pos) (tC v):=
 λ_ _ _ H _ I h=>ub I hg hm ⟨v,H,I,r,h⟩ hd
def A4 {x:Str} {v:V} {u:Value} {pos:Pos} (hg:Gl X x) (hm:X.mg x=none) (hv:bootBuiltins x=some u) (r:RelV v u) (hn:x≠"__name__":=by decide) (hd:(x==("__debug__":Str))=false:=by decide):PE X (.Name x pos) (tC v):=
 λ_ _ _ H _ I h=>d5 I hg hm hv ⟨v,H,I,r,h⟩ hn hd
variable {a b:Expr} {ta tb:TE} {pos:Pos}
variable {tA IG:TT} {rest:List Expr}
def J1 (t u:TT):TT:=λσ H Q=>t σ H λc H1=>if c=true then u σ H1 Q else Q false H1
def OM (t u:TT):TT:=λσ H Q=>t σ H λc H1=>if c=true then Q true H1 else u σ H1 Q
def Lm (t:TT):TT:=λσ H Q=>t σ H λc H1=>Q (!c) H1
def A6 (ha:PT X a tA):PW X (.BoolOp .And [a] pos) tA:=by
 intro wh pins s σ H Q I h;refine isTrue_and (bN (ha pins s σ H Q I h) λc s1 e=>?_);cases c with
 | true=>exact isTrue_and_nil e
 | false=>exact e
def D7 (ha:PT X a tA):PW X (.BoolOp .Or [a] pos) tA:=by
 intro wh pins s σ H Q I h;refine isTrue_or (bN (ha pins s σ H Q I h) λc s1 e=>?_);cases c with
 | false=>exact isTrue_or_nil e
 | true=>exact e
def E9 (ha:PT X a tA) (hb:PW X (.BoolOp .And (b::rest) pos) IG):PW X (.BoolOp .And (a::b::rest) pos) (J1 tA IG):=by
 intro wh pins s σ H Q I h;refine isTrue_and (bN (ha pins s σ H _ I h) λc s1 ⟨H1,I1,q1⟩=>?_);cases c with
 | true=>exact hb wh pins s1 σ H1 Q I1 q1
 | false=>exact⟨H1,I1,q1⟩
def HL (ha:PT X a tA) (hb:PW X (.BoolOp .Or (b::rest) pos) IG):PW X (.BoolOp .Or (a::b::rest) pos) (OM tA IG):=by
 intro wh pins s σ H Q I h;refine isTrue_or (bN (ha pins s σ H _ I h) λc s1 ⟨H1,I1,q1⟩=>?_);cases c with
 | true=>exact⟨H1,I1,q1⟩
 | false=>exact hb wh pins s1 σ H1 Q I1 q1
def ED (ha:PT X a tA):PT X (.UnaryOp .Not a pos) (Lm tA):=by intro pins s σ H Q I h;exact isTrue_not (ha pins s σ H (λc H1=>Q (!c) H1) I h)
def Ip (ta tb:TE):TE:=λσ H Q=>ta σ H λx H1=>∃c,x= .bl c/\if c=true then tb σ H1 Q else Q (.bl false) H1
def LS (ta tb:TE):TE:=λσ H Q=>ta σ H λx H1=>∃c,x= .bl c/\if c=true then Q (.bl true) H1 else tb σ H1 Q
def FZ (ta:TE):TE:=λσ H Q=>ta σ H λx H1=>∃c,x= .bl c/\Q (.bl (!c)) H1
def Dz {op} {t:TE} (h:PE X a t):PE X (.BoolOp op [a] pos) t:=λpins s σ H Q I hw=>BoolOp_one (h pins s σ H Q I hw)
def E6 (ha:PE X a ta) (hb:PE X (.BoolOp .And (b::rest) pos) tb):PE X (.BoolOp .And (a::b::rest) pos) (Ip ta tb):=by
 intro pins s σ H Q I h;refine BoolOp_and (bN (ha pins s σ H _ I h) λv s1 ⟨x,H1,I1,r1,q1⟩=>?_);obtain⟨c,rfl,q1⟩:=q1;cases r1;refine wpAny_truthy_bool ?_;cases c with
 | true=>exact hb pins s1 σ H1 Q I1 q1
 | false=>exact⟨.bl false,H1,I1,rfl,q1⟩
def HB (ha:PE X a ta) (hb:PE X (.BoolOp .Or (b::rest) pos) tb):PE X (.BoolOp .Or (a::b::rest) pos) (LS ta tb):=by
 intro pins s σ H Q I h;refine BoolOp_or (bN (ha pins s σ H _ I h) λv s1 ⟨x,H1,I1,r1,q1⟩=>?_);obtain⟨c,rfl,q1⟩:=q1;cases r1;refine wpAny_truthy_bool ?_;cases c with
 | false=>exact hb pins s1 σ H1 Q I1 q1
 | true=>exact⟨.bl true,H1,I1,rfl,q1⟩
def DC (ha:PE X a ta):PE X (.UnaryOp .Not a pos) (FZ ta):=by intro pins s σ H Q I h;refine UnaryOp_ (bN (ha pins s σ H _ I h) λv s1 ⟨x,H1,I1,r1,q1⟩=>?_);obtain⟨c,rfl,q1⟩:=q1;cases r1;exact not_of (wpAny_truthy_bool ⟨.bl (!c),H1,I1,rfl,q1⟩)
end
end L2
namespace L2
open PySem PySem.Spec PyProof.Rows
def d9 (K:PySem.W.Frag) (H:Hp) (a:Addr) (xs:List V):Prop:=
 Rd H a (.lst xs)\/
  ∃(o:Obj) (its:Array Value) (n:Nat),K.lookup a=some o/\o.cls= .type "list"/\o.dict=none/\o.data= .seq its n/\its.size<=sizeLine/\aw xs its.toList
def eW (K:PySem.W.Frag) (H:Hp) (a:Addr) (xs:List V):Prop:=
 Rd H a (.tup xs)\/
  ∃(o:Obj) (its:Array Value) (n:Nat),K.lookup a=some o/\o.cls= .type "tuple"/\o.data= .seq its n/\its.size<=sizeLine/\aw xs its.toList
def F8:Value->Option V
 | .none=>some .bo
 | .bool b=>some (.bl b)
 | .int i _=>some (.int i)
 | .str x _=>some (.str x)
 | .bytes b _=>some (.Fu b)
 | .float b _=>some (.Av b)
 | .ref a=>some (.ref a)
 | .type n=>some (.ty n)
 | _=>none
def RelV.abs {x:V} {u:Value} (r:RelV x u):F8 u=some x:=by grind [V,RelV,F8]
def RelV.inj {x y:V} {u:Value} (r:RelV x u) (q:RelV y u):x=y:=Option.some.inj (r.abs.symm.trans q.abs)
def aw.inj:∀{xs ys:List V} {us:List Value},aw xs us->aw ys us->xs=ys
 | _,_,_,.nil,.nil=>rfl
 | _,_,_,.cons r t,.cons r' t'=>by rw[r.inj r',aw.inj t t']
section
variable {X:Cx} {pins:List (Addr×Obj)} {σ:St} {H:Hp} {s:Shared} {a:Addr} {xs ys:List V}
def d9.of {K:PySem.W.Frag} (h:H a=some (.lst xs)):d9 K H a xs:= .inl (.inl h)
def eW.of {K:PySem.W.Frag} (h:H a=some (.tup xs)):eW K H a xs:= .inl (.inl h)
def Inv.list (I:Inv X pins σ H s) (h:d9 X.K H a xs):∃its:List Value,aw xs its/\PlainL s.heap a its.toArray/\xs.length<=sizeLine:=by
 rcases h with h | ⟨o,its,n,hk,hc,hd,hs,hz,r⟩
 ·obtain⟨z,its,n,r,e⟩:=h.ok I.hok;exact⟨its,r,⟨_,n,e,rfl,rfl,rfl⟩,z⟩
 ·refine⟨its.toList,r,⟨o,n,I.p5 a o hk,hc,hd,by simpa using hs⟩,?_⟩;have e:=r.length;simp only[Qj] at e;omega
def Inv.tuple (I:Inv X pins σ H s) (h:eW X.K H a xs):∃its:List Value,aw xs its/\IsTup s.heap a its.toArray/\xs.length<=sizeLine:=by
 rcases h with h | ⟨o,its,n,hk,hc,hs,hz,r⟩
 ·obtain⟨z,its,r,p⟩:=h.ok I.hok;exact⟨its,r,p,z⟩
 ·refine⟨its.toList,r,⟨o,I.p5 a o hk,hc,n,by simpa using hs⟩,?_⟩;have e:=r.length;simp only[Qj] at e;omega
def Inv.wC (I:Inv X pins σ H s) (h:d9 X.K H a xs) (h':d9 X.K H a ys):xs=ys:=by
 obtain⟨its,r,⟨o,n,e,_,_,d⟩,_⟩:=I.list h;obtain⟨its',r',⟨o',n',e',_,_,d'⟩,_⟩:=I.list h';rw[e] at e';cases e';rw[d] at d';injection d' with d1 _;have:its=its':=by simpa using congrArg Array.toList d1
 subst this;exact r.inj r'
def Inv.vV (I:Inv X pins σ H s) (h:eW X.K H a xs) (h':eW X.K H a ys):xs=ys:=by
 obtain⟨its,r,⟨o,e,_,n,d⟩,_⟩:=I.tuple h;obtain⟨its',r',⟨o',e',_,n',d'⟩,_⟩:=I.tuple h';rw[e] at e';cases e';rw[d] at d';injection d' with d1 _;have:its=its':=by simpa using congrArg Array.toList d1
 subst this;exact r.inj r'
end
abbrev Cx.dM (X:Cx) (E:Value->Shared->Prop):Cx:={X with xe:=E}
def Cx.Ok.dM {X:Cx} (ok:X.Ok) (E:Value->Shared->Prop):(X.dM E).Ok:=
 ⟨ok.mod,ok.kind,ok.glob,ok.blt,ok.above,ok.inj,ok.has,ok.D3,ok.hd,ok.frames,ok.Fy,ok.Ii,ok.bs,ok.BV,ok.qU,ok.vL,ok.k9,ok.Fp⟩
def Cx.Ok.eV {X:Cx} {E:Value->Shared->Prop} (ok:(X.dM E).Ok):X.Ok:=
 ⟨ok.mod,ok.kind,ok.glob,ok.blt,ok.above,ok.inj,ok.has,ok.D3,ok.hd,ok.frames,ok.Fy,ok.Ii,ok.bs,ok.BV,ok.qU,ok.vL,ok.k9,ok.Fp⟩
section
variable {X:Cx} {pins:List (Addr×Obj)} {σ:St} {H:Hp} {s:Shared} {E:Value->Shared->Prop}
def Inv.dM (I:Inv X pins σ H s) (E:Value->Shared->Prop):Inv (X.dM E) pins σ H s:=⟨I.ok.dM E,I.os,I.bare,I.base,I.loc,I.cell,I.free,I.dO,I.pin,I.hok,I.len⟩
def Inv.eV (I:Inv (X.dM E) pins σ H s):Inv X pins σ H s:=⟨I.ok.eV,I.os,I.bare,I.base,I.loc,I.cell,I.free,I.dO,I.pin,I.hok,I.len⟩
def SP.eV {D:Ends} {f:Flow} {s':Shared} (h:SP (X.dM E) pins D f s'):SP X pins D f s':=by
 cases f with
 | next=>obtain⟨σ',H',I,q⟩:=h;exact⟨σ',H',I.eV,q⟩
 | brk=>obtain⟨σ',H',I,q⟩:=h;exact⟨σ',H',I.eV,q⟩
 | cont=>obtain⟨σ',H',I,q⟩:=h;exact⟨σ',H',I.eV,q⟩
 | ret u=>obtain⟨v,σ',H',I,r,q⟩:=h;exact⟨v,σ',H',I.eV,r,q⟩
end
section
variable {X:Cx} {st:Stmt} {rest:List Stmt} {t u:TS} {e:Expr} {te:TE} {pos:Pos}
def ze:TS:=λD σ H=>D.nx σ H
def JA (t u:TS):TS:=λD σ H=>t {D with nx:=u D} σ H
def By:qL X [] ze:=λ_ _ σ H _ I h=>wpAny_execs_nil ⟨σ,H,I,h⟩
def xi (h1:PS X st t) (h2:qL X rest u):qL X (st::rest) (JA t u):=by
 intro pins s σ H D I h;refine wpAny_execs_cons (bN (h1 pins s σ H {D with nx:=u D} I h) λf s1 q=>?_);cases f with
 | next=>obtain⟨σ',H',I',q⟩:=q;exact h2 pins s1 σ' H' D I' q
 | ret v=>exact q
 | brk=>exact q
 | cont=>exact q
def wV:TS:=λD σ H=>D.bk σ H
def BX:TS:=λD σ H=>D.ct σ H
def Ag:PS X (.Pass pos) ze:=λ_ _ σ H _ I h=>wpAny_Pass ⟨σ,H,I,h⟩
def xI:PS X (.Break pos) wV:=λ_ _ σ H _ I h=>wpAny_Break ⟨σ,H,I,h⟩
def pU:PS X (.Continue pos) BX:=λ_ _ σ H _ I h=>wpAny_Continue ⟨σ,H,I,h⟩
def Inv.quiet {pins:List (Addr×Obj)} {σ:St} {H:Hp} {s:Shared} (I:Inv X pins σ H s):interactive X.env=false:=by simp[interactive,I.ok.kind]
def qp (te:TE):TS:=λD σ H=>te σ H λ_ H1=>D.nx σ H1
def jI (he:PE X e te) (hs:swapsWith e none pos.line X.env=pure false:=by rfl):PS X (.Expr e pos) (qp te):=by intro pins s σ H D I h;exact wpAny_Expr_any (bN (he pins s σ H _ I h) λv s1 ⟨x,H1,I1,r1,q1⟩=>⟨σ,H1,I1,q1⟩) I.quiet hs
def Dv (te:TE):TS:=λD σ H=>te σ H D.rt
def rD (he:PE X e te):PS X (.Return (some e) pos) (Dv te):=by intro pins s σ H D I h;exact wpAny_Return_some (bN (he pins s σ H _ I h) λv s1 ⟨x,H1,I1,r1,q1⟩=>⟨x,σ,H1,I1,r1,q1⟩)
def Cc:TS:=λD _ H=>D.rt .bo H
def AU:PS X (.Return none pos) Cc:=λ_ _ σ H _ I h=>wpAny_Return_none ⟨.bo,σ,H,I,rfl,h⟩
def HQ (c:TT) (t u:TS):TS:=λD σ H=>c σ H λb H1=>if b=true then t D σ H1 else u D σ H1
def G2 {c:Expr} {a b:List Stmt} {tc:TT} (hc:PT X c tc) (ha:qL X a t) (hb:qL X b u):PS X (.If c a b pos) (HQ tc t u):=by
 intro pins s σ H D I h;refine wpAny_If (bN (hc pins s σ H _ I h) λd s1 ⟨H1,I1,q1⟩=>?_);cases d with
 | true=>exact ha pins s1 σ H1 D I1 q1
 | false=>exact hb pins s1 σ H1 D I1 q1
end
abbrev TG:=V->St->Hp->(St->Hp->Prop)->Prop
abbrev zC:=List V->St->Hp->(St->Hp->Prop)->Prop
def PG (X:Cx) (target:Expr) (t:TG):Prop:=
 ∀(pins:List (Addr×Obj)) (s:Shared) (σ:St) (H:Hp) (v:V) (u:Value) (Q:St->Hp->Prop),Inv X pins σ H s->RelV v u->t v σ H Q->
  wpAny (model X.prog X.w) X.A (assign target X.env u) (λ_ s'=>∃σ' H',Inv X pins σ' H' s'/\Q σ' H') X.xe s
def Hu (X:Cx) (ts:List Expr) (t:zC):Prop:=
 ∀(pins:List (Addr×Obj)) (s:Shared) (σ:St) (H:Hp) (vs:List V) (us:List Value) (Q:St->Hp->Prop),Inv X pins σ H s->aw vs us->t vs σ H Q->
  wpAny (model X.prog X.w) X.A (assignInOrder ((assignEach ts X.env).map (·.2)) us) (λ_ s'=>∃σ' H',Inv X pins σ' H' s'/\Q σ' H') X.xe s
abbrev C5:=V->V->V->Hp->(Hp->Prop)->Prop
def HA (X:Cx) (t:C5):Prop:=
 ∀(pins:List (Addr×Obj)) (s:Shared) (σ:St) (H:Hp) (o i v:V) (ov iv u:Value) (Q:Hp->Prop),Inv X pins σ H s->RelV o ov->RelV i iv->RelV v u->t o i v H Q->
  wpAny (model X.prog X.w) X.A (setItem ov iv u) (λ_ s'=>∃H',Inv X pins σ H' s'/\Q H') X.xe s
section
variable {X:Cx} {pos:Pos}
def eB (i:Nat):TG:=λv σ H Q=>Q (σ.set i (some v)) H
theorem Ah {i:Nat} {x:Str} (hN:X.N.Nodup) (hi:X.N[i]?=some x) (hx:Loc X.env.scope x) (hf:X.fn x=true\/X.env.scope.names.lookup x=some .local:=by first | exact .inl rfl | exact .inr rfl | assumption):PG X (.Name x pos) (eB i):=by intro pins s σ H v u Q I r h;exact wpAny_assign_Name (pQ I hN hi hx r (λs' I'=>⟨_,H,I',h⟩) hf)
def De:zC:=λvs σ H Q=>vs=[]/\Q σ H
def xC (t:TG) (u:zC):zC:=λvs σ H Q=>∃v r,vs=v::r/\t v σ H λσ' H'=>u r σ' H' Q
def Bu:Hu X [] De:=by intro pins s σ H vs us Q I r h;obtain⟨e,h⟩:=h;subst e;cases r;exact assignInOrder_nil ⟨σ,H,I,h⟩
def yD {e:Expr} {es:List Expr} {t:TG} {u:zC} (h1:PG X e t) (h2:Hu X es u)
  (hs:(assignEach (e::es) X.env).map (·.2)=assign e X.env::(assignEach es X.env).map (·.2):=by rfl):Hu X (e::es) (xC t u):=by
 intro pins s σ H vs us Q I r h;obtain⟨v,vr,e1,h⟩:=h;subst e1;cases r with
 | cons r rr=>rw[hs];refine assignInOrder_cons (bN (h1 pins s σ H _ _ _ I r h) λ_ s1 ⟨σ1,H1,I1,q1⟩=>?_);exact h2 pins s1 σ1 H1 _ _ Q I1 rr q1
def E0 (K:PySem.W.Frag) (n:Nat) (t:zC):TG:=λv σ H Q=>∃a xs,v= .ref a/\eW K H a xs/\xs.length=n/\t xs σ H Q
def Dd {es:List Expr} {k:Nat} {t:zC} {n:Nat} (hc:X.calm=true) (h:Hu X es t)
  (hn:(assignEach es X.env).length=n:=by rfl) (lF:(assignEach es X.env).findIdx? (·.1)=none:=by rfl):PG X (.Tuple es k pos) (E0 X.K n t):=by
 intro pins s σ H v u Q I r hw;obtain⟨a,xs,e1,hq,hl,hw⟩:=hw;subst e1;cases r;obtain⟨its,rv,ht,hz⟩:=I.tuple hq;refine assign_Tuple_tuple (I.ok.hd hc) ht (by simp[hn,<-hl,rv.length]) lF λh' hx=>?_
 have I1:Inv X pins σ H {s with heap:=h'}:=I.kept (t':=s.toks) λb o e=>hx b o (Qu (P9 e)) e
 exact h pins _ σ H xs _ Q I1 (by simpa using rv) hw
def HG (to ti:TE) (t:C5):TG:=λv σ H Q=>to σ H λo H1=>ti σ H1 λi H2=>t o i v H2 λH3=>Q σ H3
def DL {o i:Expr} {to ti:TE} {t:C5} (ho:PE X o to) (hi:PE X i ti) (hs:HA X t)
  (ha:∀v,assign (.Subscript o i pos) X.env v=(do
   let ov<-holding [v] (eval o X.env)
   let iv<-holding [v,ov] (eval i X.env)
   standAt pos
   holding [v,ov,iv] (setItem ov iv v)
   release [v,ov,iv] []):=by intro _;rfl):PG X (.Subscript o i pos) (HG to ti t):=by
 intro pins s σ H v u Q I r h;rw[ha];refine PP (wpAny_holding (bN (ho pins s σ H _ I h) λov s1 ⟨x,H1,I1,r1,q1⟩=>?_));refine PP (wpAny_holding (bN (hi pins s1 σ H1 _ I1 q1) λiv s2 ⟨y,H2,I2,r2,q2⟩=>?_));refine PP (wpAny_standAt (PP (wpAny_holding (bN (hs pins s2 σ H2 x y v ov iv u _ I2 r1 r2 r q2) λ_ s3 ⟨H3,I3,q3⟩=>?_))));exact wpAny_release ⟨σ,H3,I3,q3⟩
def se (te:TE) (g:TG):TS:=λD σ H=>te σ H λx H1=>g x σ H1 D.nx
def CH {tg e:Expr} {te:TE} {g:TG} (he:PE X e te) (hg:PG X tg g) (hs:swapsWithSole [tg] e pos.line X.env=pure false:=by rfl) (hw:swappedStores [tg] e X.env=pure none:=by rfl)
  (h1:(assignEach [tg] X.env).map (·.2)=[assign tg X.env]:=by rfl):PS X (.Assign [tg] e pos) (se te g):=by
 intro pins s σ H D I h;refine wpAny_Assign_stores (bN (he pins s σ H _ I h) λv s1 ⟨x,H1,I1,r1,q1⟩=>?_) hs hw;rw[h1];exact bN (hg pins s1 σ H1 x v _ I1 r1 q1) λ_ s2 q=>q
def y7 {i:Nat} {x:Str} {e:Expr} {te:TE} {pos':Pos} (hN:X.N.Nodup) (hi:X.N[i]?=some x) (hx:Loc X.env.scope x) (he:PE X e te) (hs:swapsWith e (some (.Name x pos')) pos.line X.env=pure false:=by rfl) (hf:X.fn x=true\/X.env.scope.names.lookup x=some .local:=by first | exact .inl rfl | exact .inr rfl | assumption):
  PS X (.Assign [.Name x pos'] e pos) (se te (eB i)):=by
 intro pins s σ H D I h;refine wpAny_Assign_Name (bN (he pins s σ H _ I h) λv s1 ⟨y,H1,I1,r1,q1⟩=>?_) hs;exact pQ I1 hN hi hx r1 (λs2 I2=>⟨_,H1,I2,q1⟩) hf
end
structure It where
 go:Nat->Hp->Prop
 yld:Nat->Hp->V->Hp->Prop
 stop:Nat->Hp->Prop
def gh (X:Cx) (pins:List (Addr×Obj)) (H:Hp) (b:Addr):Prop:=
 H b=none/\b≠X.env.locals/\b∉X.fs/\(b∈X.ex\/X.s₀.heap.objs.size<=b)/\(∀x c,X.env.cells.lookup x=some c->c≠b)/\∀p∈X.pn++pins,p.1≠b
def Inv.qh {X:Cx} {pins:List (Addr×Obj)} {σ:St} {H H':Hp} {s:Shared} {b:Addr} (I:Inv X pins σ H s) (hb:s.heap.objs.size<=b) (hn:H' b=none):gh X pins H' b:=by
 refine⟨hn,Nat.ne_of_gt (Qk I.lt hb),I.L7 hb,.inr (Qa I.sz hb),λx c e z=>?_,λp hp z=>?_⟩
 ·obtain⟨v,q⟩:=I.cell x c e;exact absurd (Qk q.lt (by rw[z];exact hb)) (Nat.lt_irrefl _)
 ·exact absurd (Qk (P9 (I.pin p hp).1) (by rw[z];exact hb)) (Nat.lt_irrefl _)
structure Turn (P:Program) (w:World) (K:PySem.W.Frag) (tg:Expr) (J:It) (fp:List Addr) (it:Addr) (tn:Nat->Heap->Prop):Prop where
 mem:it∈fp
 obj:∀i h,tn i h->∀b∈fp,∃o,h.get? b=some o/\∀v,o.data≠ .cell v
 keep:∀i h h',tn i h->(∀b∈fp,∀o,h.get? b=some o->h'.get? b=some o)->tn i h'
 item:∀(X:Cx),X.prog=P->X.w=w->X.K=K->X.calm=true->∀(i:Nat) (pins:List (Addr×Obj)) (s:Shared) (σ:St) (H:Hp) (E:Value->Shared->Prop),Inv X pins σ H s->(∀b∈fp,gh X pins H b)->tn i s.heap->J.go i H->
  wpAny (model P w) X.A (pyNext (.ref it)) (λr s1=>∃u,r=some u/\
   wpAny (model P w) X.A (letOwnedTupleGo tg (.ref it) u) (λ_ s2=>∃x H',Inv X pins σ H' s2/\RelV x u/\J.yld i H x H'/\tn (i + 1) s2.heap/\∀b∈fp,H' b=none) E s1) E s
 done:∀(X:Cx),X.prog=P->X.w=w->X.K=K->X.calm=true->∀(i:Nat) (pins:List (Addr×Obj)) (s:Shared) (σ:St) (H:Hp) (E:Value->Shared->Prop),Inv X pins σ H s->(∀b∈fp,gh X pins H b)->tn i s.heap->J.stop i H->
  wpAny (model P w) X.A (pyNext (.ref it)) (λr s1=>r=none/\Inv X pins σ H s1) E s
 self:∀(A:Around) (i:Nat) (s:Shared) (Q:Value->Shared->Prop) (E:Value->Shared->Prop),tn i s.heap->Q (.ref it) s->wpAny (model P w) A (pyIter (.ref it)) Q E s
abbrev TI:=St->Hp->(It->Hp->Prop)->Prop
def M1 (X:Cx) (pins:List (Addr×Obj)) (σ:St) (tg:Expr) (R:It->Hp->Prop) (oK:Value) (s2:Shared):Prop:=
 ∃(it:Addr) (fp:List Addr) (tn:Nat->Heap->Prop) (J:It) (H':Hp),oK= .ref it/\Inv X pins σ H' s2/\Turn X.prog X.w X.K tg J fp it tn/\tn 0 s2.heap/\(∀b∈fp,gh X pins H' b)/\R J H'
def PI (X:Cx) (tg iter:Expr) (wi:TI):Prop:=
 ∀(pins:List (Addr×Obj)) (s:Shared) (σ:St) (H:Hp) (R:It->Hp->Prop),Inv X pins σ H s->wi σ H R->
  wpAny (model X.prog X.w) X.A (eval iter X.env) (λv s1=>wpAny (model X.prog X.w) X.A (pyIter v) (M1 X pins σ tg R) X.xe s1) X.xe s
def yz {M:Model} {A:Around} {E:Value->Shared->Prop} {s:Shared} {tg:Expr} {it:Addr} {u:Value} {o:Obj} {n:String} {vs:Array Value} {Q:Unit->Shared->Prop} (ho:s.heap.get? it=some o) (hc:o.cls= .type n) (hd:o.data= .fields vs)
  (hn:["enumerate","zip","dict_itemiterator","dict_reverseitemiterator","odict_iterator","itertools.zip_longest","itertools.pairwise"].contains n=false) (hQ:Q () s):wpAny M A (letOwnedTupleGo tg (.ref it) u) Q E s:=by
 unfold letOwnedTupleGo;cases tg <;> first
  | exact PV hQ
  | (cases u <;> first
    | exact PV hQ
    | (refine PP (wpAny_load ho ?_);rw[hc,hd];show wpAny M A (if (["enumerate","zip","dict_itemiterator","dict_reverseitemiterator","odict_iterator","itertools.zip_longest","itertools.pairwise"].contains n&&vs[0]?==some (rawInt _))=true then _ else _) Q E s;rw[if_neg (by intro h;rw[hn,Bool.false_and] at h;cases h)];exact PV hQ))
def IQ (K:PySem.W.Frag) (a:Addr):It:=
 ⟨λi H=>∃xs x,d9 K H a xs/\xs[i]?=some x,λi H x H'=>H'=H/\∀xs,d9 K H a xs->xs[i]?=some x,λi H=>∃xs,d9 K H a xs/\xs.length<=i⟩
def KG (K:PySem.W.Frag) (a:Addr):It:=
 ⟨λi H=>∃xs x,eW K H a xs/\xs[i]?=some x,λi H x H'=>H'=H/\∀xs,eW K H a xs->xs[i]?=some x,λi H=>∃xs,eW K H a xs/\xs.length<=i⟩
def Jq (lo:Int) (n:Nat):It:=⟨λi _=>i < n,λi H x H'=>H'=H/\x= .int (lo + i),λi _=>n<=i⟩
def ve {P:Program} {w:World} {K:PySem.W.Frag} {tg:Expr} (a it:Addr):Turn P w K tg (IQ K a) [it] it (λi h=>h.IsListIter it a i) where
 mem:=by simp
 obj:=λi h st b hb=>by
  have e:b=it:=by simpa using hb
  subst e;obtain⟨o,e,c,d⟩:=st;exact⟨o,e,λv z=>by rw[d] at z;cases z⟩
 keep:=λi h h' st k=>st.at λo e=>k it (by simp) o e
 item:=by
  intro X hP hw hK hc i pins s σ H E I hf st hg;subst hP hw hK;obtain⟨xs,x,hq,hx⟩:=hg;obtain⟨its,rv,p,hz⟩:=I.list hq;obtain⟨u,hu,ru⟩:=rv.get hx;obtain⟨f0,f1,f2,f3,f4,f5⟩:=hf it (by simp);refine wpAny_pyNext_list_item st p.isList (x:=u) (by simpa using hu) λh' ai sb=>?_
  have I1:Inv X pins σ H {s with heap:=h'}:=I.turned (t':=s.toks) (λb o hb e=>(sb.2 b hb).trans e) f0 f1 f3 f4 f5;obtain⟨o,e,c,d⟩:=id ai;exact⟨u,rfl,yz (s:={s with heap:=h'}) e c d (by decide) ⟨x,H,I1,ru,⟨rfl,λys hy=>by rw[I.wC hy hq];exact hx⟩,ai,λb hb=>(hf b hb).1⟩⟩
 done:=by intro X hP hw hK hc i pins s σ H E I hf st hg;subst hP hw hK;obtain⟨xs,hq,hx⟩:=hg;obtain⟨its,rv,p,hz⟩:=I.list hq;obtain⟨f0,f1,f2,f3,f4,f5⟩:=hf it (by simp);have hl:=rv.length;exact wpAny_pyNext_list_end (I.ok.hd hc) st p.isList (by simp;omega) λh' eb=>⟨rfl,I.turned (t':=s.toks) (λb o hb e=>eb b o hb e) f0 f1 f3 f4 f5⟩
 self:=λ_ _ _ _ _ st h=>wpAny_pyIter_listiter st h
def sr {P:Program} {w:World} {K:PySem.W.Frag} {tg:Expr} (a it:Addr):Turn P w K tg (KG K a) [it] it (λi h=>h.IsTupleIter it a i) where
 mem:=by simp
 obj:=λi h st b hb=>by
  have e:b=it:=by simpa using hb
  subst e;obtain⟨o,e,c,d⟩:=st;exact⟨o,e,λv z=>by rw[d] at z;cases z⟩
 keep:=λi h h' st k=>st.at λo e=>k it (by simp) o e
 item:=by
  intro X hP hw hK hc i pins s σ H E I hf st hg;subst hP hw hK;obtain⟨xs,x,hq,hx⟩:=hg;obtain⟨its,rv,p,hz⟩:=I.tuple hq;obtain⟨u,hu,ru⟩:=rv.get hx;obtain⟨f0,f1,f2,f3,f4,f5⟩:=hf it (by simp);refine wpAny_pyNext_tuple_item st (show s.heap.IsTuple a its.toArray from p) (x:=u) (by simpa using hu) λh' ai sb=>?_
  have I1:Inv X pins σ H {s with heap:=h'}:=I.turned (t':=s.toks) (λb o hb e=>(sb.2 b hb).trans e) f0 f1 f3 f4 f5;obtain⟨o,e,c,d⟩:=id ai;exact⟨u,rfl,yz (s:={s with heap:=h'}) e c d (by decide) ⟨x,H,I1,ru,⟨rfl,λys hy=>by rw[I.vV hy hq];exact hx⟩,ai,λb hb=>(hf b hb).1⟩⟩
 done:=by intro X hP hw hK hc i pins s σ H E I hf st hg;subst hP hw hK;obtain⟨xs,hq,hx⟩:=hg;obtain⟨its,rv,p,hz⟩:=I.tuple hq;obtain⟨f0,f1,f2,f3,f4,f5⟩:=hf it (by simp);have hl:=rv.length;exact wpAny_pyNext_tuple_end (I.ok.hd hc) st (show s.heap.IsTuple a its.toArray from p) (by simp;omega) λh' eb=>⟨rfl,I.turned (t':=s.toks) (λb o hb e=>eb b o hb e) f0 f1 f3 f4 f5⟩
 self:=λ_ _ _ _ _ st h=>wpAny_pyIter_tupleiter st h
def rh {P:Program} {w:World} {K:PySem.W.Frag} {tg:Expr} (it:Addr) (lo:Int) (n:Nat):Turn P w K tg (Jq lo n) [it] it (λi h=>IsRangeIter h it (lo + (i:Nat) * 1) ((n:Int) - (i:Nat)) 1) where
 mem:=by simp
 obj:=λi h st b hb=>by
  have e:b=it:=by simpa using hb
  subst e;exact⟨_,st,λv z=>by
   have z':Data.fields _=Data.cell v:=z;cases z'⟩
 keep:=λi h h' st k=>k it (by simp) _ st
 item:=by
  intro X hP hw hK hc i pins s σ H E I hf st hg;subst hP hw hK;obtain⟨f0,f1,f2,f3,f4,f5⟩:=hf it (by simp);have W:=Walks.range (prog:=X.prog) (w:=X.w) (I.ok.hd hc) it lo 1 n;refine W.item i s _ _ hg st λv h' tk hv ai kk=>?_
  obtain⟨t,rfl⟩:=hv;have I1:Inv X pins σ H {s with heap:=h',toks:=tk}:=I.turned (λb o hb e=>kk b o (by simpa using hb) e) f0 f1 f3 f4 f5;refine⟨_,rfl,yz (s:={s with heap:=h',toks:=tk}) (n:="range_iterator") ai rfl rfl (by decide) ⟨.int (lo + i),H,I1,⟨t,?_⟩,⟨rfl,rfl⟩,ai,λb hb=>(hf b hb).1⟩⟩;rw[Int.mul_one]
 done:=by intro X hP hw hK hc i pins s σ H E I hf st hg;subst hP hw hK;obtain⟨f0,f1,f2,f3,f4,f5⟩:=hf it (by simp);exact wpAny_pyNext_range_end (I.ok.hd hc) st (by have:n<=i:=hg;omega) λh' eb=>⟨rfl,I.turned (t':=s.toks) (λb o hb e=>eb b o hb e) f0 f1 f3 f4 f5⟩
 self:=λ_ _ _ _ _ st h=>wpAny_pyIter_rangeiter st h
end L2
namespace L2
open PySem PySem.Spec PyProof.Rows
section
variable {X:Cx} {tg:Expr}
def wy {pins:List (Addr×Obj)} {σ:St} {H:Hp} {s:Shared} {R:It->Hp->Prop} {E:Value->Shared->Prop} {lo hi:Int} {t u v:Tok} {tk:Nat} (I:Inv X pins σ H s) (h1: -(2 ^ 62)<=lo) (h2:lo < 2 ^ 62) (h3: -(2 ^ 62)<=hi) (h4:hi < 2 ^ 62)
  (q:R (Jq lo (hi - lo).toNat) H):wpAny (model X.prog X.w) X.A (pyIter (.ref s.heap.objs.size)) (M1 X pins σ tg R) E {s with heap:=s.heap.push {cls:= .type "range",data:= .fields #[.int lo t,.int hi u,.int 1 v]},toks:=tk}:=by
 refine wpAny_pyIter_range (IsRange.new ..) (small_one h1 h2 h3 h4) ?_;have I1:Inv X pins σ H {s with heap:=s.heap.push {cls:= .type "range",data:= .fields #[.int lo t,.int hi u,.int 1 v]},toks:=tk}:=I.kept λb o e=>PU _ e
 refine⟨(s.heap.push {cls:= .type "range",data:= .fields #[.int lo t,.int hi u,.int 1 v]}).objs.size,[(s.heap.push {cls:= .type "range",data:= .fields #[.int lo t,.int hi u,.int 1 v]}).objs.size],_,_,H,rfl,
  I1.kept (t':=tk) λb o e=>PU _ e,rh _ lo (hi - lo).toNat,?_,λb hb=>?_,q⟩
 ·have e1:lo + ((0:Nat):Int) * 1=lo:=by simp
  have e2:(((hi - lo).toNat:Nat):Int) - ((0:Nat):Int)=Builtin.Range.rangeSize lo hi 1:=by rw[rangeSize_one];split <;> omega
  show IsRangeIter _ _ (lo + ((0:Nat):Int) * 1) ((((hi - lo).toNat:Nat):Int) - ((0:Nat):Int)) 1;rw[e1,e2];exact P6 _ rfl
 ·have e:b=(s.heap.push {cls:= .type "range",data:= .fields #[.int lo t,.int hi u,.int 1 v]}).objs.size:=by simpa using hb
  subst e;exact I1.qh (P4 _) (I1.hok.fresh (P4 _))
def Iq (ta:TA):TI:=λσ H R=>ta σ H λvs H1=>∃j:Int,vs=[.int j]/\ -(2 ^ 62)<=j/\j < 2 ^ 62/\R (Jq 0 j.toNat) H1
def u9 {a:Expr} {ta:TA} {p pos:Pos} (hg:Gl X "range") (hm:X.mg "range"=none) (ha:PA X [a] ta) (hs:starEach [a] X.env=[(false,eval a X.env)]:=by rfl):PI X tg (.Call (.Name "range" p) [a] [] pos) (Iq ta):=by
 intro pins s σ H R I h;refine Call_ (d5 I hg hm boot_range (PyProof.Rows.callWith_type1 (bN (ha pos pins s σ H _ I h) λus s1 ⟨vs,H1,I1,r1,q1⟩=>?_) hs rfl));obtain⟨j,e,q1,q2,q⟩:=q1;subst e;cases r1 with
 | cons r rr=>cases rr;obtain⟨t,rfl⟩:=r;exact call_range_1 (wy I1 (by omega) (by omega) q1 q2 (by simpa using q))
def FN (wi:TI) (g:TG) (tb:TS):TS:=λD σ H=>wi σ H λJ H1=>∃W:Nat->Nat->St->Hp->Prop,(∃m,W 0 m σ H1)/\∀i m σ H,W i m σ H->
 (J.stop i H/\D.nx σ H)\/(J.go i H/\∃N:St->Hp->Prop,(∀σ' H',N σ' H'->∃m',m' < m/\W (i + 1) m' σ' H')/\∀x H',J.yld i H x H'->g x σ H' λσ2 H2=>tb {D with nx:=N,ct:=N,bk:=D.nx} σ2 H2)
def lg (fp:List Addr) (h:Heap):List (Addr×Obj):=fp.filterMap λb=>(h.get? b).map λo=>(b,o)
def eQ {fp:List Addr} {h:Heap} {b:Addr} {o:Obj} (hb:b∈fp) (e:h.get? b=some o):(b,o)∈lg fp h:=List.mem_filterMap.mpr ⟨b,hb,by rw[e];rfl⟩
def vS {fp:List Addr} {h:Heap} {p:Addr×Obj} (hp:p∈lg fp h):p.1∈fp/\h.get? p.1=some p.2:=by
 obtain⟨b,hb,e⟩:=List.mem_filterMap.mp hp;cases q:h.get? b with
 | none=>rw[q] at e;cases e
 | some o=>rw[q] at e;have e':(b,o)=p:=Option.some.inj e;subst e';exact⟨hb,q⟩
def Inv.pinned {pins:List (Addr×Obj)} {σ:St} {H:Hp} {s:Shared} {fp:List Addr} (I:Inv X pins σ H s) (hf:∀b∈fp,gh X pins H b) (ho:∀b∈fp,∃o,s.heap.get? b=some o/\∀v,o.data≠ .cell v):Inv X (pins++lg fp s.heap) σ H s:=
 I.jR λp hp=>(Ql.mp hp).elim (λz=>I.pin p (Qv _ z)) λz=>by obtain⟨hb,e⟩:=vS z;obtain⟨f0,f1,f2,_⟩:=hf p.1 hb;obtain⟨o,e',d⟩:=ho p.1 hb;rw[e] at e';cases e';exact⟨e,f0,f1,f2,d⟩
def Inv.gZ {pins pl:List (Addr×Obj)} {σ:St} {H:Hp} {s:Shared} (I:Inv X (pins++pl) σ H s):Inv X pins σ H s:=I.jR λp hp=>I.pin p (Qv _ (List.mem_append_left _ hp))
def Ei {iter:Expr} {body:List Stmt} {wi:TI} {g:TG} {tb:TS} {pos:Pos} (hp:PassesOwn (model X.prog X.w) X.A X.env X.xe) (hc:X.calm=true) (hi:PI X tg iter wi) (hg:PG X tg g) (hb:qL X body tb)
  (hs:∀x,foldedSetIterable iter X.env x=pure x:=by intro _;rfl):PS X (.For tg iter body [] pos) (FN wi g tb):=by
 intro pins s σ H D I h;refine wpAny_For (bN (hi pins s σ H _ I h) λv s1 h1=>bN h1 λoK s2 h2=>?_) hs;obtain⟨it,fp,tn,J,H2,e,I2,T,dQ,f2,W,⟨m0,w0⟩,turn⟩:=h2;subst e;have nP:∀{H':Hp},(∀b∈fp,H' b=none)->∀b∈fp,gh X pins H' b:=λhn b hb=>⟨hn b hb,(f2 b hb).2⟩
 refine codeAny_forLoop_any (λn s'=>∃i σ' H',Inv X pins σ' H' s'/\tn i s'.heap/\(∀b∈fp,H' b=none)/\W i n σ' H') ?_ m0 ⟨0,σ,H2,I2,dQ,λb hb=>(f2 b hb).1,w0⟩;rintro n s3 ⟨i,σ3,H3,I3,FA,MO,w3⟩;rcases turn i n σ3 H3 w3 with ⟨stop,qn⟩ | ⟨go,N,hN,step⟩
 ·refine wpAny_passesOwn hp (bN (T.done X rfl rfl rfl hc i pins s3 σ3 H3 X.xe I3 (nP MO) FA stop) λr s4 ⟨hr,I4⟩=>?_);subst hr;exact wpAny_execs_nil ⟨σ3,H3,I4,qn⟩
 ·refine wpAny_passesOwn hp (bN (T.item X rfl rfl rfl hc i pins s3 σ3 H3 X.xe I3 (nP MO) FA go) λr s4 ⟨u,hr,h4⟩=>?_);subst hr;refine wpAny_passesOwn hp (bN h4 λ_ s5 ⟨x,H5,I5,r5,y5,K1,LU⟩=>?_);have OB:=I5.pinned (nP LU) (T.obj _ _ K1);refine wpAny_passesOwn hp (bN (hg _ s5 σ3 H5 x u _ OB r5 (step x H5 y5)) λ_ s6 ⟨σ6,H6,I6,q6⟩=>?_);refine wpAny_passesOwn hp (bN (hb _ s6 σ6 H6 _ I6 q6) λf s7 q7=>?_);have again:∀{σ7:St} {H7:Hp},Inv X (pins++lg fp s5.heap) σ7 H7 s7->N σ7 H7->∃m,m < n/\∃i σ' H',Inv X pins σ' H' s7/\tn i s7.heap/\(∀b∈fp,H' b=none)/\W i m σ' H':=λ {σ7 H7} I7 n7=>by obtain⟨m',hm,w7⟩:=hN σ7 H7 n7;refine⟨m',hm,i + 1,σ7,H7,I7.gZ,T.keep _ _ _ K1 λb hb o e=>(I7.pin (b,o) (Qv _ (Qv _ (eQ hb e)))).1,λb hb=>?_,w7⟩;obtain⟨o,e,d⟩:=T.obj _ _ K1 b hb;exact(I7.pin (b,o) (Qv _ (Qv _ (eQ hb e)))).2.1
  cases f with
  | next=>obtain⟨σ7,H7,I7,n7⟩:=q7;exact again I7 n7
  | cont=>obtain⟨σ7,H7,I7,n7⟩:=q7;exact again I7 n7
  | brk=>obtain⟨σ7,H7,I7,q7⟩:=q7;exact⟨σ7,H7,I7.gZ,q7⟩
  | ret v=>obtain⟨x7,σ7,H7,I7,r7,q7⟩:=q7;exact⟨x7,σ7,H7,I7.gZ,r7,q7⟩
end
end L2
namespace L2
open PySem PySem.Spec PyProof.Rows
abbrev R2:=V->V->Hp->VK->Prop
def jW (X:Cx) (f:Value->Value->Sem Value) (r:R2):Prop:=
 ∀(pins:List (Addr×Obj)) (s:Shared) (σ:St) (H:Hp) (x y:V) (v u:Value) (Q:VK),Inv X pins σ H s->RelV x v->RelV y u->r x y H Q->
  wpAny (model X.prog X.w) X.A (f v u) (EP X pins σ Q) X.xe s
def K6 (X:Cx) (f:Value->Sem Value) (r:V->Hp->VK->Prop):Prop:=
 ∀(pins:List (Addr×Obj)) (s:Shared) (σ:St) (H:Hp) (x:V) (v:Value) (Q:VK),Inv X pins σ H s->RelV x v->r x H Q->
  wpAny (model X.prog X.w) X.A (f v) (EP X pins σ Q) X.xe s
def gv (X:Cx) (f:Value) (r:List V->Hp->VK->Prop):Prop:=
 ∀(pins:List (Addr×Obj)) (s:Shared) (σ:St) (H:Hp) (xs:List V) (us:List Value) (Q:VK),Inv X pins σ H s->aw xs us->r xs H Q->
  wpAny (model X.prog X.w) X.A (call f us) (EP X pins σ Q) X.xe s
def Ki (X:Cx) (r:V->Hp->(Bool->Hp->Prop)->Prop):Prop:=
 ∀(pins:List (Addr×Obj)) (s:Shared) (σ:St) (H:Hp) (x:V) (v:Value) (Q:Bool->Hp->Prop),Inv X pins σ H s->RelV x v->r x H Q->
  wpAny (model X.prog X.w) X.A (truthy v) (TP X pins σ Q) X.xe s
def IK (r:R2) (ta tb:TE):TE:=λσ H Q=>ta σ H λx H1=>tb σ H1 λy H2=>r x y H2 Q
def N5 (r:V->Hp->VK->Prop) (ta:TE):TE:=λσ H Q=>ta σ H λx H1=>r x H1 Q
def rI (C:Int->Int->Prop) (g:Int->Int->V):R2:=λx y H Q=>∃i j,x= .int i/\y= .int j/\C i j/\Q (g i j) H
def Ca (g:Int->Int->V):R2:=λx y H Q=>∃i j,x= .int i/\y= .int j/\Q (g i j) H
def rU (g:Int->V):V->Hp->VK->Prop:=λx H Q=>∃i,x= .int i/\Q (g i) H
section
variable {X:Cx} {a b c:Expr} {ta tb tc:TE} {pos:Pos}
def Do (ha:PE X a ta) (hb:PE X b tb) {pins:List (Addr×Obj)} {s:Shared} {σ:St} {H:Hp} {R:V->V->Hp->Prop} (I:Inv X pins σ H s)
  (h:ta σ H λx H1=>tb σ H1 λy H2=>R x y H2) {Q:Value->Shared->Prop} {f:Value->Value->Sem Value}
  (hf:∀v u s2 x y H2,Inv X pins σ H2 s2->RelV x v->RelV y u->R x y H2->wpAny (model X.prog X.w) X.A (f v u) Q X.xe s2):
  wpAny (model X.prog X.w) X.A (eval a X.env) (λv s₁=>wpAny (model X.prog X.w) X.A (eval b X.env) (λu s₂=>wpAny (model X.prog X.w) X.A (f v u) Q X.xe s₂) X.xe s₁) X.xe s:=by
 refine bN (ha pins s σ H _ I h) λv s1 ⟨x,H1,I1,r1,q1⟩=>?_
 refine bN (hb pins s1 σ H1 _ I1 q1) λu s2 ⟨y,H2,I2,r2,q2⟩=>?_
 exact hf v u s2 x y H2 I2 r1 r2 q2
def Hv {op:Operator} {r:R2} (ho:jW X (binaryOp op) r) (ha:PE X a ta) (hb:PE X b tb):PE X (.BinOp a op b pos) (IK r ta tb):=by intro pins s σ H Q I h;exact wpAny_BinOp (Do ha hb I h λv u s2 x y H2 I2 rx ry q=>ho pins s2 σ H2 x y v u Q I2 rx ry q)
def Gk {op:UnaryOp} {r:V->Hp->VK->Prop} (ho:K6 X (unaryOp op) r) (ha:PE X a ta):PE X (.UnaryOp op a pos) (N5 r ta):=by intro pins s σ H Q I h;exact UnaryOp_ (bN (ha pins s σ H _ I h) λv s1 ⟨x,H1,I1,r1,q1⟩=>ho pins s1 σ H1 x v Q I1 r1 q1)
def IE {f:Value->Value->Sem Value} {C:Int->Int->Prop} {g:Int->Int->Int}
  (rule:∀(i j:Int) (t u:Tok) (s:Shared) (Q:Value->Shared->Prop) (E:Value->Shared->Prop),C i j->Q (.int (g i j) s.toks) {s with toks:=s.toks + 1}->wpAny (model X.prog X.w) X.A (f (.int i t) (.int j u)) Q E s):
  jW X f (rI C λi j=> .int (g i j)):=by
 intro pins s σ H x y v u Q I rx ry h;obtain⟨i,j,rfl,rfl,hc,q⟩:=h;obtain⟨t,rfl⟩:=rx;obtain⟨t',rfl⟩:=ry;exact rule i j t t' s _ _ hc ⟨.int (g i j),H,I.tok _,⟨_,rfl⟩,q⟩
def F3 {f:Value->Value->Sem Value} {g:Int->Int->Int}
  (rule:∀(i j:Int) (t u:Tok) (s:Shared) (Q:Value->Shared->Prop) (E:Value->Shared->Prop),Q (.int (g i j) s.toks) {s with toks:=s.toks + 1}->wpAny (model X.prog X.w) X.A (f (.int i t) (.int j u)) Q E s):
  jW X f (Ca λi j=> .int (g i j)):=by
 intro pins s σ H x y v u Q I rx ry h;obtain⟨i,j,rfl,rfl,q⟩:=h;obtain⟨t,rfl⟩:=rx;obtain⟨t',rfl⟩:=ry;exact rule i j t t' s _ _ ⟨.int (g i j),H,I.tok _,⟨_,rfl⟩,q⟩
def Bp {f:Value->Value->Sem Value} {g:Int->Int->Bool}
  (rule:∀(i j:Int) (t u:Tok) (s:Shared) (Q:Value->Shared->Prop) (E:Value->Shared->Prop),Q (.bool (g i j)) s->wpAny (model X.prog X.w) X.A (f (.int i t) (.int j u)) Q E s):
  jW X f (Ca λi j=> .bl (g i j)):=by
 intro pins s σ H x y v u Q I rx ry h;obtain⟨i,j,rfl,rfl,q⟩:=h;obtain⟨t,rfl⟩:=rx;obtain⟨t',rfl⟩:=ry;exact rule i j t t' s _ _ ⟨.bl (g i j),H,I,rfl,q⟩
def Lz (i j:Int):Prop:=0<=j/\j<=1000000/\i.natAbs < 2 ^ 64
def D5 (i j:Int):Prop:=(-(2 ^ 64) < i/\i < 2 ^ 64)\/(-(2 ^ 64) < j/\j < 2 ^ 64)
def D5.ok {i j:Int} (h:D5 i j):IntMulOk i j:=by
 rcases h with ⟨h1,h2⟩ | ⟨h1,h2⟩
 ·exact .of_left (intBits_le_64 h1 h2)
 ·exact .of_right (intBits_le_64 h1 h2)
def CW:jW X (binaryOp .Add) (Ca λi j=> .int (i + j)):=F3 λ_ _ _ _ _ _ _ q=>add_int q
def C2:jW X (binaryOp .Sub) (Ca λi j=> .int (i - j)):=F3 λ_ _ _ _ _ _ _ q=>sub_int q
def Di:jW X (binaryOp .Mult) (rI D5 λi j=> .int (i * j)):=IE λ_ _ _ _ _ _ _ hc q=>mul_int q hc.ok
def D2:jW X (binaryOp .Mod) (rI (λ_ j=>0 < j) λi j=> .int (i % j)):=IE λi j _ _ _ _ _ hc q=>by have h1:(0:Int) < j:=hc;exact mod_int' (by omega) (by rw[Int.fmod_eq_emod_of_nonneg i (by omega)];exact q)
def DT:jW X (binaryOp .Pow) (rI Lz λi j=> .int (i ^ j.toNat)):=IE λ_ _ _ _ _ _ _ hc q=>pow_int_small hc.1 hc.2.1 hc.2.2 q
def OZ {f:Value->Sem Value} {g:Int->Int}
  (rule:∀(i:Int) (t:Tok) (s:Shared) (Q:Value->Shared->Prop) (E:Value->Shared->Prop),Q (.int (g i) s.toks) {s with toks:=s.toks + 1}->wpAny (model X.prog X.w) X.A (f (.int i t)) Q E s):
  K6 X f (rU λi=> .int (g i)):=by
 intro pins s σ H x v Q I rx h;obtain⟨i,rfl,q⟩:=h;obtain⟨t,rfl⟩:=rx;exact rule i t s _ _ ⟨.int (g i),H,I.tok _,⟨_,rfl⟩,q⟩
def C0:K6 X (unaryOp .USub) (rU λi=> .int (-i)):=OZ λ_ _ _ _ _ q=>neg_int q
end
section
variable {X:Cx} {a b c:Expr} {ta tb tc:TE} {pos:Pos}
def zA {pins:List (Addr×Obj)} {σ:St} {H:Hp} {s:Shared} {Q:VK} {k k':Bool} (I:Inv X pins σ H s) (q:Q (.bl k) H) (e:k=k'):EP X pins σ Q (.bool k') s:=by subst e;exact⟨.bl k,H,I,rfl,q⟩
def Hj:jW X (compareOp .Lt) (Ca λi j=> .bl (decide (i < j))):=Bp λ_ _ _ _ _ _ _ q=>lt_int q
def Il:jW X (compareOp .LtE) (Ca λi j=> .bl (decide (i<=j))):=Bp λ_ _ _ _ _ _ _ q=>le_int q
def F7:jW X (compareOp .Gt) (Ca λi j=> .bl (decide (j < i))):=Bp λ_ _ _ _ _ _ _ q=>gt_int q
def Hk:jW X (compareOp .GtE) (Ca λi j=> .bl (decide (j<=i))):=Bp λ_ _ _ _ _ _ _ q=>ge_int q
def EN:jW X (compareOp .Is) (λx y H Q=>y= .bo/\Q (.bl (decide (x= .bo))) H):=by
 intro pins s σ H x y v u Q I rx ry h;obtain⟨rfl,q⟩:=h;cases ry;refine is_none_gen (zA I q ?_);cases x <;> first
  | (cases rx;rfl)
  | (obtain⟨t,rfl⟩:=rx;rfl)
def BD:jW X (compareOp .IsNot) (λx y H Q=>y= .bo/\Q (.bl (!decide (x= .bo))) H):=by
 intro pins s σ H x y v u Q I rx ry h;obtain⟨rfl,q⟩:=h;cases ry;refine isnot_none_gen (zA I q ?_);cases x <;> first
  | (cases rx;rfl)
  | (obtain⟨t,rfl⟩:=rx;rfl)
def A2 {op:CmpOp} {r:R2} (ho:jW X (compareOp op) r) (ha:PE X a ta) (hb:PE X b tb) (hm:behindInMarks op b=false):PE X (.Compare a [op] [b] pos) (IK r ta tb):=by intro pins s σ H Q I h;exact wpAny_Compare1 (Do ha hb I h λv u s2 x y H2 I2 rx ry q=>ho pins s2 σ H2 x y v u Q I2 rx ry q) hm
def G7 (t:TE):TT:=λσ H Q=>t σ H λx H'=>∃k,x= .bl k/\Q k H'
def AJ {op:CmpOp} {r:R2} (ho:jW X (compareOp op) r) (ha:PE X a ta) (hb:PE X b tb) (hm:behindInMarks op b=false):PT X (.Compare a [op] [b] pos) (G7 (IK r ta tb)):=by
 intro pins s σ H Q I h;refine wpAny_isTrue_Compare1 (bN (ha pins s σ H _ I h) λv s1 ⟨x,H1,I1,r1,q1⟩=>bN (hb pins s1 σ H1 _ I1 q1) λu s2 ⟨y,H2,I2,r2,q2⟩=>
  bN (ho pins s2 σ H2 x y v u _ I2 r1 r2 q2) λc s3 ⟨z,H3,I3,r3,k,e,q3⟩=>?_) hm
 subst e;cases r3;exact wpAny_truthy_bool ⟨H3,I3,q3⟩
def Gf (K:PySem.W.Frag) (x:V) (H:Hp) (k:Bool):Prop:=
 match x with
 | .bo=>k=false
 | .bl b=>k=b
 | .int i=>k=(i != 0)
 | .str y=>y.length<=sizeLine/\k=((y.length:Int) != 0)
 | .Fu y=>y.size<=sizeLine/\k=((y.size:Int) != 0)
 | .ref p=>(∃xs,d9 K H p xs/\k= !xs.isEmpty)\/(∃xs,eW K H p xs/\k= !xs.isEmpty)\/∃fg,H p=some (.dK fg)/\k= !fg.isEmpty
 | _=>False
def su {κ:Type} {fg:List (κ×V)} {vs:List (κ×Value)} (r:KV fg vs):(!vs.isEmpty)= !fg.isEmpty:=by cases r <;> rfl
def k7 {xs:List V} {its:List Value} (r:aw xs its):(!its.toArray.isEmpty)= !xs.isEmpty:=by cases r <;> simp
def i9:(sizeLine:Nat) < 2 ^ 63:=by rw[sizeLine_eq];decide
def Ec:Ki X (λx H Q=>∃k,Gf X.K x H k/\Q k H):=by
 intro pins s σ H x v Q I rx h;obtain⟨k,e,q⟩:=h;have hl:=i9;have hs:sizeLine=16777216:=sizeLine_eq;cases x with
 | bo=>cases rx;have e':k=false:=e;subst e';exact truthy_none ⟨H,I,q⟩
 | bl b=>cases rx;have e':k=b:=e;subst e';exact wpAny_truthy_bool ⟨H,I,q⟩
 | int i=>obtain⟨t,rfl⟩:=rx;have e':k=(i != 0):=e;subst e';exact PySem.P.truthy_int ⟨H,I,q⟩
 | str y=>obtain⟨t,rfl⟩:=rx;obtain⟨hy,e'⟩:y.length<=sizeLine/\k=((y.length:Int) != 0):=e;subst e';exact PySem.P.truthy_str (by omega) ⟨H,I.tok _,q⟩
 | Fu y=>obtain⟨t,rfl⟩:=rx;obtain⟨hy,e'⟩:y.size<=sizeLine/\k=((y.size:Int) != 0):=e;subst e';exact PySem.W.truthy_bytes (by omega) ⟨H,I.tok _,q⟩
 | ref p=>
  cases rx;have e':(∃xs,d9 X.K H p xs/\k= !xs.isEmpty)\/(∃xs,eW X.K H p xs/\k= !xs.isEmpty)\/∃fg,H p=some (.dK fg)/\k= !fg.isEmpty:=e;rcases e' with ⟨xs,hx,e'⟩ | ⟨xs,hx,e'⟩ | ⟨fg,hx,e'⟩
  ·subst e';obtain⟨its,r,pl,hz⟩:=I.list hx;have hlen:=r.length;exact wpAny_truthy_list pl.isList (by simp only[PY];omega) ⟨H,I.tok _,by rw[k7 r];exact q⟩
  ·subst e';obtain⟨its,r,pl,hz⟩:=I.tuple hx;have hlen:=r.length;exact truthy_tuple pl (by simp only[PY];omega) ⟨H,I.tok _,by rw[k7 r];exact q⟩
  ·subst e';obtain⟨hz,hS,vs,r,m⟩:fg.length<=sizeLine/\(p==sysModules)=false/\∃vs,KV fg vs/\s.heap.DictOf (oh X.prog X.w) p vs:=I.hok p _ hx;have hlen:fg.length=vs.length:=Paired.length r;exact wpAny_truthy_dict hS m (by omega) ⟨H,I.tok _,by rw[su r];exact q⟩
 | _=>exact(show False from e).elim
def xy (ha:PE X a ta) (he:∀whole,isTrue a X.env whole=(do let v<-whole;standAt a.pos;holding [v] (truthy v))):
  PT X a (λσ H Q=>ta σ H λx H'=>∃k,Gf X.K x H' k/\Q k H'):=by
 intro pins s σ H Q I h;exact isTrue_plain (bN (ha pins s σ H _ I h) λv s1 ⟨x,H1,I1,r1,q1⟩=>Ec pins s1 σ H1 x v Q I1 r1 q1) (he _)
def sN:jW X (binaryOp .Add) (λx y H Q=>∃i j,x= .str i/\y= .str j/\i.length + j.length<=sizeLine/\Q (.str (i++j)) H):=by intro pins s σ H x y v u Q I rx ry h;obtain⟨i,j,rfl,rfl,hz,q⟩:=h;obtain⟨t,rfl⟩:=rx;obtain⟨t',rfl⟩:=ry;exact add_str (λt' tk=>⟨.str (i++j),H,I.tok _,⟨_,rfl⟩,q⟩) hz
def vals1 {x:V} {us:List Value} (r:aw [x] us):∃u,us=[u]/\RelV x u:=by
 cases r with
 | cons r1 r2=>cases r2;exact⟨_,rfl,r1⟩
def vals2 {x y:V} {us:List Value} (r:aw [x,y] us):∃u w',us=[u,w']/\RelV x u/\RelV y w':=by
 cases r with
 | cons r1 r2=>
  cases r2 with
  | cons r3 r4=>cases r4;exact⟨_,_,rfl,r1,r3⟩
def vB (hc:X.calm=true):gv X (.builtin "min") (λxs H Q=>∃i j,xs=[.int i,.int j]/\Q (.int (if j < i then j else i)) H):=by
 intro pins s σ H xs us Q I r h;obtain⟨i,j,rfl,q⟩:=h;obtain⟨u,w',rfl,⟨t,rfl⟩,⟨t',rfl⟩⟩:=vals2 r;refine min_two_ints (I.ok.hd hc) λh' tk k=>⟨_,H,I.kept k,?_,q⟩
 by_cases hj:j < i
 ·rw[if_pos hj,if_pos hj];exact⟨_,rfl⟩
 ·rw[if_neg hj,if_neg hj];exact⟨_,rfl⟩
def LH (K:PySem.W.Frag) (x:V) (H:Hp) (n:Nat):Prop:=
 match x with
 | .str y=>y.length<=sizeLine/\n=y.length
 | .Fu y=>y.size<=sizeLine/\n=y.size
 | .ref p=>(∃xs,d9 K H p xs/\n=xs.length)\/∃xs,eW K H p xs/\n=xs.length
 | _=>False
def iC:gv X (.builtin "len") (λxs H Q=>∃x n,xs=[x]/\LH X.K x H n/\Q (.int n) H):=by
 intro pins s σ H xs us Q I r h;obtain⟨x,n,rfl,e,q⟩:=h;obtain⟨u,rfl,rx⟩:=vals1 r;have hl:=i9;have hs:sizeLine=16777216:=sizeLine_eq;cases x with
 | str y=>obtain⟨t,rfl⟩:=rx;obtain⟨hy,e'⟩:y.length<=sizeLine/\n=y.length:=e;subst e';exact len_str (by omega) ⟨.int _,H,I.tok _,⟨_,rfl⟩,q⟩
 | Fu y=>obtain⟨t,rfl⟩:=rx;obtain⟨hy,e'⟩:y.size<=sizeLine/\n=y.size:=e;subst e';exact PySem.W.len_bytes (by omega) ⟨.int _,H,I.tok _,⟨_,rfl⟩,q⟩
 | ref p=>
  cases rx;have e':(∃xs,d9 X.K H p xs/\n=xs.length)\/∃xs,eW X.K H p xs/\n=xs.length:=e;rcases e' with ⟨xs,hx,e'⟩ | ⟨xs,hx,e'⟩
  ·subst e';obtain⟨its,r',pl,hz⟩:=I.list hx;have hlen:=r'.length;exact Calls.call_len_list pl.isList (by simp only[PY];omega) ⟨.int xs.length,H,I.tok _,⟨_,by simp only[PY];rw[hlen]⟩,q⟩
  ·subst e';obtain⟨its,r',pl,hz⟩:=I.tuple hx;have hlen:=r'.length;exact len_tuple pl (by simp only[PY];omega) ⟨.int xs.length,H,I.tok _,⟨_,by simp only[PY];rw[hlen]⟩,q⟩
 | _=>exact(show False from e).elim
end
end L2
namespace L2
open PySem PySem.Spec PyProof.Rows
structure Em (h:Heap) (x dx C:Addr) (mA:Str->Option Value):Prop where
 obj:h.get? x=some (PySem.W.instObj C dx)
 ns:h.Ns1 dx mA
 ne:dx≠x
def vn {h:Heap} {dx:Addr} {mA:Str->Option Value} (n:h.Ns1 dx mA):∃od,h.get? dx=some od/\∀name,PySem.W.lookIn name od=some (mA name):=by
 obtain⟨o,es,ep,ho,hd,hk,_,hm⟩:=n;refine⟨o,ho,λname=>?_⟩;have e:=hm name;unfold nsFind findBy at e;rw[<-Array.find?_toList] at e;unfold PySem.W.lookIn;rw[hd];dsimp only;split
 ·rename_i y q;rw[q] at e;exact congrArg some e
 ·rename_i q;rw[q] at e;have a:es.toList.any (·.refKey)=false:=by rw[List.any_eq_false];intro y hy;obtain⟨z,t,Aw⟩:=hk y (Array.mem_toList_iff.mp hy);simp[DictEntry.refKey,Aw]
  have a':¬es.toList.any (·.refKey)=true:=by rw[a];exact Bool.false_ne_true
  rw[if_neg a'];exact congrArg some e
def Em.look {h:Heap} {x dx C:Addr} {mA:Str->Option Value} (I:Em h x dx C mA):∃od,PySem.W.InstAt h x (PySem.W.instObj C dx) C (some od)/\∀name,PySem.W.lookIn name od=some (mA name):=
 let ⟨od,ho,hl⟩:=vn I.ns
 ⟨od,⟨I.obj,rfl,rfl,ho⟩,hl⟩
section
variable {P:Program} {w:World} {H H':Hp} {h h':Heap} {a C dx:Addr} {fs KE:List (Str×V)}
def BK (hok:eX P w H h) (e:H a=some (.ins C dx fs)):∃mA,Em h a dx C mA/\(∀f,DP (fs.lookup f) (mA f))/\PySem.Within mA (fs.map (·.1))/\fs.length<=1000/\H dx=some (.own a):=by obtain⟨d,z,ne,ob,mA,n,r,q⟩:=(show bY P w H h a (.ins C dx fs) from hok a _ e);exact⟨mA,⟨ob,n,ne⟩,r,q,z,d⟩
end
structure Ku (K:PySem.W.Frag) (C:Addr):Prop where
 pg:PySem.W.plainGet K C Str.empty=true
 hd:PySem.W.hasDictIn K C=true
 po:PySem.W.plainOver K C=true
 sa:PySem.W.findIn K (.ref C) "__setattr__"=some (some (.builtin "object.__setattr__"))
def Ku.get {K:PySem.W.Frag} {C:Addr} (c:Ku K C) (f:Str):PySem.W.plainGet K C f=true:=c.pg
section
variable {X:Cx} {pins:List (Addr×Obj)} {σ:St} {H:Hp} {s:Shared} {A:Around} {E:Value->Shared->Prop} {Q:Value->Shared->Prop} {c:Value} {b:Bool}
inductive iL (K:PySem.W.Frag) (H:Hp):V->Value->Prop where
 | bo:iL K H .bo (.type "NoneType")
 | bl (x:Bool):iL K H (.bl x) (.type "bool")
 | int (i:Int):iL K H (.int i) (.type "int")
 | str (x:Str):iL K H (.str x) (.type "str")
 | Av (x:UInt64):iL K H (.Av x) (.type "float")
 | lst {a:Addr} {xs:List V} (e:H a=some (.lst xs)):iL K H (.ref a) (.type "list")
 | tH {a:Addr} {o:Obj} {xs:List V} (e:H a=some (.tH o (.lst xs))):iL K H (.ref a) (.type "list")
 | tup {a:Addr} {xs:List V} (e:H a=some (.tup xs)):iL K H (.ref a) (.type "tuple")
 | dK {a:Addr} {fg:List (Key×V)} (e:H a=some (.dK fg)):iL K H (.ref a) (.type "dict")
 | dT {a:Addr} {fg:List (List Key×V)} (e:H a=some (.dT fg)):iL K H (.ref a) (.type "dict")
 | ins {a C dx:Addr} {fs:List (Str×V)} (e:H a=some (.ins C dx fs)) (cl:Ku K C) (ha:PySem.W.findIn K (.ref C) "__class__"=some (some (.builtin "object.__class__")))
   (hn:PySem.W.specialIn K (.builtin "object.__class__") "__get__"=some (some (.builtin "getset_descriptor.__get__"))) (Md:PySem.W.takesIn K (.builtin "object.__class__")=some true)
   (hm:PySem.W.mroIn K C (.type "object")=some true):iL K H (.ref a) (.ref C)
def vH {x:V} {u t:Value} (I:Inv X pins σ H s) (rx:RelV x u) (ty:iL X.K H x t) (e:PySem.W.kitOne X.K t c=some b) (h:∀tk,Q (.bool b) {s with toks:=tk}):
  wpAny (model X.prog X.w) A (call (.builtin "isinstance") [u,c]) Q E s:=by
 cases ty with
 | bo=>cases (show u=Value.none from rx);exact PySem.W.kia_one PySem.W.kitx_none I.p5 True.intro e (λz=>nomatch z) h
 | bl y=>cases (show u=Value.bool y from rx);exact PySem.W.kia_one PySem.W.kitx_bool I.p5 True.intro e (λz=>nomatch z) h
 | int i=>obtain⟨t,q⟩:=(show∃t,u=Value.int i t from rx);cases q;exact PySem.W.kia_one PySem.W.kitx_int I.p5 True.intro e (λz=>nomatch z) h
 | str y=>obtain⟨t,q⟩:=(show∃t,u=Value.str y t from rx);cases q;exact PySem.W.kia_one PySem.W.kitx_str I.p5 True.intro e (λz=>nomatch z) h
 | Av y=>obtain⟨t,q⟩:=(show∃t,u=Value.float y t from rx);cases q;exact PySem.W.kia_one PySem.W.kitx_float I.p5 True.intro e (λz=>nomatch z) h
 | @lst a xs ea=>cases (show u=Value.ref a from rx);obtain⟨_,_,n,_,h1⟩:=(show bY X.prog X.w H s.heap a (.lst xs) from I.hok a _ ea);exact PySem.W.kia_one PySem.W.kitx_list I.p5 ⟨_,h1,rfl⟩ e (λz=>nomatch z) h
 | @tH a ob xs ea=>cases (show u=Value.ref a from rx);obtain⟨_,_,_,n,_,h1⟩:=(show bY X.prog X.w H s.heap a (.tH ob (.lst xs)) from I.hok a _ ea);exact PySem.W.kia_one PySem.W.kitx_list I.p5 ⟨_,h1,rfl⟩ e (λz=>nomatch z) h
 | @tup a xs ea=>cases (show u=Value.ref a from rx);obtain⟨_,_,_,p⟩:=(show bY X.prog X.w H s.heap a (.tup xs) from I.hok a _ ea);obtain⟨o,h1,h2,_⟩:=p;exact PySem.W.kia_one PySem.W.kitx_tuple I.p5 ⟨o,h1,h2⟩ e (λz=>nomatch z) h
 | @dK a fg ea=>cases (show u=Value.ref a from rx);obtain⟨_,_,vs,_,p⟩:=(show bY X.prog X.w H s.heap a (.dK fg) from I.hok a _ ea);obtain⟨o,es,ep,h1,h2,_⟩:=p;exact PySem.W.kia_one PySem.W.kitx_dict I.p5 ⟨o,h1,h2.1⟩ e (λz=>nomatch z) h
 | @dT a fg ea=>cases (show u=Value.ref a from rx);obtain⟨_,_,xs,_,o,es,ep,h1,h2,_⟩:=(show bY X.prog X.w H s.heap a (.dT fg) from I.hok a _ ea);exact PySem.W.kia_one PySem.W.kitx_dict I.p5 ⟨o,h1,h2.1⟩ e (λz=>nomatch z) h
 | @ins a C dx fs ea cl ha hn Md hm=>cases (show u=Value.ref a from rx);obtain⟨mA,O,_⟩:=BK I.hok ea;obtain⟨od,J,_⟩:=O.look;exact PySem.W.kia_one (PySem.W.kitx_own (cl.get _) cl.hd ha hn Md hm) I.p5 J e (λz=>nomatch z) h
end
end L2
namespace L2
open PySem PySem.Spec PyProof.Rows
structure iJ (k:Nat) (A:Around):Prop where
 hd:A.handled=none
 dp:A.depth + 3 * k + 5 < recursionLimit
 un:A.units + 16 * k + 200 < cLine
def iJ.deeper {k:Nat} {A:Around} (r:iJ (k + 1) A) (env:Env):iJ k (A.deeper env):=
 ⟨r.hd,by have:=r.dp;show A.depth + 1 + 3 * k + 5 < _;omega,by have:=r.un;show A.units + 3 + 16 * k + 200 < _;omega⟩
def iJ.depth {k:Nat} {A:Around} (r:iJ k A):A.depth < recursionLimit:=by have:=r.dp;omega
def DA:TA:=λ_ H Q=>Q [] H
def zx (ta:TE) (tr:TA):TA:=λσ H Q=>ta σ H λx H1=>tr σ H1 λxs H2=>Q (x::xs) H2
section
variable {X:Cx} {e:Expr} {es:List Expr} {te:TE} {t:TA} {pos:Pos}
def gD:PA X [] DA:=λ_ _ _ _ H Q I h=>Calls.spliced_nil ⟨[],H,I,.nil,h⟩
def dy (ha:PE X e te) (hr:PA X es t) (hs:starEach (e::es) X.env=(false,eval e X.env)::starEach es X.env:=by rfl):PA X (e::es) (zx te t):=by intro pos pins s σ H Q I h;rw[hs];show wpAny _ _ (spliced ((false,eval e X.env)::backTo pos (starEach es X.env))) _ _ s;refine Calls.spliced_cons (bN (ha pins s σ H _ I h) λu s1 ⟨x,H1,I1,r1,q1⟩=>?_);exact bN (hr pos pins s1 σ H1 _ I1 q1) λus s2 ⟨xs,H2,I2,r2,q2⟩=>⟨x::xs,H2,I2,.cons r1 r2,q2⟩
def LJ (t:TA):TE:=λσ H Q=>t σ H λxs H1=>xs.length<=sizeLine/\∀p,H1 p=none->Q (.ref p) (upd H1 p (.tup xs))
def JR (t:TA):TE:=λσ H Q=>t σ H λxs H1=>xs.length<=sizeLine/\∀p,H1 p=none->Q (.ref p) (upd H1 p (.lst xs))
def CY {x1} (h:PA X es t):PE X (.Tuple es x1 pos) (LJ t):=by intro pins s σ H Q I hq;refine wpAny_Tuple_spliced (bN (h pos pins s σ H _ I hq) λus s1 ⟨xs,H1,I1,r,z,q⟩=>⟨by rw[<-r.length];exact z,?_⟩);have hf:H1 s1.heap.objs.size=none:=I1.hok.fresh (P4 _);refine⟨.ref s1.heap.objs.size,upd H1 s1.heap.objs.size (.tup xs),I1.laid (t':=s1.toks) (λb u e=>PU _ e) (P4 _) ?_,rfl,q _ hf⟩;exact⟨z,us,r,⟨_,P6 _ rfl,rfl,_,rfl⟩⟩
def EH (h:PA X es t):PE X (.List es pos) (JR t):=by intro pins s σ H Q I hq;refine wpAny_List_spliced (bN (h pos pins s σ H _ I hq) λus s1 ⟨xs,H1,I1,r,z,q⟩=>⟨by rw[<-r.length];exact z,?_⟩);have hf:H1 s1.heap.objs.size=none:=I1.hok.fresh (P4 _);refine⟨.ref s1.heap.objs.size,upd H1 s1.heap.objs.size (.lst xs),I1.laid (t':=s1.toks) (λb u e=>PU _ e) (P4 _) ?_,rfl,q _ hf⟩;exact⟨z,us,0,r,P6 _ rfl⟩
end
abbrev Sp:=List V->Hp->VK->XK->Prop
abbrev lE:=List Env->Hp->Shared->XK->Value->Shared->Prop
structure Ai (P:Program) (w:World) (K:PySem.W.Frag) (mg:Str->Option Value) (base:Heap) (A:Around) (outer:List Env) (s:Shared) (H:Hp):Prop where
 frames:A.frames=some outer
 mod:Mod K mg base
 bs:∀b o,base.get? b=some o->s.heap.get? b=some o/\H b=none
 BV:base.objs.size<=s.heap.objs.size
 k9:s.heap.FunFrames base outer
 Fp:∀b∈fu outer,H b=none
 hok:eX P w H s.heap
 bare:AllBare s.gens
def CE (outer:List Env) (P:Program) (w:World) (H:Hp) (s:Shared) (Q:VK) (u:Value) (s':Shared):Prop:=
 ∃v H',s'.os=s.os/\AllBare s'.gens/\Un (fu outer) [] H H' s.heap s'.heap/\eX P w H' s'.heap/\RelV v u/\Q v H'
def CR (CX:lE) (outer:List Env) (P:Program) (w:World) (H:Hp) (s:Shared) (Q:VK) (E:XK) (r:Result) (s':Shared):Prop:=
 match r with
 | .ok (.ret u)=>CE outer P w H s Q u s'
 | .ok _=>False
 | .error e=>CX outer H s E e s'
structure jb (P:Program) (w:World) (K:PySem.W.Frag) (mg:Str->Option Value) (base:Heap) (CX:lE) (k:Nat) (f:Addr) (fd:FuncData) (ps:List Str) (sp:Sp):Prop where
 len:∀vs H Q E,sp vs H Q E->vs.length=ps.length
 run:∀(A:Around) (outer:List Env) (s:Shared) (H:Hp) (args:Args) (us:List Value) (vs:List V) (Q:VK) (E:XK),iJ k A->Ai P w K mg base A outer s H->BindsTo s fd args (ps.zip us)->aw vs us->sp vs H Q E->
  codeAny (model P w) A (.call (.ref f) args) (CR CX outer P w H s Q E) s
def jb.imp {P:Program} {w:World} {K:PySem.W.Frag} {mg:Str->Option Value} {base:Heap} {CX:lE} {k:Nat} {f:Addr} {fd:FuncData} {ps:List Str} {sp MC:Sp} (F:jb P w K mg base CX k f fd ps sp)
  (h:∀vs H Q E,MC vs H Q E->sp vs H Q E):jb P w K mg base CX k f fd ps MC:=
 ⟨λvs H Q E q=>F.len vs H Q E (h _ _ _ _ q),λA outer s H args us vs Q E hr he hb hv hs=>F.run A outer s H args us vs Q E hr he hb hv (h _ _ _ _ hs)⟩
section
variable {X:Cx} {pins:List (Addr×Obj)} {σ:St} {H:Hp} {s s':Shared}
def Inv.gd (I:Inv X pins σ H s):Ai X.prog X.w X.K X.mg X.base X.A X.stack s H:=
 ⟨I.ok.frames,I.ok.mod,I.bs,Qa I.ok.BV I.sz,I.stack,I.oq,I.hok,I.bare⟩
def Inv.after {Q:VK} {u:Value} (I:Inv X pins σ H s) (h:CE X.stack X.prog X.w H s Q u s'):EP X pins σ Q u s':=by obtain⟨v,H',os,bare,un,hok,r,q⟩:=h;obtain⟨hh,g,d,t,FG⟩:=s';obtain rfl:FG=s.os:=os;exact⟨v,H',I.call (h':=hh) (g':=g) (d':=d) (t':=t) (ch:=[]) un hok bare (λb z=>absurd z (by simp)),r,q⟩
end
def Gu (sp:Sp) (vt:List V) (E:XK) (t:TA):TE:=λσ H Q=>t σ H λvs H1=>sp (vs++vt) H1 Q E
def Binds (K:PySem.W.Frag) (fd:FuncData) (ps:List Str) (ds:List Value):Prop:=
 ∀(s:Shared) (us:List Value),K.In s.heap->(us++ds).length=ps.length->BindsTo s fd ⟨us,[]⟩ (ps.zip (us++ds))
def Binds.all {K:PySem.W.Frag} {fd:FuncData} {ps:List Str} (h:∀us:List Value,us.length=ps.length->bindArgs fd ⟨us,[]⟩=pure (ps.zip us)):Binds K fd ps []:=λs us _ hl=>by rw[QC] at hl ⊢;exact .of_eq (h us hl)
def rF (CX:lE) (X:Cx) (E:XK):Prop:=∀(pins:List (Addr×Obj)) (σ:St) (H:Hp) (s:Shared) (e:Value) (s':Shared),Inv X pins σ H s->CX X.stack H s E e s'->X.xe e s'
section
variable {X:Cx} {CX:lE} {k:Nat} {f C:Addr} {fd:FuncData} {ps:List Str} {sp:Sp} {vt:List V} {ds:List Value} {E:XK} {x m:Str} {p pos apos:Pos} {e o:Expr} {es:List Expr} {ta:TE} {t:TA}
def Ee {pins:List (Addr×Obj)} {σ:St} {H:Hp} {s:Shared} {Q:VK} {us:List Value} {vs:List V} (F:jb X.prog X.w X.K X.mg X.base CX k f fd ps sp) (hr:iJ k X.A) (hb:Binds X.K fd ps ds) (hd:aw vt ds) (hx:rF CX X E)
  (I:Inv X pins σ H s) (r:aw vs us) (h:sp (vs++vt) H Q E):wpAny (model X.prog X.w) X.A (call (.ref f) us) (EP X pins σ Q) X.xe s:=by
 have r2:aw (vs++vt) (us++ds):=r.append hd;have hl:(us++ds).length=ps.length:=by rw[<-r2.length];exact F.len _ _ _ _ h
 refine wpAny_call (codeAny_mono (F.run X.A X.stack s H ⟨us,[]⟩ (us++ds) (vs++vt) Q E hr I.gd (hb s us I.p5 hl) r2 h) λr s' hq=>?_);cases r with
 | error e=>exact hx pins σ H s e s' I hq
 | ok fl=>
  cases fl with
  | ret u=>exact I.after hq
  | next=>exact False.elim hq
  | brk=>exact False.elim hq
  | cont=>exact False.elim hq
def Bt (F:jb X.prog X.w X.K X.mg X.base CX k f fd ps sp) (hr:iJ k X.A) (hg:Gl X x) (hm:X.mg x=some (.ref f)) (hk:PySem.W.keepIn X.K (.ref f)=true) (hb:Binds X.K fd ps ds) (hd:aw vt ds) (hx:rF CX X E)
  (ha:PA X (e::es) t) (zX:(x==("__debug__":Str))=false:=by decide) (he:starEach (e::es) X.env=(false,eval e X.env)::starEach es X.env:=by rfl) (gL:(backTo pos (starEach es X.env)).any (·.1)=false:=by rfl):
  PE X (.Call (.Name x p) (e::es) [] pos) (Gu sp vt E t):=by
 intro pins s σ H Q I h;refine wpAny_Call_Name_kw (ub I hg hm ?_ zX);refine PySem.W.callWith_K (h₀:=X.base) I.ok.mod.Kb hk (bN (ha pos pins s σ H _ I h) λus s1 ⟨vs,H1,I1,r,q⟩=>⟨I1.p5,?_⟩) he gL;exact Ee F hr hb hd hx I1 r q
end
structure eK (N P:List Str) (sc:Scope):Prop where
 kind:sc.kind= .function
 co:sc.isCoroutine=false
 gen:sc.isGenerator=false
 nd:N.Nodup
 pre:N.take P.length=P
 par:∀x∈P,sc.names.lookup x=some .local\/sc.names.lookup x=some .cell
 EB:∀y∈sc.names,y.2≠ .free
def mN {kindOf:Str->Option NameKind} {x:Str}:∀{binds:List (Str×Value)} {m:Str->Option Value},(∀v,(x,v)∉binds)->bindL kindOf binds m x=m x
 | [],_,_=>rfl
 | (n,v)::r,m,h=>by
  unfold bindL;rw[mN λw hw=>h w (P1 _ hw)];split
  ·have:x≠n:=by rintro rfl;exact h v P5
   simp[this]
  ·rfl
def mO {kindOf:Str->Option NameKind} {x:Str}:∀{binds:List (Str×Value)} {m:Str->Option Value},(∀v,(x,v)∉binds)->bindC kindOf binds m x=m x
 | [],_,_=>rfl
 | (n,v)::r,m,h=>by
  unfold bindC;rw[mO λw hw=>h w (P1 _ hw)];split
  ·rfl
  ·have:x≠n:=by rintro rfl;exact h v P5
   simp[this]
def mK {kindOf:Str->Option NameKind} {x:Str} {v:Value}:∀{P:List Str} {vs:List Value} {i:Nat} {m:Str->Option Value},P.Nodup->P[i]?=some x->vs[i]?=some v->kindOf x=some .local->
  bindL kindOf (P.zip vs) m x=some v
 | [],_,_,_,_,h,_,_=>by simp at h
 | _::_,[],_,_,_,_,h,_=>by simp at h
 | p::P,w::vs,0,m,nd,h1,h2,hk=>by simp at h1 h2;subst h1;subst h2;show bindL kindOf ((p,w)::P.zip vs) m p=_;unfold bindL;rw[mN λv hv=>(List.nodup_cons.mp nd).1 (List.of_mem_zip hv).1,if_pos hk];simp
 | p::P,w::vs,i + 1,m,nd,h1,h2,hk=>by show bindL kindOf ((p,w)::P.zip vs) m x=_;unfold bindL;exact mK (i:=i) (List.nodup_cons.mp nd).2 (by simpa using h1) (by simpa using h2) hk
def mE {kindOf:Str->Option NameKind} {x:Str} {v:Value}:∀{P:List Str} {vs:List Value} {i:Nat} {m:Str->Option Value},P.Nodup->P[i]?=some x->vs[i]?=some v->kindOf x≠some .local->
  bindC kindOf (P.zip vs) m x=some v
 | [],_,_,_,_,h,_,_=>by simp at h
 | _::_,[],_,_,_,_,h,_=>by simp at h
 | p::P,w::vs,0,m,nd,h1,h2,hk=>by simp at h1 h2;subst h1;subst h2;show bindC kindOf ((p,w)::P.zip vs) m p=_;unfold bindC;rw[mO λv hv=>(List.nodup_cons.mp nd).1 (List.of_mem_zip hv).1,if_neg hk];simp
 | p::P,w::vs,i + 1,m,nd,h1,h2,hk=>by show bindC kindOf ((p,w)::P.zip vs) m x=_;unfold bindC;exact mE (i:=i) (List.nodup_cons.mp nd).2 (by simpa using h1) (by simpa using h2) hk
def start (N:List Str) (vs:List V):St:=vs.map some++List.replicate (N.length - vs.length) none
def kK (CX:lE) (P:Program) (w:World) (K:PySem.W.Frag) (mg:Str->Option Value) (base:Heap) (N:List Str) (qual:Str) (scope:Scope) (f:Addr) (cd:Value) (A:Around) (outer:List Env) (s:Shared) (H:Hp) (E:XK):Cx where
 prog:=P
 w:=w
 K:=K
 mg:=mg
 base:=base
 A:=A.deeper (envOfC qual scope s.heap.objs.size f cd)
 N:=N
 s₀:=s
 H₀:=H
 env:=envOfC qual scope s.heap.objs.size f cd
 outer:=outer
 stack:=envOfC qual scope s.heap.objs.size f cd::outer
 ex:=[]
 calm:=true
 fn:=λ_=>true
 pn:=[]
 xe:=λe s'=>wpAny (model P w) (A.deeper (envOfC qual scope s.heap.objs.size f cd)) (leaving (envOfC qual scope s.heap.objs.size f cd) e) (λ_ s''=>CX outer H s E e s'') (λe' s''=>CX outer H s E e' s'') s'
def o8 {sc:Scope} {n:Nat} {x:Str} (h:sc.names.lookup x=some .cell):∃c,(cellsFrom n sc.names []).lookup x=some c:=by have q:=PySem.W.cellsFrom_some sc.names n [] (.inl h);exact Option.isSome_iff_exists.mp q
def vf {CX:lE} {P:Program} {w:World} {K:PySem.W.Frag} {mg:Str->Option Value} {base:Heap} {N ps:List Str} {qual:Str} {scope:Scope} {f:Addr} {cd:Value} {A:Around} {outer:List Env} {s s1:Shared} {H:Hp} {E:XK} {us:List Value} {vs:List V}
  (S:eK N ps scope) (hd:A.handled=none) (e0:Ai P w K mg base A outer s H) (hl:vs.length=ps.length) (r:aw vs us)
  (x:InCallC s s.heap.objs.size (bindL (envOfC qual scope s.heap.objs.size f cd).kindOf (ps.zip us) λ_=>none) (cellsFrom (s.heap.objs.size + 1) scope.names []) (bindC (envOfC qual scope s.heap.objs.size f cd).kindOf (ps.zip us) λ_=>none) s1):
  Inv (kK CX P w K mg base N qual scope f cd A outer s H E) [] (start N vs) H s1:=by
 have gL:ps.length<=N.length:=by have:=congrArg List.length S.pre;rw[List.length_take] at this;omega
 obtain⟨h1,tk,rfl,hk⟩:=x.done;have F4:∀b:Addr,b∉(kK CX P w K mg base N qual scope f cd A outer s H E).ex:=λb z=>absurd (show b∈([]:List Addr) from z) (by simp)
 refine⟨⟨e0.mod,S.kind,rfl,rfl,P4 _,λy z c h1 h2=>?_,λy hy=>?_,λy c _ h=>?_,λ_=>hd,Around.frames_deeper e0.frames,.inr ⟨rfl,rfl⟩,λb z=>absurd z (F4 b),e0.bs,e0.BV,λb _ _=>F4 b,λb z=>absurd z (F4 b),e0.k9,e0.Fp⟩,
  rfl,e0.bare,Un.kept hk,⟨_,x.toInCall.ns,λi y v h1 h2 h3=>?_⟩,λy c h=>⟨_,x.cell y c h⟩,e0.hok.fresh (P4 _),λy c h=>?_,λp hp=>absurd (show p∈([]:List (Addr×Obj)) from hp) (by simp),e0.hok.kept hk,?_⟩
 ·exact name_of_addr x.apart (PySem.mem_of_lookup h1) (PySem.mem_of_lookup h2)
 ·have hy:scope.names.lookup y=some .cell\/scope.names.lookup y=some .free:=hy;rcases hy with hy | hy
  ·exact o8 hy
  ·exact absurd rfl (S.EB _ (PySem.mem_of_lookup hy))
 ·exact Nat.le_of_lt (x.above y c (PySem.mem_of_lookup h))
 ·have hi:i < vs.length:=by
   unfold start at h2;by_cases hi:i < vs.length
   ·exact hi
   ·rw[QF (by simpa using hi)] at h2;rw[List.getElem?_replicate] at h2;split at h2 <;> cases h2
  have ha:vs[i]?=some v:=by
   unfold start at h2;rw[QE (by simpa using hi),Qi] at h2;cases e:vs[i]? with
   | none=>rw[e] at h2;cases h2
   | some a=>rw[e] at h2;cases h2;rfl
  obtain⟨u,hu,rv⟩:=r.get ha;have hp:ps[i]?=some y:=by rw[<-S.pre,List.getElem?_take_of_lt (by omega)];exact h1
  have Mz:ps.Nodup:=by rw[<-S.pre];exact S.nd.sublist (List.take_sublist _ _)
  refine⟨u,rv,?_⟩;rcases S.par y (List.mem_of_getElem? hp) with k | k
  ·exact .inl ⟨k,mK Mz hp hu k⟩
  ·obtain⟨c,e⟩:=o8 (n:=s.heap.objs.size + 1) k;refine .inr ⟨.inl k,c,e,?_⟩;have q:=x.cell y c e;rw[mE Mz hp hu (by show scope.names.lookup y≠_;rw[k];decide)] at q;exact q
 ·exact e0.hok.fresh (Nat.le_of_lt (x.above y c (PySem.mem_of_lookup h)))
 ·unfold start;show _=N.length;rw[Qf,P8,List.length_replicate];omega
def HU {CX:lE} {P:Program} {w:World} {K:PySem.W.Frag} {mg:Str->Option Value} {base:Heap} {k:Nat} {f:Addr} {name qual:Str} {params:Arguments} {body:List Stmt} {scope:Scope} {dV kV doc pm ft ct oc:Value} {an od:Option Addr}
  {tL:Array (Option Value)} {N ps:List Str} {sp:Sp} (lk:K.lookup f=some ⟨oc,od,.func (PySem.W.fnOf name qual params body scope dV kV doc pm an ft ct),tL⟩) (zM:PySem.W.codeIn K ft qual=true) (S:eK N ps scope)
  (len:∀vs H Q E,sp vs H Q E->vs.length=ps.length)
  (GT:∀(A:Around) (outer:List Env) (s:Shared) (H:Hp) (vs:List V) (Q:VK) (E:XK),iJ k (A.deeper (envOfC qual scope s.heap.objs.size f ft))->sp vs H Q E->
   ∃t,qL (kK CX P w K mg base N qual scope f ft A outer s H E) body t/\t {nx:=λ_ H'=>Q .bo H',rt:=Q} (start N vs) H):
  jb P w K mg base CX (k + 1) f (PySem.W.fnOf name qual params body scope dV kV doc pm an ft ct) ps sp:=by
 refine⟨len,λA outer s H args us vs Q E hr e0 hb r ml=>?_⟩;have hl:=len _ _ _ _ ml;have KX:K.In s.heap:=e0.mod.Kb.keeps λb o e=>(e0.bs b o e).1
 have lim:s.heap.NoLimit:=e0.mod.nolimit.keeps λb o e=>(e0.bs b o e).1
 have He:∀y∈ps.zip us,scope.names.lookup y.1=some .local\/(scope.names.lookup y.1=some .cell/\((cellsFrom (s.heap.objs.size + 1) scope.names []).lookup y.1).isSome=true):=λ⟨n,v⟩ hy=>by
  rcases S.par n (List.of_mem_zip hy).1 with q | q
  ·exact .inl q
  ·exact .inr ⟨q,PySem.W.cellsFrom_some _ _ _ (.inl q)⟩
 refine codeAny_call_function hr.depth (KX _ _ lk) rfl S.co S.gen rfl (PySem.W.codeRec_of KX zM) (hb _ _ _ _ ?_);refine wpAny_newFunctionEnv_cells S.kind He λenv he s1 x=>?_
 subst he;refine⟨lim.keeps x.toInCall.keep,codeAny_func ?_⟩;obtain⟨t,ht,hq⟩:=GT A outer s H vs Q E (hr.deeper _) ml;have I:Inv (kK CX P w K mg base N qual scope f ft A outer s H E) [] (start N vs) H s1:=vf S hr.hd e0 hl r x;refine wpAny_mono (ht [] s1 (start N vs) H _ I hq) (λfl s' hs=>?_) λe s' hs=>hs
 have fin:∀{σ':St} {H':Hp} {v:V} {u:Value},Inv (kK CX P w K mg base N qual scope f ft A outer s H E) [] σ' H' s'->RelV v u->Q v H'->CE outer P w H s Q u s':=
  λ {σ' H' v u} J rv q=>⟨v,H',J.os,J.bare,J.base,J.hok,rv,q⟩
 cases fl with
 | ret u=>obtain⟨v,σ',H',J,rv,q⟩:=hs;exact fin J rv q
 | next=>obtain⟨σ',H',J,q⟩:=hs;exact fin (v:=V.bo) (u:=Value.none) J rfl q
 | brk=>obtain⟨_,_,_,q⟩:=hs;exact False.elim q
 | cont=>obtain⟨_,_,_,q⟩:=hs;exact False.elim q
end L2
namespace L2
open PySem PySem.Spec PyProof.Rows
section
variable {X:Cx} {x:Str} {p pos:Pos} {e:Expr} {es:List Expr} {t:TA} {id T:String} {r:List V->Hp->VK->Prop}
def KB (r:List V->Hp->VK->Prop) (t:TA):TE:=λσ H Q=>t σ H λvs H1=>r vs H1 Q
def qx (hc:gv X (.builtin id) r) (hg:Gl X x) (hm:X.mg x=none) (hv:bootBuiltins x=some (.builtin id)) (ha:PA X (e::es) t) (hn:x≠"__name__":=by decide) (zX:(x==("__debug__":Str))=false:=by decide)
  (he:starEach (e::es) X.env=(false,eval e X.env)::starEach es X.env:=by rfl) (gL:(backTo pos (starEach es X.env)).any (·.1)=false:=by rfl):PE X (.Call (.Name x p) (e::es) [] pos) (KB r t):=by
 intro pins s σ H Q I h;refine wpAny_Call_Name_kw (d5 I hg hm hv ?_ hn zX);exact PyProof.Rows.callWith_builtin1 (bN (ha pos pins s σ H _ I h) λus s1 ⟨vs,H1,I1,r1,q1⟩=>hc pins s1 σ H1 vs us Q I1 r1 q1) he gL
def vQ (hc:gv X (.type T) r) (hg:Gl X x) (hm:X.mg x=none) (hv:bootBuiltins x=some (.type T)) (ha:PA X (e::es) t) (hn:x≠"__name__":=by decide) (zX:(x==("__debug__":Str))=false:=by decide)
  (he:starEach (e::es) X.env=(false,eval e X.env)::starEach es X.env:=by rfl) (gL:(backTo pos (starEach es X.env)).any (·.1)=false:=by rfl):PE X (.Call (.Name x p) (e::es) [] pos) (KB r t):=by
 intro pins s σ H Q I h;refine wpAny_Call_Name_kw (d5 I hg hm hv ?_ hn zX);exact PyProof.Rows.callWith_type1 (bN (ha pos pins s σ H _ I h) λus s1 ⟨vs,H1,I1,r1,q1⟩=>hc pins s1 σ H1 vs us Q I1 r1 q1) he gL
end
end L2
namespace HT
open PySem PyProof.Rows
section
variable {prog:Program} {w:World} {A:Around} {E:Value->Shared->Prop} {s:Shared}
def AO {t b:Addr} {vs ws:List Value} {Q:Value->Shared->Prop} (ht:IsTup s.heap t vs.toArray) (hb:IsTup s.heap b ws.toArray) (hv:vs≠[])
  (h1:ws=[]->Q (.ref t) s) (h2:ws≠[]->Q (.ref s.heap.objs.size) {s with heap:=s.heap.push {cls:= .type "tuple",data:= .seq (vs++ws).toArray}})
  (gY:vs.length + ws.length<=sizeLine):wpAny (model prog w) A (binaryOp .Add (.ref t) (.ref b)) Q E s:=by
 obtain⟨⟨cls,dd,data,sl⟩,ho,hc,n,hd⟩:=id ht;obtain⟨⟨HW,zH,data2,wj⟩,oV,vw,n2,hd2⟩:=id hb;simp only at hc hd vw hd2;subst hc hd vw hd2;have e:vs.toArray++ws.toArray=(vs++ws).toArray:=by simp
 by_cases hw:ws=[]
 ·exact concat_meets ⟨_,ho,rfl⟩ ⟨_,oV,rfl⟩ noFill_tuple_add seq_tuple_add PySem.F.slot_tuple_add PySem.F.entry_tuple_add (PySem.F.args_tuple_add_2 _ _)
   (tuple_addW1 t b vs.toArray ws.toArray n n2 dd zH sl wj (by simpa using hv) (by simp[hw])) ⟨ho,oV,h1 hw⟩
 ·refine concat_meets ⟨_,ho,rfl⟩ ⟨_,oV,rfl⟩ noFill_tuple_add seq_tuple_add PySem.F.slot_tuple_add PySem.F.entry_tuple_add (PySem.F.args_tuple_add_2 _ _)
   (tuple_addW2 t b vs.toArray ws.toArray n n2 dd zH sl wj (by simpa using hv) (by simpa using hw) (by rw[PY,PY];exact gY)) ⟨ho,oV,?_⟩
  rw[e];exact h2 hw
def bQ (n d:Nat):Option Int->Nat
 | none=>d
 | some v=>if v < 0 then(v + (n:Int)).toNat else min v.toNat n
def CT (n d:Nat) (hd:d<=n) (o:Option Int):bQ n d o<=n:=by
 cases o with
 | none=>exact hd
 | some v=>
  show (if v < 0 then(v + (n:Int)).toNat else min v.toNat n)<=n;by_cases hv:v < 0
  ·rw[if_pos hv];omega
  ·rw[if_neg hv];exact Nat.min_le_right _ _
def uu (v:Int) (n d:Nat):(if v < 0 then max (v + (n:Int)) 0 else min v (n:Int))=((bQ n d (some v):Nat):Int):=by grind [bQ]
def sC (lo hi:Option Int) (n:Nat):Builtin.Slice.sliceAdjust lo hi 1 (n:Int)=(((bQ n 0 lo:Nat):Int),((bQ n n hi:Nat):Int)):=by
 have h1:¬((1:Int) < 0):=by omega
 unfold Builtin.Slice.sliceAdjust;simp only[h1,if_false];refine Prod.ext ?_ ?_
 ·cases lo with
  | none=>rfl
  | some v=>exact uu v n 0
 ·cases hi with
  | none=>rfl
  | some v=>exact uu v n n
def rd (i j:Nat):Builtin.Slice.slicePlaces (i:Int) (j:Int) 1=j - i:=by
 unfold Builtin.Slice.slicePlaces;have h1:(1:Int) > 0:=by omega
 simp only[h1,if_true,Int.ediv_one];split <;> omega
def kQ {v:Value} {o:Option Int} {Q:Option Int->Shared->Prop} (p:IsPart v o) (h:Q o s):wpAny (model prog w) A (Builtin.Slice.slicePartIndex v) Q E s:=by
 cases p with
 | none=>exact slicePart_none h
 | int i t=>exact slicePart_int h
def eA {sl:Addr} {vl vu:Value} {lo hi:Option Int} {n:Nat} {Q:Int×Int×Nat->Shared->Prop} (hs:s.heap.IsSliceOf sl vl vu .none) (pl:IsPart vl lo) (pu:IsPart vu hi)
  (h:Q (((bQ n 0 lo:Nat):Int),1,bQ n n hi - bQ n 0 lo) s):wpAny (model prog w) A (Builtin.Slice.sliceApplied (.ref sl) (pure (n:Int))) Q E s:=by
 obtain⟨os,Dj,AE,wO⟩:=id hs;unfold Builtin.Slice.sliceApplied Builtin.Slice.sliceFields;refine PP (PP (wpAny_field Dj wO (x:=vl) rfl (PP (wpAny_field Dj wO (x:=vu) rfl (PP (wpAny_field Dj wO (x:= .none) rfl (PV ?_)))))));refine PP (slicePart_none ?_);show wpAny _ _ (if ((1:Int)==0)=true then _ else _) _ _ s;rw[if_neg (by decide)];refine PP (kQ pl (PP (kQ pu (PP (PV ?_)))));show wpAny _ _ (match Builtin.Slice.sliceAdjust lo hi 1 (n:Int) with | (lo,hi)=>pure (lo,(1:Int),Builtin.Slice.slicePlaces lo hi 1)) _ _ s;rw[sC lo hi n];show wpAny _ _ (pure (((bQ n 0 lo:Nat):Int),(1:Int),Builtin.Slice.slicePlaces ((bQ n 0 lo:Nat):Int) ((bQ n n hi:Nat):Int) 1)) _ _ s;rw[rd];exact PV h
def wZ (xs:Array Value) (i k:Nat):((List.range k).filterMap λ(m:Nat)=>xs[((i:Int) + (m:Int) * 1).toNat]?).toArray=((xs.toList.drop i).take k).toArray:=by
 have e:(λ(m:Nat)=>xs[((i:Int) + (m:Int) * 1).toNat]?)=λm=>xs[i + m]?:=by
  funext m;have:((i:Int) + (m:Int) * 1).toNat=i + m:=by omega
  rw[this]
 rw[e];have:=pick_run xs i k;rw[List.filterMap_map] at this;have e2:((λx=>xs[x]?) ∘ λx=>i + x)=λm=>xs[i + m]?:=rfl
 rw[e2] at this;rw[this]
def g6 {t sl:Addr} {items:Array Value} {vl vu:Value} {lo hi:Option Int} {Q:Value->Shared->Prop} (ht:IsTup s.heap t items) (hs:s.heap.IsSliceOf sl vl vu .none) (pl:IsPart vl lo) (pu:IsPart vu hi)
  (hw:¬(bQ items.size 0 lo=0/\bQ items.size items.size hi=items.size))
  (h:Q (.ref s.heap.objs.size) {s with heap:=s.heap.push {cls:= .type "tuple",data:= .seq ((items.toList.drop (bQ items.size 0 lo)).take (bQ items.size items.size hi - bQ items.size 0 lo)).toArray}})
  (gY:items.size<=sizeLine):wpAny (model prog w) A (getItem (.ref t) (.ref sl)) Q E s:=by
 have sX:sizeOk (.seq ((items.toList.drop (bQ items.size 0 lo)).take (bQ items.size items.size hi - bQ items.size 0 lo)).toArray):=by show ((items.toList.drop (bQ items.size 0 lo)).take (bQ items.size items.size hi - bQ items.size 0 lo)).toArray.size<=sizeLine;rw[PY,List.length_take,List.length_drop,Qj];omega
 have hj:bQ items.size items.size hi<=items.size:=CT _ _ (P4 _) hi;obtain⟨os,Dj,AE,wO⟩:=id hs;have LL:s.TypeIs (.ref sl) "slice":=⟨os,Dj,AE⟩;unfold getItem
 try with_reducible refine wpAny_holding ?_
 first | refine PP (PV ?_) | skip
 refine PP (wpAny_sequenceKey ht.typeIs (by decide) ?_);refine PP (wpAny_callSpecial?_slot (name:=Str.ofString "__getitem__") ht.typeIs PyProof.Rows.slot_tuple_getitem
  (wpAny_call_entry PyProof.Rows.slot_tuple_getitem ht.typeIs entry_tuple_getitem ?_ (args_tuple_getitem _ _)))
 show wpAny _ _ (Builtin.Tuple.tupleItemsOf (.ref t) >>=_) _ _ s;refine PP (tupleItemsOf_ ht ?_);refine PP (wpAny_typeOf LL ?_);rw[if_pos (by decide)];refine PP (eA hs pl pu ?_);have N1:¬((((bQ items.size 0 lo:Nat):Int)==0&&(1:Int)==1&&(bQ items.size items.size hi - bQ items.size 0 lo)==items.size)=true):=by intro q;rw[PX,PX] at q;have q1:((bQ items.size 0 lo:Nat):Int)=0:=Qm q.1.1;have q2:bQ items.size items.size hi - bQ items.size 0 lo=items.size:=Qm q.2;exact hw ⟨by omega,by omega⟩
 show wpAny _ _ (if (((bQ items.size 0 lo:Nat):Int)==0&&(1:Int)==1&&(bQ items.size items.size hi - bQ items.size 0 lo)==items.size)=true then _ else _) _ _ s;rw[if_neg N1,wZ]
 first
  | exact PP (m:=Builtin.Tuple.tupleExact _) (wpAny_newObj_type (PV ⟨_,rfl,PV h⟩) sX)
  | exact PP (m:=Builtin.Tuple.tupleExact _) (wpAny_newObj_type (PP (PV (PV ⟨_,rfl,PV h⟩))) sX)
  | exact PP (PP (m:=Builtin.Tuple.tupleExact _) (wpAny_newObj_type (PV (PV ⟨_,rfl,PV h⟩)) sX))
  | exact PP (PP (m:=Builtin.Tuple.tupleExact _) (wpAny_newObj_type (PV ⟨_,rfl,PV h⟩) sX))
end
end HT
namespace L2
open PySem PySem.Spec PyProof.Rows
abbrev TO:=St->Hp->(Option Int->Hp->Prop)->Prop
def PO (X:Cx) (e:Option Expr) (t:TO):Prop:=
 ∀(pins:List (Addr×Obj)) (s:Shared) (σ:St) (H:Hp) (Q:Option Int->Hp->Prop),Inv X pins σ H s->t σ H Q->
  wpAny (model X.prog X.w) X.A (evalPart e X.env) (λu s'=>∃o H',Inv X pins σ H' s'/\IsPart u o/\Q o H') X.xe s
def AA:TO:=λ_ H Q=>Q none H
def Iv (t:TE):TO:=λσ H Q=>t σ H λx H1=>∃i,x= .int i/\Q (some i) H1
section
variable {X:Cx} {e:Expr} {te:TE} {lo hi:Option Expr} {tl th:TO} {pos p2:Pos}
def uU:PO X none AA:=by intro pins s σ H Q I h;rw[evalPart_none];exact PV ⟨none,H,I,.none,h⟩
def uV (h:PE X e te):PO X (some e) (Iv te):=by
 intro pins s σ H Q I hw;rw[evalPart_some];refine bN (h pins s σ H _ I hw) λu s1 ⟨x,H1,I1,r1,q1⟩=>?_
 obtain⟨i,rfl,q⟩:=q1;obtain⟨t,rfl⟩:=r1;exact⟨some i,H1,I1,.int i t,q⟩
def Fk (X:Cx) (r:V->Option Int->Option Int->Hp->VK->Prop):Prop:=
 ∀(pins:List (Addr×Obj)) (s:Shared) (σ:St) (H:Hp) (x:V) (v vl vu:Value) (lo hi:Option Int) (sl:Addr) (Q:VK),Inv X pins σ H s->RelV x v->s.heap.IsSliceOf sl vl vu .none->IsPart vl lo->IsPart vu hi->r x lo hi H Q->
  ∃T id,typeLookup (.type T) "__getitem__"=pure (some (.builtin id))/\s.TypeIs v T/\wpAny (model X.prog X.w) X.A (getItem v (.ref sl)) (EP X pins σ Q) X.xe s
def Nt (r:V->Option Int->Option Int->Hp->VK->Prop) (te:TE) (tl th:TO):TE:=λσ H Q=>te σ H λx H1=>tl σ H1 λl H2=>th σ H2 λu H3=>r x l u H3 Q
def pR {r:V->Option Int->Option Int->Hp->VK->Prop} (hr:Fk X r) (he:PE X e te) (hl:PO X lo tl) (hu:PO X hi th):PE X (.Subscript e (.Slice lo hi none p2) pos) (Nt r te tl th):=by
 intro pins s σ H Q I h;refine Subscript_ (bN (he pins s σ H _ I h) λv s1 ⟨x,H1,I1,r1,q1⟩=>?_);refine wpAny_Slice (bN (hl pins s1 σ H1 _ I1 q1) λvl s2 ⟨l,H2,I2,pl,q2⟩=>bN (hu pins s2 σ H2 _ I2 q2) λvu s3 ⟨u,H3,I3,pu,q3⟩=>?_);rw[evalPart_none];refine PV ?_;have I4:Inv X pins σ H3 {s3 with heap:=s3.heap.push {cls:= .type "slice",data:= .fields #[vl,vu,.none]}}:=I3.kept (t':=s3.toks) λb ob q=>PU _ q
 obtain⟨T,id,hT,ht,hg⟩:=hr pins {s3 with heap:=s3.heap.push {cls:= .type "slice",data:= .fields #[vl,vu,.none]}} σ H3 x v vl vu l u s3.heap.objs.size Q I4 r1 (Heap.IsSliceOf.new ..) pl pu q3;show wpAny (model X.prog X.w) X.A (subscriptTail e (.Slice lo hi none p2) v (.ref s3.heap.objs.size)) (EP X pins σ Q) X.xe {s3 with heap:=s3.heap.push {cls:= .type "slice",data:= .fields #[vl,vu,.none]}};exact tail_any (ops:=[.ref s3.heap.objs.size,v]) ht hT hg (by with_unfolding_all rfl)
def lO (xs:List V) (lo hi:Option Int):List V:=(xs.drop (HT.bQ xs.length 0 lo)).take (HT.bQ xs.length xs.length hi - HT.bQ xs.length 0 lo)
def jk (xs:List V) (lo hi:Option Int):(lO xs lo hi).length<=xs.length:=by unfold lO;rw[List.length_take,List.length_drop];omega
def Kc (K:PySem.W.Frag):V->Option Int->Option Int->Hp->VK->Prop:=λx lo hi H Q=>∃a xs,x= .ref a/\eW K H a xs/\
 ¬(HT.bQ xs.length 0 lo=0/\HT.bQ xs.length xs.length hi=xs.length)/\∀p,H p=none->Q (.ref p) (upd H p (.tup (lO xs lo hi)))
def CQ:Fk X (Kc X.K):=by
 intro pins s σ H x v vl vu lo hi sl Q I rx hs pl pu h;obtain⟨a,xs,rfl,hx,hw,q⟩:=h;cases rx;obtain⟨its,r,ht,hz⟩:=I.tuple hx;have hlen:its.toArray.size=xs.length:=by rw[PY];exact r.length.symm
 refine⟨"tuple",_,PyProof.Rows.slot_tuple_getitem.lookup,ht.typeIs,?_⟩;refine HT.g6 ht hs pl pu (by rw[hlen];exact hw) ?_ (by rw[hlen];exact hz);rw[hlen];refine⟨.ref s.heap.objs.size,_,I.laid (t':=s.toks) (o:= .tup (lO xs lo hi)) (λb ob q=>PU _ q) (P4 _) ?_,rfl,q _ (I.hok.fresh (P4 _))⟩;exact⟨Qa (jk xs lo hi) hz,_,(r.drop (HT.bQ xs.length 0 lo)).take (HT.bQ xs.length xs.length hi - HT.bQ xs.length 0 lo),IsTup.new _ _⟩
def HV (K:PySem.W.Frag):R2:=λx y H Q=>∃a b xs ys,x= .ref a/\y= .ref b/\eW K H a xs/\eW K H b ys/\xs≠[]/\xs.length + ys.length<=sizeLine/\
 (ys=[]->Q (.ref a) H)/\(ys≠[]->∀p,H p=none->Q (.ref p) (upd H p (.tup (xs++ys))))
def aw.nc {xs:List V} {us:List Value} (r:aw xs us):us=[]↔xs=[]:=by
 cases r with
 | nil=>simp
 | cons _ _=>simp
def jK:jW X (binaryOp .Add) (HV X.K):=by intro pins s σ H x y v u Q I rx ry h;obtain⟨a,b,xs,ys,rfl,rfl,ha,hb,hx,hz,q1,q2⟩:=h;cases rx;cases ry;obtain⟨its,r1,p1,_⟩:=I.tuple ha;obtain⟨aM,r2,p2,_⟩:=I.tuple hb;refine HT.AO p1 p2 (λz=>hx (r1.nc.mp z)) (λz=>⟨.ref a,H,I,rfl,q1 (r2.nc.mp z)⟩) (λz=>?_) (by rw[<-r1.length,<-r2.length];exact hz);refine⟨.ref s.heap.objs.size,_,I.laid (t':=s.toks) (o:= .tup (xs++ys)) (λb ob q=>PU _ q) (P4 _) ?_,rfl,q2 (λw=>z (r2.nc.mpr w)) _ (I.hok.fresh (P4 _))⟩;exact⟨by rw[Qf];exact hz,_,r1.append r2,IsTup.new _ _⟩
end
end L2
namespace L2
open PySem PySem.Spec PyProof.Rows
def nv (n:Nat) (i:Int):Option Nat:=if 0<=i then(if i < n then some i.toNat else none) else if -(n:Int)<=i then some (i + n).toNat else none
def ka {α:Type} (xs:List α) (i:Int):Option α:=(nv xs.length i).bind λj=>xs[j]?
theorem uD {n:Nat} {i:Int} {j:Nat} (h:nv n i=some j):seqIndex? i n=some j/\j < n/\ -(n:Int)<=i/\i < n:=by
 unfold nv at h;by_cases h0:0<=i
 ·rw[if_pos h0] at h;by_cases h1:i < n
  ·rw[if_pos h1] at h;have e:i.toNat=j:=Option.some.inj h;exact⟨by rw[seqIndex_of h0 h1,e],by omega,by omega,h1⟩
  ·rw[if_neg h1] at h;cases h
 ·rw[if_neg h0] at h;by_cases h1: -(n:Int)<=i
  ·rw[if_pos h1] at h;have e:(i + n).toNat=j:=Option.some.inj h;exact⟨by rw[seqIndex_neg (by omega) h1,e],by omega,h1,by omega⟩
  ·rw[if_neg h1] at h;cases h
def om {α:Type} {xs:List α} {i:Int} {v:α} (h:ka xs i=some v):∃j,seqIndex? i xs.length=some j/\xs[j]?=some v/\j < xs.length/\ -(xs.length:Int)<=i/\i < xs.length:=by grind [ka,nv,uD]
def fT {α:Type} {xs:List α} {j:Nat} {v:α} (h:xs[j]?=some v):ka xs (j:Int)=some v:=by grind [nv,ka]
def pC {α:Type} (xs:List α) (v:α):ka (xs++[v]) (-1)=some v:=by
 have hl:(xs++[v]).length=xs.length + 1:=by simp
 have e:nv (xs++[v]).length (-1)=some xs.length:=by unfold nv;rw[hl,if_neg (by decide),if_pos (by omega)];congr 1;omega
 unfold ka;rw[e];show (xs++[v])[xs.length]?=some v;simp
def nX (b:Expr):Prop:=∀o i,subscripted b false o i=operate [o,i] (getItem o i)
def FD (X:Cx) (r:R2):Prop:=
 ∀(value slice:Expr) (pins:List (Addr×Obj)) (s:Shared) (σ:St) (H:Hp) (x y:V) (v u:Value) (Q:VK),Inv X pins σ H s->RelV x v->RelV y u->r x y H Q->
  subscripted slice false v u=operate [v,u] (getItem v u)->wpAny (model X.prog X.w) X.A (subscriptTail value slice v u) (EP X pins σ Q) X.xe s
def Mh (X:Cx) (id:String) (r:V->List V->Hp->VK->Prop):Prop:=
 ∀(pins:List (Addr×Obj)) (s:Shared) (σ:St) (H:Hp) (x:V) (xs:List V) (v:Value) (us:List Value) (Q:VK),Inv X pins σ H s->RelV x v->aw xs us->r x xs H Q->
  wpAny (model X.prog X.w) X.A (call (.builtin id) (v::us)) (EP X pins σ Q) X.xe s
section
variable {X:Cx} {a b:Expr} {ta tb:TE} {pos:Pos}
def HF {r:R2} (hr:FD X r) (ha:PE X a ta) (hb:PE X b tb) (hs:nX b):PE X (.Subscript a b pos) (IK r ta tb):=by intro pins s σ H Q I h;exact Subscript_ (Do ha hb I h λv u s2 x y H2 I2 rx ry q=>hr a b pins s2 σ H2 x y v u Q I2 rx ry q (hs _ _))
def Lp (K:PySem.W.Frag):R2:=λx y H Q=>∃p xs i v,x= .ref p/\y= .int i/\d9 K H p xs/\ka xs i=some v/\Q v H
def J0 (K:PySem.W.Frag):R2:=λx y H Q=>∃p xs i v,x= .ref p/\y= .int i/\eW K H p xs/\ka xs i=some v/\Q v H
def LG:R2:=λx y H Q=>∃z i c,x= .str z/\y= .int i/\z.length<=sizeLine/\ka z.cps.toList i=some c/\Q (.str ⟨#[c]⟩) H
def tS:FD X (Lp X.K):=by
 intro value slice pins s σ H x y v u Q I rx ry h hs;obtain⟨p,xs,i,z,rfl,rfl,hq,he,q⟩:=h;cases rx;obtain⟨t,rfl⟩:=ry;obtain⟨its,r,pl,hz⟩:=I.list hq;obtain⟨j,h1,h2,h3,h4,h5⟩:=om he;obtain⟨w,ew,LB⟩:=r.get h2;have hl:=r.length;have hn:=i9;have fin:EP X pins σ Q w s:=⟨z,H,I,LB,q⟩;by_cases h0:0<=i
 ·have hj:i.toNat=j:=by rw[seqIndex_of h0 h5] at h1;exact Option.some.inj h1
  exact item_listR pl.isList h0 (by omega) (by rw[hj];simpa using ew) fin hs
 ·have hj:(i + (its.toArray.size:Int)).toNat=j:=by rw[seqIndex_neg (by omega) h4] at h1;rw[PY,<-hl];exact Option.some.inj h1
  exact subscriptTail_builtinR (x:=w) pl.isList.typeIs slot_list_getitem.lookup
   (wpAny_getItem_list_neg (Q:=λr s'=>r=w/\EP X pins σ Q r s') pl.isList (by omega) (by rw[PY] <;> omega) (by omega) (by rw[hj];simpa using ew) ⟨rfl,fin⟩) hs
def Df:FD X (J0 X.K):=by
 intro value slice pins s σ H x y v u Q I rx ry h hs;obtain⟨p,xs,i,z,rfl,rfl,hq,he,q⟩:=h;cases rx;obtain⟨t,rfl⟩:=ry;obtain⟨its,r,pl,hz⟩:=I.tuple hq;obtain⟨j,h1,h2,h3,h4,h5⟩:=om he;obtain⟨w,ew,LB⟩:=r.get h2;have hl:=r.length;have hn:=i9;have fin:EP X pins σ Q w s:=⟨z,H,I,LB,q⟩;exact subscriptTail_builtinR (x:=w) pl.typeIs slot_tuple_getitem.lookup
  (getItem_tuple (j:=j) (Q:=λr s'=>r=w/\EP X pins σ Q r s') pl (by omega) (by omega) (by rw[PY,<-hl];exact h1) (by simpa using ew) ⟨rfl,fin⟩) hs
def Du:FD X LG:=by
 intro value slice pins s σ H x y v u Q I rx ry h hs;obtain⟨z,i,c,rfl,rfl,hz,he,q⟩:=h;obtain⟨t,rfl⟩:=rx;obtain⟨t',rfl⟩:=ry;obtain⟨j,h1,h2,h3,h4,h5⟩:=om he;have hl:z.cps.toList.length=z.length:=by simp[Str.length]
 rw[hl] at h1 h4 h5;have hn:=i9;exact tail_any (typeIs_str s z t) slot_str_getitem.lookup (getItem_str (c:=c) (by
  have e1:decide (i < -(2 ^ 63:Int))=false:=Qo (by omega);have e2:decide (i>=2 ^ 63)=false:=Qo (by omega);rw[e1,e2,Bool.or_false]) (by rw[h1];simpa using h2) ⟨.str ⟨#[c]⟩,H,I.tok _,⟨_,rfl⟩,q⟩) hs
def rf (its:List Value) (n j:Nat) (u:Value):Obj.mapSeq (·.setIfInBounds j u) {cls:= .type "list",data:= .seq its.toArray n}={cls:= .type "list",data:= .seq (its.set j u).toArray n}:=by simp[Obj.mapSeq]
def Inv.lst {pins:List (Addr×Obj)} {σ:St} {H:Hp} {s:Shared} {p:Addr} {xs:List V} (I:Inv X pins σ H s) (h:H p=some (.lst xs)):
  ∃(its:List Value) (n:Nat),aw xs its/\s.heap.get? p=some {cls:= .type "list",data:= .seq its.toArray n}/\xs.length<=sizeLine:=by
 obtain⟨z,its,n,r,e⟩:=I.hok p _ h;exact⟨its,n,r,e,z⟩
def Inv.EW {pins:List (Addr×Obj)} {σ:St} {H:Hp} {s:Shared} {p:Addr} {xs ys:List V} {its its':List Value} {n n':Nat} {f:Obj->Obj} (I:Inv X pins σ H s) (h:H p=some (.lst xs))
  (ho:s.heap.get? p=some {cls:= .type "list",data:= .seq its.toArray n}) (hf:f {cls:= .type "list",data:= .seq its.toArray n}={cls:= .type "list",data:= .seq its'.toArray n'}) (r:aw ys its') (hz:ys.length<=sizeLine) (t:Nat):
  Inv X pins σ (upd H p (.lst ys)) {s with heap:=s.heap.update p f,toks:=t}:=by
 have e:(s.heap.update p f).get? p=some {cls:= .type "list",data:= .seq its'.toArray n'}:=by rw[Heap.get?_update_self f ho (by rw[hf] <;> rfl),hf]
 refine I.write (x:=p) (e:=p) (by rw[h];trivial) (.inl rfl) (λb u hb q=>(Qr _ _ (Ne.symm hb)).trans q) ⟨_,e⟩ ?_;exact⟨hz,its',n',r,e⟩
def Cv:V->V->V->Hp->(Hp->Prop)->Prop:=λo i v H Q=>∃p xs k j,o= .ref p/\i= .int k/\H p=some (.lst xs)/\nv xs.length k=some j/\Q (upd H p (.lst (xs.set j v)))
def set_list:HA X Cv:=by
 intro pins s σ H o i v ov iv u Q I ro ri rv h;obtain⟨p,xs,k,j,rfl,rfl,hp,hj,q⟩:=h;cases ro;obtain⟨t,rfl⟩:=ri;obtain⟨its,n,r,ho,hz⟩:=I.lst hp;obtain⟨h1,h2,h3,h4⟩:=uD hj;have hl:=r.length;have hn:=i9;have I':Inv X pins σ (upd H p (.lst (xs.set j v))) {s with heap:=s.heap.update p (Obj.mapSeq (·.setIfInBounds j u))}:=
  I.EW hp ho (rf its n j u) (r.set rv j) (by rw[List.length_set];exact hz) s.toks
 by_cases h0:0<=k
 ·have hk:k.toNat=j:=by rw[seqIndex_of h0 h4] at h1;exact Option.some.inj h1
  exact PySem.W.ki_setAt ho h0 (by omega) (by rw[PY,<-hl];exact h4) (by rw[hk];exact⟨_,I',q⟩)
 ·have hk:(k + (its.toArray.size:Int)).toNat=j:=by rw[seqIndex_neg (by omega) h3] at h1;rw[PY,<-hl];exact Option.some.inj h1
  exact PySem.W.ki_setBack ho (by omega) (by rw[PY,<-hl];exact h3) (by omega) (by rw[hk];exact⟨_,I',q⟩)
def n0 (lo hi:Option Int) (n:Nat):(sliceBounds lo hi none n).1=((HT.bQ n 0 lo:Nat):Int)/\(sliceBounds lo hi none n).2.1=((HT.bQ n n hi:Nat):Int)/\(sliceBounds lo hi none n).2.2=1:=by
 refine⟨?_,?_,rfl⟩
 ·cases lo with
  | none=>simp[sliceBounds,HT.bQ]
  | some i=>
   simp only[sliceBounds,HT.bQ,Option.getD_none,show (1:Int) > 0 by decide,if_true];by_cases h:i < 0
   ·simp only[h,if_true] <;> omega
   ·simp only[h,if_false] <;> omega
 ·cases hi with
  | none=>simp[sliceBounds,HT.bQ]
  | some i=>
   simp only[sliceBounds,HT.bQ,Option.getD_none,show (1:Int) > 0 by decide,if_true];by_cases h:i < 0
   ·simp only[h,if_true] <;> omega
   ·simp only[h,if_false] <;> omega
def lN (its:List Value) (lo hi:Option Int):slicePick its.toArray lo hi none=((its.drop (HT.bQ its.length 0 lo)).take (HT.bQ its.length its.length hi - HT.bQ its.length 0 lo)).toArray:=by obtain⟨h1,h2,h3⟩:=n0 lo hi its.toArray.size;unfold slicePick;rw[h1,h2,h3];simp only[sliceRange_one,pick_run,PY] <;> rfl
def JY (K:PySem.W.Frag):V->Option Int->Option Int->Hp->VK->Prop:=λx lo hi H Q=>∃a xs,x= .ref a/\d9 K H a xs/\∀p,H p=none->Q (.ref p) (upd H p (.lst (lO xs lo hi)))
def tf:Fk X (JY X.K):=by intro pins s σ H x v vl vu lo hi sl Q I rx hs pl pu h;obtain⟨a,xs,rfl,hx,q⟩:=h;cases rx;obtain⟨its,r,ht,hz⟩:=I.list hx;have hlen:=r.length;refine⟨"list",_,slot_list_getitem.lookup,ht.isList.typeIs,?_⟩;refine wpAny_getItem_list_slice ht.isList hs pl pu .none (by simp) ?_ (by rw[PY] <;> omega);rw[lN,<-hlen];refine⟨.ref s.heap.objs.size,_,I.laid (t':=s.toks) (o:= .lst (lO xs lo hi)) (λb ob q=>PU _ q) (P4 _) ?_,rfl,q _ (I.hok.fresh (P4 _))⟩;exact⟨Qa (jk xs lo hi) hz,_,0,(r.drop (HT.bQ xs.length 0 lo)).take (HT.bQ xs.length xs.length hi - HT.bQ xs.length 0 lo),P6 _ rfl⟩
def eS:gv X (.type "list") (λxs H Q=>∃p ys,xs=[.ref p]/\(d9 X.K H p ys\/eW X.K H p ys)/\∀l,H l=none->Q (.ref l) (upd H l (.lst ys))):=by
 intro pins s σ H xs us Q I r h;obtain⟨p,ys,rfl,hq,q⟩:=h;obtain⟨u,rfl,rx⟩:=vals1 r;cases rx;have fin:∀(its:List Value),aw ys its->ys.length<=sizeLine->∀(h':Heap) (c':Nat),(∀b o',s.heap.get? b=some o'->h'.get? b=some o')->
   h'.get? s.heap.objs.size=some {cls:= .type "list",dict:=none,data:= .seq its.toArray c',slots:=#[]}->EP X pins σ Q (.ref s.heap.objs.size) {s with heap:=h'}:=λits r' hz h' c' kp e=>
  ⟨.ref s.heap.objs.size,_,I.laid (t':=s.toks) kp (P4 _) (show bY X.prog X.w _ h' _ (.lst ys) from⟨hz,its,c',r',e⟩),rfl,q _ (I.hok.fresh (P4 _))⟩
 rcases hq with hq | hq
 ·obtain⟨its,r',pl,hz⟩:=I.list hq;have hlen:=r'.length;obtain⟨o,ho,hc,n,hd⟩:=pl.isList;exact call_list_seq p (.inl rfl) ho hc hd (λh' c' kp e=>fin its r' hz h' c' kp e) (by simp only[PY] <;> omega)
 ·obtain⟨its,r',pl,hz⟩:=I.tuple hq;have hlen:=r'.length;obtain⟨o,ho,hc,n,hd⟩:=pl;exact call_list_seq p (.inr rfl) ho hc hd (λh' c' kp e=>fin its r' hz h' c' kp e) (by simp only[PY] <;> omega)
def gA:gv X (.type "tuple") (λxs H Q=>∃p ys,xs=[.ref p]/\((d9 X.K H p ys/\∀l,H l=none->Q (.ref l) (upd H l (.tup ys)))\/(eW X.K H p ys/\Q (.ref p) H))):=by
 intro pins s σ H xs us Q I r h;obtain⟨p,ys,rfl,h⟩:=h;obtain⟨u,rfl,rx⟩:=vals1 r;cases rx;rcases h with ⟨hq,q⟩ | ⟨hq,q⟩
 ·obtain⟨its,r',pl,hz⟩:=I.list hq;have hlen:=r'.length;refine call_tuple_list pl.isList (λh' kp=>?_) (by simp only[PY] <;> omega);have I1:Inv X pins σ H {s with heap:=h'}:=I.kept (t':=s.toks) kp;have I2:Inv X pins σ (upd H h'.objs.size (.tup ys)) {s with heap:=h'.push {cls:= .type "tuple",data:= .seq its.toArray}}:=
   I1.laid (t':=s.toks) (λb o e=>PU _ e) (P4 _) (show bY X.prog X.w _ _ _ (.tup ys) from⟨hz,its,r',IsTup.new _ _⟩)
  exact⟨.ref h'.objs.size,_,I2,rfl,q _ (I1.hok.fresh (P4 _))⟩
 ·obtain⟨its,r',pl,hz⟩:=I.tuple hq;exact call_tuple_same pl ⟨.ref p,H,I,rfl,q⟩
def LD (K:PySem.W.Frag) (T:String) (x:V) (H:Hp):Prop:=match x with
 | .str _=>T="str"
 | .int _=>T="int"
 | .ref p=>(T="list"/\∃xs,d9 K H p xs)\/(T="tuple"/\∃o,K.lookup p=some o/\o.cls= .type "tuple"/\o.dict=none)\/
   (T="dict"/\((∃fg,H p=some (.dK fg))\/∃fg,H p=some (.dT fg)))\/(T="set"/\∃S n,H p=some (.set S n))
 | _=>False
def zE {pins:List (Addr×Obj)} {σ:St} {H:Hp} {s:Shared} {T:String} {x:V} {v:Value} (I:Inv X pins σ H s) (r:RelV x v) (ty:LD X.K T x H):
  s.TypeIs v T/\∀a,v= .ref a->∃ob,s.heap.get? a=some ob/\ob.dict=none:=by
 cases x with
 | str z=>obtain⟨t,rfl⟩:=r;cases (show T="str" from ty);exact⟨typeIs_str s z t,λ_ e=>nomatch e⟩
 | int i=>obtain⟨t,rfl⟩:=r;cases (show T="int" from ty);exact⟨typeIs_int s i t,λ_ e=>nomatch e⟩
 | ref p=>
  cases r;rcases ty with ⟨rfl,xs,hq⟩ | ⟨rfl,o,hk,hc,hd⟩ | ⟨rfl,hk⟩ | ⟨rfl,S,n,hk⟩
  ·obtain⟨its,_,pl,_⟩:=I.list hq;refine⟨pl.isList.typeIs,λa e=>?_⟩;cases e;obtain⟨o,n,e,c,hd,_⟩:=pl;exact⟨o,e,hd⟩
  ·refine⟨⟨o,I.p5 p o hk,hc⟩,λa e=>?_⟩;cases e;exact⟨o,I.p5 _ o hk,hd⟩
  ·have z:∃o,s.heap.get? p=some o/\o.ExactDict:=by
    rcases hk with ⟨fg,hk⟩ | ⟨fg,hk⟩
    ·obtain⟨_,_,_,_,o,_,_,e,ex,_⟩:=I.hok p _ hk;exact⟨o,e,ex⟩
    ·obtain⟨_,_,_,_,o,_,_,e,ex,_⟩:=I.hok p _ hk;exact⟨o,e,ex⟩
   obtain⟨o,e,ex⟩:=z;refine⟨⟨o,e,ex.1⟩,λa e2=>?_⟩;cases e2;exact⟨o,e,ex.2.1⟩
  ·obtain⟨o,_,_,_,e,ex,_⟩:=I.hok p _ hk;refine⟨⟨o,e,ex.1⟩,λa e2=>?_⟩;cases e2;exact⟨o,e,ex.2.1⟩
 | _=>exact False.elim ty
def FF (K:PySem.W.Frag) (T:String) (r:V->List V->Hp->VK->Prop) (to:TE):TE:=λσ H Q=>to σ H λx H1=>LD K T x H1/\r x [] H1 Q
def Lg (K:PySem.W.Frag) (T:String) (r:V->List V->Hp->VK->Prop) (to:TE) (t:TA):TE:=λσ H Q=>to σ H λx H1=>LD K T x H1/\t σ H1 λxs H2=>r x xs H2 Q
variable {o e:Expr} {es:List Expr} {to:TE} {t:TA} {name:Str} {apos fD:Pos} {T id:String} {r:V->List V->Hp->VK->Prop}
def DY (pa:PlainAttrs T) (slot:Slot T name id) (K3:typeOf (.builtin id)=pure (.type "method_descriptor")) (hm:Mh X id r) (ho:PE X o to)
  (yu:attributeBase o name X.env (eval o X.env)=eval o X.env:=by rfl) (xl:(apos.endLine==fD.line)=true:=by rfl):PE X (.Call (.Attribute o name apos) [] [] fD) (FF X.K T r to):=by
 intro pins s σ H Q I h;refine wpAny_Call_method0_late yu xl (bN (ho pins s σ H _ I h) λv s1 ⟨x,H1,I1,r1,ty,q1⟩=>?_);obtain⟨h1,h2⟩:=zE I1 r1 ty;exact⟨T,id,pa,slot,K3,h1,h2,Calls.callWith_builtin rfl (PySem.evalArgs_none (hm pins s1 σ H1 x [] v [] Q I1 r1 .nil q1))⟩
def Cw (pa:PlainAttrs T) (slot:Slot T name id) (K3:typeOf (.builtin id)=pure (.type "method_descriptor")) (hm:Mh X id r) (ho:PE X o to) (ha:PA X (e::es) t)
  (yu:attributeBase o name X.env (eval o X.env)=eval o X.env:=by rfl)
  (LW:((backTo fD (starEach (e::es) X.env)).all (λx=> !x.1)&&(backToKw fD (keywordEach [] X.env)).all (λx=>x.1.isSome)
   &&decide ((e::es).length + ([]:List Keyword).length + (if ([]:List Keyword).isEmpty then 0 else 1) < 30))=true:=by rfl)
  (xl:(apos.endLine==fD.line)=true:=by rfl) (hs:starEach (e::es) X.env=(false,eval e X.env)::starEach es X.env:=by rfl) (Dp:(backTo fD (starEach es X.env)).any (·.1)=false:=by rfl):
  PE X (.Call (.Attribute o name apos) (e::es) [] fD) (Lg X.K T r to t):=by
 intro pins s σ H Q I h;refine wpAny_Call_method_late yu LW xl rfl (bN (ho pins s σ H _ I h) λv s1 ⟨x,H1,I1,r1,ty,q1⟩=>?_);obtain⟨h1,h2⟩:=zE I1 r1 ty;refine⟨T,id,pa,slot,K3,h1,h2,?_⟩;have hA:=ha fD pins s1 σ H1 _ I1 q1;rw[hs] at hA ⊢;refine Calls.callWith_builtin (by show (false||(backTo fD (starEach es X.env)).any (·.1))=false;rw[Dp] <;> rfl) (Calls.evalArgs_plain ?_);exact bN hA λus s2 ⟨vs,H2,I2,r2,q2⟩=>hm pins s2 σ H2 x vs v us Q I2 r1 r2 q2
end
end L2
namespace L2
open PySem PySem.Spec PyProof.Rows
def Jo (X:Cx) (id:String) (r:V->List V->Hp->VK->Prop):Prop:=
 ∀(pins:List (Addr×Obj)) (s:Shared) (σ:St) (H:Hp) (x:V) (xs:List V) (v:Value) (us:List Value) (Q:VK),Inv X pins σ H s->RelV x v->aw xs us->r x xs H Q->
  wpAny (model X.prog X.w) X.A (call (.builtin id) (v::us)) (EP X pins σ Q) X.xe s
def aw.one:∀{x:V} {us:List Value},aw [x] us->∃u,us=[u]/\RelV x u
 | _,_,.cons r .nil=>⟨_,rfl,r⟩
def aw.two:∀{x y:V} {us:List Value},aw [x,y] us->∃u v,us=[u,v]/\RelV x u/\RelV y v
 | _,_,_,.cons r (.cons q .nil)=>⟨_,_,rfl,r,q⟩
def aw.zero:∀{us:List Value},aw [] us->us=[]
 | _,.nil=>rfl
def aw.dropLast {xs:List V} {us:List Value} (h:aw xs us):aw xs.dropLast us.dropLast:=by
 induction h with
 | nil=>exact .nil
 | cons r t ih=>
  cases t with
  | nil=>exact .nil
  | cons q t'=>exact .cons r ih
def aw.rep {xs:List V} {us:List Value} (h:aw xs us):∀k:Nat,aw (List.replicate k xs).flatten (List.replicate k us).flatten
 | 0=> .nil
 | k + 1=>by rw[List.replicate_succ,List.replicate_succ,List.flatten_cons,List.flatten_cons];exact aw.append h (aw.rep h k)
def rb {α:Type} (l:List α):l.eraseIdx (l.length - 1)=l.dropLast:=by grind
def foldl_rep (its:List Value):∀(k:Nat) (acc:List Value),
  List.foldl (λx1 x2=>x1++x2) acc.toArray (List.replicate k its.toArray)=(acc++(List.replicate k its).flatten).toArray
 | 0,acc=>by simp
 | k + 1,acc=>by
  have e:acc.toArray++its.toArray=(acc++its).toArray:=by simp
  have e2:(acc++its)++(List.replicate k its).flatten=acc++(List.replicate (k + 1) its).flatten:=by rw[List.replicate_succ,List.flatten_cons,Qd]
  rw[<-e2,<-foldl_rep its k (acc++its),<-e,List.replicate_succ,List.foldl_cons]
section
variable {X:Cx} {pins:List (Addr×Obj)} {σ:St} {H:Hp} {s:Shared} {l b:Addr} {xs ys zs:List V}
def Inv.Bx {its its':List Value} {n:Nat} {f:Array Value->Array Value} {t':Nat} (I:Inv X pins σ H s) (hH:H l=some (.lst xs))
  (e:s.heap.get? l=some {cls:= .type "list",data:= .seq its.toArray n}) (hf:f its.toArray=its'.toArray) (hv:aw ys its') (hz:ys.length<=sizeLine):
  Inv X pins σ (upd H l (.lst ys)) {s with heap:=s.heap.update l (Obj.mapSeq f),toks:=t'}:=by
 have q:=PySem.IsL.update e f;rw[hf] at q;refine I.write (x:=l) (e:=l) (by rw[hH];exact trivial) (.inl rfl) (λb' u hb hu=>(Qr s.heap (Obj.mapSeq f) (Ne.symm hb)).trans hu) ⟨_,q⟩ ?_;exact⟨hz,its',_,hv,q⟩
def Inv.C9 {its:List Value} {t':Nat} (I:Inv X pins σ H s) (hv:aw ys its) (hz:ys.length<=sizeLine):
  Inv X pins σ (upd H s.heap.objs.size (.lst ys)) {s with heap:=s.heap.push {cls:= .type "list",data:= .seq its.toArray},toks:=t'}:=
 I.laid (λ_ _ q=>PU _ q) (P4 _) ⟨hz,its,0,hv,P6 _ rfl⟩
def Inv.fresh (I:Inv X pins σ H s):H s.heap.objs.size=none:=I.hok.fresh (P4 _)
def Inv.pW (I:Inv X pins σ H s) (hH:H l=some (.lst xs)):xs.length<=sizeLine/\∃(its:List Value) (n:Nat),aw xs its/\xs.length=its.length/\s.heap.get? l=some {cls:= .type "list",data:= .seq its.toArray n}:=by obtain⟨z,its,n,r,e⟩:=I.hok l _ hH;exact⟨z,its,n,r,r.length,e⟩
def qk {n:Nat} (h:n<=sizeLine):Builtin.List.listTooLong n=false:=by unfold Builtin.List.listTooLong;exact Qo (by omega)
end
section
variable {X:Cx}
def uX:V->List V->Hp->VK->Prop:=λx vs H Q=>∃l xs y,x= .ref l/\vs=[y]/\H l=some (.lst xs)/\xs.length < sizeLine/\Q .bo (upd H l (.lst (xs++[y])))
def mz:Jo X "list.append" uX:=by intro pins s σ H x vs v us Q I rx rv h;obtain⟨l,xs,y,rfl,rfl,hH,hz,q⟩:=h;cases rx;obtain⟨u,rfl,ru⟩:=rv.one;obtain⟨z,its,n,r,hl,e⟩:=I.pW hH;refine call_meets F.slot_list_append ⟨_,e,rfl⟩ F.entry_list_append (F.args_list_append_2 _ _) (PySem.list_append l its.toArray n u (by rw[PY];omega)) ⟨e,?_⟩;refine⟨.bo,_,I.Bx (its':=its++[u]) hH e (by simp) (r.append (.cons ru .nil)) ?_,rfl,q⟩;rw[Qf,List.length_singleton];omega
def tK:V->List V->Hp->VK->Prop:=λx vs H Q=>∃l b xs zs,x= .ref l/\vs=[.ref b]/\H l=some (.lst xs)/\H b=some (.lst zs)/\xs.length + zs.length<=sizeLine/\Q .bo (upd H l (.lst (xs++zs)))
def vO:Jo X "list.extend" tK:=by
 intro pins s σ H x vs v us Q I rx rv h;obtain⟨l,b,xs,zs,rfl,rfl,hH,hB,hz,q⟩:=h;cases rx;obtain⟨u,rfl,ru⟩:=rv.one;cases ru;obtain⟨z,its,n,r,hl,e⟩:=I.pW hH;obtain⟨z2,aM,n2,r2,dh,e2⟩:=I.pW hB;have gY:its.toArray.size + aM.toArray.size<=sizeLine:=by rw[PY,PY];omega
 have yB:¬(!its.toArray.isEmpty&&Builtin.List.listTooLong (its.toArray.size + aM.toArray.size))=true:=by rw[qk gY,Bool.and_false];exact Bool.false_ne_true
 refine call_meets F.slot_list_extend ⟨_,e,rfl⟩ F.entry_list_extend (F.args_list_extend_2 _ _)
  (AutoSeq1.list_extend_list_list_0 l its.toArray n b aM.toArray n2 yB (by rw[PY];omega) (by omega)) ⟨e,e2,?_⟩
 refine⟨.bo,_,I.Bx (its':=its++aM) hH e (by simp) (r.append r2) ?_,rfl,q⟩;rw[Qf];omega
def LK:V->List V->Hp->VK->Prop:=λx vs H Q=>∃l xs y,x= .ref l/\vs=[]/\H l=some (.lst xs)/\xs[xs.length - 1]?=some y/\Q y (upd H l (.lst xs.dropLast))
def JH:Jo X "list.pop" LK:=by
 intro pins s σ H x vs v us Q I rx rv h;obtain⟨l,xs,y,rfl,rfl,hH,hy,q⟩:=h;cases rx;have xP:=rv.zero;subst xP;obtain⟨z,its,n,r,hl,e⟩:=I.pW hH;obtain⟨u,hu,ru⟩:=r.get hy;have My:its.toArray[its.toArray.size - 1]?=some u:=by show its.toArray[its.length - 1]?=some u;rw[<-Array.getElem?_toList,<-hl];exact hu
 refine call_meets F.slot_list_pop ⟨_,e,rfl⟩ F.entry_list_pop (F.args_list_pop_1 _) (MeetsSeq.list_pop_last l its.toArray n u My (by rw[PY];omega)) ⟨e,?_⟩;refine⟨y,_,I.Bx (its':=its.dropLast) hH e ?_ r.dropLast ?_,ru,q⟩
 ·show its.toArray.eraseIdxIfInBounds (its.toArray.size - 1)=its.dropLast.toArray;rw[PY,List.eraseIdxIfInBounds_toArray,rb]
 ·rw[List.length_dropLast];omega
def zq:V->List V->Hp->VK->Prop:=λx vs H Q=>∃l xs,x= .ref l/\vs=[]/\H l=some (.lst xs)/\Q .bo (upd H l (.lst []))
def yb:Jo X "list.clear" zq:=by intro pins s σ H x vs v us Q I rx rv h;obtain⟨l,xs,rfl,rfl,hH,q⟩:=h;cases rx;have xP:=rv.zero;subst xP;obtain⟨z,its,n,r,hl,e⟩:=I.pW hH;refine call_meets F.slot_list_clear ⟨_,e,rfl⟩ F.entry_list_clear (F.args_list_clear_1 _) (AutoSeq1.list_clear_list_0 l its.toArray n (by rw[PY];omega)) ⟨e,?_⟩;exact⟨.bo,_,I.Bx (its':=[]) (ys:=[]) hH e rfl .nil (Nat.zero_le _),rfl,q⟩
def Kl:R2:=λx y H Q=>∃l b xs zs,x= .ref l/\y= .ref b/\H l=some (.lst xs)/\H b=some (.lst zs)/\xs.length + zs.length<=sizeLine/\∀p,H p=none->Q (.ref p) (upd H p (.lst (xs++zs)))
def fJ:jW X (binaryOp .Add) Kl:=by
 intro pins s σ H x y v u Q I rx ry h;obtain⟨l,b,xs,zs,rfl,rfl,hH,hB,hz,q⟩:=h;cases rx;cases ry;obtain⟨z,its,n,r,hl,e⟩:=I.pW hH;obtain⟨z2,aM,n2,r2,dh,e2⟩:=I.pW hB;refine PySem.P.add_list e e2 ?_ (by rw[PY,PY];omega);have ea:its.toArray++aM.toArray=(its++aM).toArray:=by simp
 rw[ea];exact⟨.ref _,_,I.C9 (t':=s.toks) (r.append r2) (by rw[Qf];omega),rfl,q _ I.fresh⟩
def Lx:R2:=λx y H Q=>∃l k xs,x= .ref l/\y= .int k/\H l=some (.lst xs)/\ -(2 ^ 63)<=k/\k < 2 ^ 63/\xs.length * k.toNat<=sizeLine/\
 ∀p,H p=none->Q (.ref p) (upd H p (.lst (List.replicate k.toNat xs).flatten))
def len_rep {α:Type} (xs:List α) (k:Nat):(List.replicate k xs).flatten.length=k * xs.length:=by simp_all
def EZ:jW X (binaryOp .Mult) Lx:=by
 intro pins s σ H x y v u Q I rx ry h;obtain⟨l,k,xs,rfl,rfl,hH,h1,h2,hz,q⟩:=h;cases rx;obtain⟨t,rfl⟩:=ry;obtain⟨z,its,n,r,hl,e⟩:=I.pW hH;have hlen:its.toArray.size * k.toNat<=sizeLine:=by rw[PY,<-hl];exact hz
 have LZ:¬its.toArray.size * k.toNat > (2 ^ 63 - 1) / 8:=by
  have:(sizeLine:Nat)<=(2 ^ 63 - 1) / 8:=by decide
  omega
 have Kq:¬(!Builtin.List.listFitsIndex k)=true:=by rw[fitsIndex_both h1 h2];exact Bool.false_ne_true
 have yB:¬Builtin.List.listTooLong (its.toArray.size * k.toNat)=true:=by rw[qk hlen];exact Bool.false_ne_true
 have KS:List.foldl (λx1 x2=>x1++x2) #[] (List.replicate (if its.toArray.isEmpty=true then 0 else k.toNat) its.toArray)=(List.replicate k.toNat its).flatten.toArray:=by
  have f0:∀m:Nat,List.foldl (λx1 x2=>x1++x2) #[] (List.replicate m its.toArray)=(List.replicate m its).flatten.toArray:=λm=>by have:=foldl_rep its m [];rw[List.nil_append] at this;exact this
  rw[f0];cases its with
  | nil=>simp
  | cons a r'=>rw[if_neg (by simp)]
 refine wpAny_binaryOp_repeat_ref (T:="list") (U:="int") (by decide) ⟨_,e,rfl⟩ (λs'=>typeIs_int s' k t) noFill_list_mul F.fills_int_mul F.slot_int_rmul repeat_list F.slot_int_index.lookup
  (call_meets F.slot_int_rmul (typeIs_int s k t) F.entry_int_rmul (F.args_int_rmul_2 _ _) (int___rmul___int_list k t l its.toArray n)
   ⟨e,rfl,⟨_,e,rfl⟩,call_meets F.slot_list_mul ⟨_,e,rfl⟩ F.entry_list_mul (F.args_list_mul_2 _ _) (AutoListH.list___mul___list_int_3 l its.toArray n k t Kq LZ yB) ⟨e,?_⟩⟩)
 rw[KS];exact⟨.ref _,_,I.C9 (t':=s.toks) (r.rep k.toNat) (by rw[len_rep,Nat.mul_comm];exact hz),rfl,q _ I.fresh⟩
end
end L2
namespace Att
open PySem PySem.W PySem.Calls PyProof.Rows
def jx {P:Params} {h:Heap}:∀(ns:List Int) (vs:List Value),WellAll P h vs (ns.map WData.int)->IntsAre vs ns:=by
 intro ns
 induction ns with
 | nil=>intro vs w;rw[List.map_nil] at w;cases w;exact .nil
 | cons n ns ih=>
  intro vs w;rw[QG] at w;cases w with
  | cons a b=>cases a;exact .cons _ _ (ih _ b)
def u5 {l:OpenLaw} {n:Nat} (hn:l.most=some n) {P:Params} {h:Heap} {args:List WData} {vals:List Value}
  (AH:l.row.toRowW.claim.pre args=true) (Jh:WellAll P h vals args):
  ∃a vs ns,vals=[Value.ref a]/\args=[WData.list (ns.map WData.int)]/\h.get? a=some {cls:= .type "list",data:= .seq vs.toArray}/\IntsAre vs ns/\ns.length<=n:=by
 have OO:WShape.hasAll [] args [.list .int]=true:=(pre_splitW AH).1;have hc:l.pre.holds [] {args:=args}=true:=(pre_splitW AH).2;obtain⟨d,r,rfl,h1,h2⟩:=hasAllW_cons OO;obtain rfl:=hasAllW_nil h2;obtain⟨xs,rfl,h3⟩:=hasW_list h1;obtain⟨ns,rfl⟩:=items_int h3;have hlen:ns.length<=n:=by
  unfold OpenLaw.pre at hc;have h4:(WTm.not (.lt (.lit (.int (n:Int))) (.len (.arg 0)))).holds [] {args:=[.list (ns.map .int)]}=true:=by have h4:=(holds_andW hc).1;rw[hn] at h4;exact h4
  have h5:=condW_of h4 (w_not (w_lt w_lit (w_len_list (w_arg rfl))));rw[P8] at h5;refine Nat.le_of_not_lt λq=>?_
  have q':(n:Int) < ((ns.length:Nat):Int):=by omega
  first
   | (rw[Qs q'] at h5;exact absurd h5 (by decide))
   | (simp at h5;omega)
 cases Jh with
 | cons w1 w2=>
  cases w2;cases w1 with
  | list ho hall=>exact⟨_,_,ns,rfl,rfl,ho,jx ns _ hall,hlen⟩
def vY (l:OpenLaw) (args:List WData):l.row.toRowW.claim.post args (.bool true) args=true:=
 postW_of (r:=l.row.toRowW) (X:=(true==true))
  (show WShape.has [] (.bool true) .bool=true by first | rfl | decide | simp[WShape.has,WShape.arms,WShape.armsAll])
  (show (WTm.eq .res (.lit (.bool true))).value [] {args:=args,res:=some (.bool true),after:=args}=some (.bool (true==true)) from w_eq_bool (w_res rfl) w_lit) rfl
def qu {l:OpenLaw} {n:Nat} {q:Program} {loose:List Str} {XP:(Str->Option Value)->Heap->Prop} {YP:World->Heap->Prop} {d:DefRec}
  (hn:l.most=some n) (G1:d.params.defaults=[])
  (call:∀(w:World) (s₀ s₁:Shared) (mg mb:Str->Option Value) (fa:Addr) (o:Obj) (pm cd doc:Value) (a:Addr) (vs:List Value) (ns:List Int),
   Ground q loose [] XP w s₀ mg mb s₁.heap->YP w s₁.heap->
   s₁.heap.get? fa=some o->o.data= .func (docDef d.name d.params d.body d.scope pm cd doc)->s₁.heap.CodeRec cd d.name->mg d.name=some (.ref fa)->
   s₁.heap.get? a=some {cls:= .type "list",data:= .seq vs.toArray}->IntsAre vs ns->ns.length<=n->s₁.gens=#[]->
   codeAny (model l.prog w) callerA (.call (.ref fa) ⟨[.ref a],[]⟩) (λr s'=>r= .ok (.ret (.bool true))/\OldK s₁.heap s'.heap/\s'.os=s₁.os/\AllBare s'.gens) s₁):
  WalkO q loose XP YP l.row.toRowW d [] (λf vs=>PySem.call f vs):=by
 intro w s₀ s₁ mg mb G Y fa o pm cd doc dV kV ho hd zM hD hmg hg args vals as AH hlay hrd Jh nr;obtain rfl:dV= .none:=Dflts.none hD G1;obtain rfl:kV= .none:=Dflts.noKw hD;obtain⟨a,vs,ns,rfl,rfl,DN,hints,hlen⟩:=u5 hn AH Jh;refine enter_call (codeAny_mono (call w s₀ s₁ mg mb fa o pm cd doc a vs ns G Y ho (fd_plain hd) zM hmg DN hints hlen hg) λr s' hq=>?_);obtain⟨rfl,h2,h3,h4⟩:=hq;exact⟨.inl ⟨.bool true,.bool true,[],rfl,λ_=>rfl,.bool true,vY l _,λ_=>⟨List.Pairwise.nil,λ_ hm=>(nomatch hm)⟩⟩,h2,h3,h4⟩
end Att
namespace L2
open PySem PySem.Spec PyProof.Rows
def mQ:∀{vs:List Value} {ns:List Int},IntsAre vs ns->aw (ns.map V.int) vs
 | _,_,.nil=> .nil
 | _,_,.cons n t h=> .cons ⟨t,rfl⟩ (mQ h)
def Er (H:Hp):Prop:=∀b,H b=none\/∃o xs,H b=some (.tH o (.lst xs))
def yd {P:Program} {w:World} {K:PySem.W.Frag} {mg mb:Str->Option Value} {CX:lE} {k:Nat} {fa a:Addr} {fd:FuncData} {x:Str} {sp:Sp} {s₁:Shared} {vs:List Value} {ns:List Int}
  (KX:K.In s₁.heap) (Fh:s₁.heap.Ns mainGlobals mg) (hb:s₁.heap.Ns builtinsNs mb) (qH:∀x:Str,x≠"__name__"->mb x=bootBuiltins x) (cP:s₁.heap.NoLimit) (hg:s₁.gens=#[])
  (ha:s₁.heap.get? a=some {cls:= .type "list",data:= .seq vs.toArray}) (hi:IntsAre vs ns) (hl:ns.length<=sizeLine) (hr:iJ k callerA)
  (F:∀base:Heap,K.In base->base.Ns mainGlobals mg->jb P w K mg base CX k fa fd [x] sp) (Hi:∀(s:Shared) (u:Value),BindsTo s fd ⟨[u],[]⟩ [(x,u)])
  (ml:∀H:Hp,Er H->d9 K H a (ns.map V.int)->sp [.ref a] H (λv _=>v= .bl true) λ_ _ _=>False)
  (KP:∀H e s',CX [] H s₁ (λ_ _ _=>False) e s'->False):
  codeAny (model P w) callerA (.call (.ref fa) ⟨[.ref a],[]⟩) (λr s'=>r= .ok (.ret (.bool true))/\OldK s₁.heap s'.heap/\s'.os=s₁.os/\AllBare s'.gens) s₁:=by
 have rv:=mQ hi;have Lv:=hi.length;have core:∀H:Hp,Er H->d9 K H a (ns.map V.int)->eX P w H s₁.heap->(∀b,H b≠none->b=a)->(H a≠none->K.lookup a=none)->
   codeAny (model P w) callerA (.call (.ref fa) ⟨[.ref a],[]⟩) (λr s'=>r= .ok (.ret (.bool true))/\OldK s₁.heap s'.heap/\s'.os=s₁.os/\AllBare s'.gens) s₁:=by
  intro H hO hS hok hA hK;have uL:∀{b:Addr} {o:Obj},s₁.heap.get? b=some o->H b=none->(oF s₁.heap H).get? b=some o:=λe n=>wH e n
  have F4:∀{b:Addr} {o:Obj} {es:Array DictEntry} {ep:Nat},s₁.heap.get? b=some o->o.data= .dict es ep->H b=none:=λ {b o es ep} e d=>by
   cases q:H b with
   | none=>rfl
   | some u=>have e':b=a:=hA b (by rw[q];simp);subst e';rw[ha] at e;cases e;have d':Data.seq vs.toArray _=Data.dict es ep:=d;cases d'
  have Jn:∀{b:Addr} {m:Str->Option Value},s₁.heap.Ns b m->(oF s₁.heap H).Ns b m:=λ {b m} ⟨o,es,ep,e,d,r⟩=>⟨o,es,ep,uL e (F4 e d),d,r⟩
  have M6:K.In (oF s₁.heap H):=λb o e=>uL (KX b o e) (by
   cases q:H b with
   | none=>rfl
   | some u=>
    have e':b=a:=hA b (by rw[q];simp);subst e';rw[hK (by rw[q];simp)] at e;cases e)
  have hM:Mod K mg (oF s₁.heap H):=⟨M6,Jn Fh,⟨mb,Jn hb,qH⟩,let ⟨mc,h1,h2⟩:=cP;⟨mc,Jn h1,h2⟩⟩;have e0:Ai P w K mg (oF s₁.heap H) callerA [] s₁ H:=⟨rfl,hM,λb o e=>AM e,Nat.le_of_eq (vP _ _),trivial,λb hb=>absurd (show b∈([]:List Addr) from hb) (by simp),hok,.of_eq hg⟩;refine codeAny_mono ((F _ M6 (Jn Fh)).run callerA [] s₁ H ⟨[.ref a],[]⟩ [.ref a] [.ref a] _ _ hr e0 (Hi s₁ (.ref a)) (.cons rfl .nil) (ml H hO hS)) λr s' h=>?_
  cases r with
  | error e=>exact(KP H e s' h).elim
  | ok fl=>
   cases fl with
   | next=>exact False.elim h
   | brk=>exact False.elim h
   | cont=>exact False.elim h
   | ret u=>
    obtain⟨v,H',os,bare,un,AN,r',q⟩:=h;have q':v= .bl true:=q;subst q';obtain rfl:u=Value.bool true:=r';refine⟨rfl,OldK.of_keep λb o e=>?_,os,bare⟩;cases q:H b with
    | none=>exact un.keep b o e q (by intro z;exact absurd (show b∈([]:List Addr) from z) (by simp)) (by simp)
    | some u=>
     rcases hO b with z | ⟨ob,xs,z⟩
     ·rw[q] at z;cases z
     ·have z2:=un.frzs b ob _ z;obtain⟨e1,_⟩:=hok b _ z;obtain⟨e2,_⟩:=AN b _ z2;rw[e] at e1;cases e1;exact e2
 cases hk:K.lookup a with
 | some o=>have e:=KX a o hk;rw[ha] at e;cases e;refine core (λ_=>none) (λ_=> .inl rfl) (.inr ⟨_,vs.toArray,_,hk,rfl,rfl,rfl,by rw[PY,Lv];exact hl,by simpa using rv⟩) (λb u z=>by have z':(none:Option HO)=some u:=z;cases z') (λb z=>absurd rfl z) λz=>absurd rfl z
 | none=>
  refine core (λb=>if b=a then some (.tH {cls:= .type "list",data:= .seq vs.toArray} (.lst (ns.map V.int))) else none) (λb=>?_) (.inl (.inr ⟨{cls:= .type "list",data:= .seq vs.toArray},if_pos rfl⟩)) (λb u z=>?_) (λb z=>?_) λ_=>hk
  ·by_cases hb:b=a
   ·exact .inr ⟨_,_,if_pos hb⟩
   ·exact .inl (if_neg hb)
  ·by_cases hb:b=a
   ·have z':=(if_pos hb).symm.trans z;cases z';subst hb;exact⟨ha,by rw[P8];exact hl,vs,_,rv,ha⟩
   ·have z':=(if_neg hb).symm.trans z;cases z'
  ·by_cases hb:b=a
   ·exact hb
   ·exact absurd (if_neg hb) z
end L2
namespace L2
open PySem PySem.Spec PyProof.Rows
def A3 {l:PySem.W.OpenLaw} {n k:Nat} {q:Program} {loose:List Str} {XP:(Str->Option Value)->Heap->Prop} {YP:World->Heap->Prop} {d:DefRec} {K:Params->PySem.W.Frag} {CX:World->lE} {sp:World->Sp} {x:Str}
  (hn:l.most=some n) (CU:n<=sizeLine) (G1:d.params.defaults=[]) (hr:iJ k callerA)
  (hY:∀(w:World) (h:Heap),YP w h->(K w.params).In h)
  (F:∀(w:World) (mg:Str->Option Value) (fa:Addr) (h:Heap),(K w.params).In h->h.Ns mainGlobals mg->mg d.name=some (.ref fa)->
   ∃fd:FuncData,(∀(s:Shared) (u:Value),BindsTo s fd ⟨[u],[]⟩ [(x,u)])/\
    ∀base:Heap,(K w.params).In base->base.Ns mainGlobals mg->jb l.prog w (K w.params) mg base (CX w) k fa fd [x] (sp w))
  (ml:∀(w:World) (H:Hp) (a:Addr) (ns:List Int),ns.length<=n->Er H->d9 (K w.params) H a (ns.map V.int)->sp w [.ref a] H (λv _=>v= .bl true) λ_ _ _=>False)
  (KP:∀(w:World) (H:Hp) (s:Shared) (e:Value) (s':Shared),CX w [] H s (λ_ _ _=>False) e s'->False):
  PySem.W.WalkO q loose XP YP l.row.toRowW d [] (λf vs=>PySem.call f vs):=by
 refine Att.qu hn G1 λw s₀ s₁ mg mb fa o pm cd doc a vs ns G Y ho hd zM hmg DN hints hlen hg=>?_
 have KX:=hY w _ Y;obtain⟨fd,hb,hF⟩:=F w mg fa _ KX G.T.g hmg;exact yd KX G.T.g G.T.b G.T.builtins G.T.nolimit hg DN hints (Qa hlen CU) hr hF hb (λH hO hS=>ml w H a ns hlen hO hS) λH e s'=>KP w H s₁ e s'
end L2
namespace L2
open PySem PySem.Spec PyProof.Rows
def nM (s:Stmt):Arguments:=match s with
 | .FunctionDef _ a _ _ _ _ _ _ _ _=>a
 | _=>{posonlyargs:=[],args:=[],vararg:=none,kwonlyargs:=[],kw_defaults:=[],kwarg:=none,defaults:=[]}
def ij (s:Stmt):List Stmt:=match s with
 | .FunctionDef _ _ b _ _ _ _ _ _ _=>b
 | _=>[]
def bu (s:Stmt):Scope:=match s with
 | .FunctionDef _ _ _ _ _ _ sc _ _ _=>sc
 | _=>{kind:= .function,names:=[],isGenerator:=false,isCoroutine:=false}
def Hl {A B:Prop} (h:B):if false=true then A else B:=by rw[if_neg Bool.false_ne_true];exact h
def Ir {A B:Prop} (h:A):if true=true then A else B:=by rw[if_pos rfl];exact h
def bD (H H':Hp):Prop:=∀b o,H b=some o->H' b=some o
def bD.refl (H:Hp):bD H H:=λ_ _ h=>h
def bD.trans {H H1 H2:Hp} (a:bD H H1) (b:bD H1 H2):bD H H2:=λc o h=>b c o (a c o h)
end L2
end
section
namespace Mx
open PySem PyProof.Rows
inductive D where
 | int (i:Int)
 | str (x:Str)
 | tup (ds:List D)
mutual
def D.gu:D->D->Bool
 | .int i,.int j=>i==j
 | .str x,.str y=>x==y
 | .tup a,.tup b=>D.eqs a b
 | _,_=>false
def D.eqs:List D->List D->Bool
 | [],[]=>true
 | x::xs,y::ys=>D.gu x y&&D.eqs xs ys
 | _,_=>false
end
mutual
def D.lt:D->D->Bool
 | .int i,.int j=>decide (i < j)
 | .int _,_=>true
 | .str _,.int _=>false
 | .str x,.str y=>decide (x.cps.toList < y.cps.toList)
 | .str _,.tup _=>true
 | .tup a,.tup b=>D.fv a b
 | .tup _,_=>false
def D.fv:List D->List D->Bool
 | [],[]=>false
 | [],_::_=>true
 | _::_,[]=>false
 | x::xs,y::ys=>if D.gu x y=true then D.fv xs ys else D.lt x y
end
mutual
theorem D.dq:∀a b:D,D.gu a b=true↔a=b
 | .int i,.int j=>by simp[D.gu]
 | .str x,.str y=>by simp[D.gu]
 | .tup a,.tup b=>by simp only[D.gu,D.tup.injEq];exact D.tw a b
 | .int _,.str _=>by simp[D.gu]
 | .int _,.tup _=>by simp[D.gu]
 | .str _,.int _=>by simp[D.gu]
 | .str _,.tup _=>by simp[D.gu]
 | .tup _,.int _=>by simp[D.gu]
 | .tup _,.str _=>by simp[D.gu]
theorem D.tw:∀a b:List D,D.eqs a b=true↔a=b
 | [],[]=>by simp[D.eqs]
 | [],_::_=>by simp[D.eqs]
 | _::_,[]=>by simp[D.eqs]
 | x::xs,y::ys=>by simp only[D.eqs,PX,List.cons.injEq];rw[D.dq x y,D.tw xs ys]
end
instance:DecidableEq D:=λa b=>if h:D.gu a b=true then isTrue ((D.dq a b).mp h) else isFalse λe=>h ((D.dq a b).mpr e)
def D.iD (a b:D):D.gu a b=decide (a=b):=by rw[Bool.eq_iff_iff,D.dq];simp
def D.eF (x y:D) (xs ys:List D):D.fv (x::xs) (y::ys)=if x=y then D.fv xs ys else D.lt x y:=by grind [D.fv,D.dq,D]
mutual
def D.lt_irrefl:∀a:D,D.lt a a=false
 | .int i=>by simp[D.lt]
 | .str x=>by simp only[D.lt];exact strKind.irrefl _
 | .tup a=>by simp only[D.lt];exact D.kT a
def D.kT:∀a:List D,D.fv a a=false
 | []=>by simp[D.fv]
 | x::xs=>by rw[D.eF,if_pos rfl];exact D.kT xs
end
mutual
def D.ei:∀a b:D,D.lt a b=false->D.lt b a=false->a=b
 | .int i,.int j,h1,h2=>by simp only[D.lt,decide_eq_false_iff_not] at h1 h2;congr 1;omega
 | .str x,.str y,h1,h2=>by simp only[D.lt] at h1 h2;have:=strKind.total _ _ h1 h2;congr 1;cases x;cases y;simp only at this;congr 1;exact Array.toList_inj.mp this
 | .tup a,.tup b,h1,h2=>by simp only[D.lt] at h1 h2;rw[D.lW a b h1 h2]
 | .int _,.str _,h1,_=>by simp[D.lt] at h1
 | .int _,.tup _,h1,_=>by simp[D.lt] at h1
 | .str _,.int _,_,h2=>by simp[D.lt] at h2
 | .str _,.tup _,h1,_=>by simp[D.lt] at h1
 | .tup _,.int _,_,h2=>by simp[D.lt] at h2
 | .tup _,.str _,_,h2=>by simp[D.lt] at h2
def D.lW:∀a b:List D,D.fv a b=false->D.fv b a=false->a=b
 | [],[],_,_=>rfl
 | [],_::_,h1,_=>by simp[D.fv] at h1
 | _::_,[],_,h2=>by simp[D.fv] at h2
 | x::xs,y::ys,h1,h2=>by
  rw[D.eF] at h1 h2;by_cases h:x=y
  ·subst h;rw[if_pos rfl] at h1 h2;rw[D.lW xs ys h1 h2]
  ·rw[if_neg h] at h1;rw[if_neg (Ne.symm h)] at h2;exact absurd (D.ei x y h1 h2) h
end
mutual
def D.lt_trans:∀a b c:D,D.lt a b=true->D.lt b c=true->D.lt a c=true
 | .int i,.int j,.int k,h1,h2=>by simp only[D.lt,decide_eq_true_eq] at *;omega
 | .int _,_,.str _,_,_=>by simp[D.lt]
 | .int _,_,.tup _,_,_=>by simp[D.lt]
 | .int _,.str _,.int _,_,h2=>by simp[D.lt] at h2
 | .int _,.tup _,.int _,_,h2=>by simp[D.lt] at h2
 | .str _,.int _,_,h1,_=>by simp[D.lt] at h1
 | .str x,.str y,.str z,h1,h2=>by simp only[D.lt] at *;exact strKind.trans _ _ _ h1 h2
 | .str _,.str _,.int _,_,h2=>by simp[D.lt] at h2
 | .str _,_,.tup _,_,_=>by simp[D.lt]
 | .str _,.tup _,.int _,_,h2=>by simp[D.lt] at h2
 | .str _,.tup _,.str _,_,h2=>by simp[D.lt] at h2
 | .tup _,.int _,_,h1,_=>by simp[D.lt] at h1
 | .tup _,.str _,_,h1,_=>by simp[D.lt] at h1
 | .tup _,.tup _,.int _,_,h2=>by simp[D.lt] at h2
 | .tup _,.tup _,.str _,_,h2=>by simp[D.lt] at h2
 | .tup a,.tup b,.tup c,h1,h2=>by simp only[D.lt] at *;exact D.mG a b c h1 h2
def D.mG:∀a b c:List D,D.fv a b=true->D.fv b c=true->D.fv a c=true
 | [],[],_,h1,_=>by simp[D.fv] at h1
 | [],_::_,[],_,h2=>by simp[D.fv] at h2
 | [],_::_,_::_,_,_=>by simp[D.fv]
 | _::_,[],_,h1,_=>by simp[D.fv] at h1
 | _::_,_::_,[],_,h2=>by simp[D.fv] at h2
 | x::xs,y::ys,z::zs,h1,h2=>by
  rw[D.eF] at h1 h2 ⊢;by_cases h:x=y
  ·subst h;rw[if_pos rfl] at h1;by_cases h':x=z
   ·rw[if_pos h'] at h2 ⊢;exact D.mG xs ys zs h1 h2
   ·rw[if_neg h'] at h2 ⊢;exact h2
  ·rw[if_neg h] at h1;by_cases h':y=z
   ·subst h';rw[if_neg h];exact h1
   ·rw[if_neg h'] at h2;have h3:=D.lt_trans x y z h1 h2;by_cases h'':x=z
    ·subst h'';rw[D.lt_irrefl] at h3;cases h3
    ·rw[if_neg h''];exact h3
end
@[reducible] def G0:KeyOrd where
 α:=D
 blt:=D.lt
 irrefl:=D.lt_irrefl
 trans:=D.lt_trans
 negTrans:=λa b c h=>by
  cases h1:D.lt a b with
  | true=>exact .inl rfl
  | false=>
   right;cases h2:D.lt b a with
   | true=>exact D.lt_trans b a c h2 h
   | false=>rw[D.ei a b h1 h2] at h;exact h
 total:=D.ei
end Mx
end
section
namespace MxSort
open PySem PySem.W PyProof.Rows
section
variable {O:KeyOrd} {key:Nat->O.α}
def qS (key:Nat->O.α) (p:Array Nat) (i:Nat):O.α:=key (p.getD i 0)
def Up (key:Nat->O.α) (p:Array Nat) (n:Nat):Prop:=∀i j,i<=j->j < n->O.kle (qS key p i) (qS key p j)
def Dn (key:Nat->O.α) (p:Array Nat) (n:Nat):Prop:=∀i j,i<=j->j < n->O.kle (qS key p j) (qS key p i)
def uK {p q:Array Nat} {i j:Nat} (h:p[i]?=q[j]?):p.getD i 0=q.getD j 0:=by simp_all
theorem AX {p:Array Nat} {i j:Nat} (hj:j<=p.size) (k:Nat):qS key (kas_rev p i j) k=if i<=k/\k < j then qS key p (i + j - 1 - k) else qS key p k:=by
 have e:=getElem?_mirror_all (i:=i) hj k;unfold kas_rev qS;by_cases h1:i<=k/\k < j
 ·rw[if_pos h1] at e ⊢;exact congrArg key (uK e)
 ·rw[if_neg h1] at e ⊢;exact congrArg key (uK e)
def Ord (N:Nat) (p:Array Nat):Prop:=p.toList.Perm (List.range N)
def Ord.size {N:Nat} {p:Array Nat} (h:Ord N p):p.size=N:=by have:=h.length_eq;rw[List.length_range] at this;rw[<-this];simp
variable {cmp:Nat->Nat->(Bool->Shared->Prop)->Shared->Prop} {s:Shared} {N:Nat}
def Tells (O:KeyOrd) (key:Nat->O.α) (cmp:Nat->Nat->(Bool->Shared->Prop)->Shared->Prop) (N:Nat) (s:Shared):Prop:=
 ∀i j,i < N->j < N->∀C:Bool->Shared->Prop,C (O.blt (key i) (key j)) s->cmp i j C s
def Up.succ {p:Array Nat} {n:Nat} (h:Up key p n) (h1:1<=n) (h2:O.kle (qS key p (n - 1)) (qS key p n)):Up key p (n + 1):=λi j gj hj=>by
 by_cases e:j=n
 ·subst e;by_cases e2:i=j
  ·subst e2;exact KeyOrd.kle_refl _
  ·exact Qq (h i (j - 1) (by omega) (by omega)) h2
 ·exact h i j gj (by omega)
def Dn.succ {p:Array Nat} {n:Nat} (h:Dn key p n) (h1:1<=n) (h2:O.kle (qS key p n) (qS key p (n - 1))):Dn key p (n + 1):=λi j gj hj=>by
 by_cases e:j=n
 ·subst e;by_cases e2:i=j
  ·subst e2;exact KeyOrd.kle_refl _
  ·exact Qq h2 (h i (j - 1) (by omega) (by omega))
 ·exact h i j gj (by omega)
def Dn.of {p q:Array Nat} {n:Nat} (e:∀k,qS key q k=qS key p k) (h:Dn key p n):Dn key q n:=λi j a b=>by rw[e,e];exact h i j a b
def xm {p:Array Nat} {n:Nat} (hn:n<=p.size) (h:Dn key p n):Up key (kas_rev p 0 n) n:=by grind [AX,Dn,Up]
end
end MxSort
end
section
namespace Mx
open PySem PySem.Spec PyProof.Rows L2 PySem.SeqAt
mutual
def D.dep:D->Nat
 | .int _=>0
 | .str _=>0
 | .tup ds=>D.b8 ds + 1
def D.b8:List D->Nat
 | []=>0
 | d::ds=>max (D.dep d) (D.b8 ds)
end
mutual
def DV (H:Hp):V->D->Prop
 | x,.int i=>x= .int i
 | x,.str z=>x= .str z
 | x,.tup ds=>∃a xs,x= .ref a/\H a=some (.tup xs)/\aZ H xs ds
def aZ (H:Hp):List V->List D->Prop
 | [],[]=>True
 | x::xs,d::ds=>DV H x d/\aZ H xs ds
 | [],_::_=>False
 | _::_,[]=>False
end
def aZ.nil {H:Hp}:aZ H [] []:=by unfold aZ;trivial
def aZ.cons {H:Hp} {x:V} {xs:List V} {d:D} {ds:List D} (h:DV H x d) (t:aZ H xs ds):aZ H (x::xs) (d::ds):=by unfold aZ;exact⟨h,t⟩
def DV.int {H:Hp} {i:Int}:DV H (.int i) (.int i):=by unfold DV;rfl
def DV.str {H:Hp} {x:Str}:DV H (.str x) (.str x):=by unfold DV;rfl
def DV.tup {H:Hp} {a:Addr} {xs:List V} {ds:List D} (h:H a=some (.tup xs)) (t:aZ H xs ds):DV H (.ref a) (.tup ds):=by unfold DV;exact⟨a,xs,rfl,h,t⟩
theorem DV.af {H:Hp} {x:V} {ds:List D} (h:DV H x (.tup ds)):∃a xs,x= .ref a/\H a=some (.tup xs)/\aZ H xs ds:=by unfold DV at h;exact h
def DV.int_inv {H:Hp} {x:V} {i:Int} (h:DV H x (.int i)):x= .int i:=by unfold DV at h;exact h
def DV.str_inv {H:Hp} {x:V} {i:Str} (h:DV H x (.str i)):x= .str i:=by unfold DV at h;exact h
def aZ.cons_inv {H:Hp} {xs:List V} {d:D} {ds:List D} (h:aZ H xs (d::ds)):∃x r,xs=x::r/\DV H x d/\aZ H r ds:=by
 cases xs with
 | nil=>unfold aZ at h;exact h.elim
 | cons x r=>unfold aZ at h;exact⟨x,r,rfl,h⟩
def aZ.length {H:Hp}:∀{xs:List V} {ds:List D},aZ H xs ds->xs.length=ds.length
 | [],[],_=>rfl
 | [],_::_,h=>by unfold aZ at h;exact h.elim
 | _::_,[],h=>by unfold aZ at h;exact h.elim
 | _::xs,_::ds,h=>by unfold aZ at h;simp[aZ.length h.2]
def aZ.get {H:Hp}:∀{xs:List V} {ds:List D} {i:Nat} {x:V},aZ H xs ds->xs[i]?=some x->∃d,ds[i]?=some d/\DV H x d
 | [],_,_,_,_,e=>by simp at e
 | _::_,[],_,_,h,_=>by unfold aZ at h;exact h.elim
 | _::_,_::_,0,_,h,e=>by unfold aZ at h;simp at e;subst e;exact⟨_,rfl,h.1⟩
 | _::xs,_::ds,i + 1,x,h,e=>by unfold aZ at h;obtain⟨d,e1,e2⟩:=aZ.get (i:=i) h.2 (by simpa using e);exact⟨d,by simpa using e1,e2⟩
def aZ.append {H:Hp}:∀{xs ys:List V} {ds es:List D},aZ H xs ds->aZ H ys es->aZ H (xs++ys) (ds++es)
 | [],_,[],_,_,h=>h
 | [],_,_::_,_,h,_=>by unfold aZ at h;exact h.elim
 | _::_,_,[],_,h,_=>by unfold aZ at h;exact h.elim
 | _::xs,ys,_::ds,es,h,h'=>by unfold aZ at h;exact aZ.cons h.1 (aZ.append h.2 h')
def Ap (H H':Hp):Prop:=∀a xs,H a=some (.tup xs)->H' a=some (.tup xs)
mutual
def DV.mono {H H':Hp} (t:Ap H H'):∀{x:V} {d:D},DV H x d->DV H' x d
 | x,.int i,h=>by unfold DV at h ⊢;exact h
 | x,.str z,h=>by unfold DV at h ⊢;exact h
 | x,.tup ds,h=>by obtain⟨a,xs,e,e1,e2⟩:=h.af;subst e;exact DV.tup (t a xs e1) (aZ.mono t e2)
def aZ.mono {H H':Hp} (t:Ap H H'):∀{xs:List V} {ds:List D},aZ H xs ds->aZ H' xs ds
 | [],[],_=>aZ.nil
 | [],_::_,h=>by unfold aZ at h;exact h.elim
 | _::_,[],h=>by unfold aZ at h;exact h.elim
 | _::xs,_::ds,h=>by unfold aZ at h;exact aZ.cons (DV.mono t h.1) (aZ.mono t h.2)
end
mutual
def DV.inj {H:Hp}:∀{x:V} {d e:D},DV H x d->DV H x e->d=e
 | x,.int i,e,h1,h2=>by
  have:=h1.int_inv;subst this;cases e with
  | int j=>have:=h2.int_inv;injection this with q;rw[q]
  | str j=>have:=h2.str_inv;cases this
  | tup j=>obtain⟨_,_,q,_⟩:=h2.af;cases q
 | x,.str i,e,h1,h2=>by
  have:=h1.str_inv;subst this;cases e with
  | int j=>have:=h2.int_inv;cases this
  | str j=>have:=h2.str_inv;injection this with q;rw[q]
  | tup j=>obtain⟨_,_,q,_⟩:=h2.af;cases q
 | x,.tup ds,e,h1,h2=>by
  obtain⟨a,xs,q,e1,e2⟩:=h1.af;subst q;cases e with
  | int j=>have:=h2.int_inv;cases this
  | str j=>have:=h2.str_inv;cases this
  | tup j=>obtain⟨b,ys,q,f1,f2⟩:=h2.af;cases q;rw[e1] at f1;cases f1;rw[aZ.inj e2 f2]
def aZ.inj {H:Hp}:∀{xs:List V} {ds es:List D},aZ H xs ds->aZ H xs es->ds=es
 | [],[],[],_,_=>rfl
 | [],[],_::_,_,h=>by unfold aZ at h;exact h.elim
 | [],_::_,_,h,_=>by unfold aZ at h;exact h.elim
 | _::_,[],_,h,_=>by unfold aZ at h;exact h.elim
 | _::_,_::_,[],_,h=>by unfold aZ at h;exact h.elim
 | _::xs,_::ds,_::es,h1,h2=>by unfold aZ at h1 h2;rw[DV.inj h1.1 h2.1,aZ.inj h1.2 h2.2]
end
def IL (ds es:List D) (j:Nat):Bool:=match ds[j]?,es[j]? with
 | some d,some e=>D.gu d e
 | _,_=>true
def tX:∀ds es:List D,((List.range (min ds.length es.length)).all (IL ds es)&&ds.length==es.length)=D.eqs ds es
 | [],[]=>by simp[D.eqs]
 | [],_::_=>by simp[D.eqs]
 | _::_,[]=>by simp[D.eqs]
 | d::ds,e::es=>by
  have ih:=tX ds es;have hm:min (d::ds).length (e::es).length=min ds.length es.length + 1:=by simp only[Qh];omega
  have e1:((d::ds).length==(e::es).length)=(ds.length==es.length):=by rw[Bool.eq_iff_iff];simp
  rw[hm,List.range_succ_eq_map,List.all_cons,List.all_map,e1,D.eqs,<-ih,Bool.and_assoc];rfl
def n8 {d:D}:∀{ds:List D} {j:Nat},ds[j]?=some d->D.dep d<=D.b8 ds
 | [],_,h=>by simp at h
 | d'::ds,0,h=>by simp at h;subst h;unfold D.b8;omega
 | d'::ds,j + 1,h=>by have:=n8 (ds:=ds) (j:=j) (by simpa using h);unfold D.b8;omega
section
variable {P:Program} {w:World} {H:Hp} {s:Shared}
def ay (hok:eX P w H s.heap) {a:Addr} {xs:List V} (h:H a=some (.tup xs)):∃its:List Value,aw xs its/\s.heap.IsTuple a its.toArray:=by obtain⟨_,its,r,t⟩:=hok a _ h;exact⟨its,r,t⟩
def eq_data (hok:eX P w H s.heap):∀(n:Nat) (d e:D) (x y:V) (u v:Value) (A:Around),D.dep d<=n->A.units + n < cLine->DV H x d->DV H y e->RelV x u->RelV y v->EqAt A s u v (D.gu d e):=by
 intro n
 induction n with
 | zero=>
  intro d e x y u v A hd hu hx hy rx ry;cases d with
  | int i=>
   have:=hx.int_inv;subst this;obtain⟨t,rfl⟩:=rx;cases e with
   | int j=>have:=hy.int_inv;subst this;obtain⟨t',rfl⟩:=ry;exact EqAt.int_int i t j t'
   | str j=>have:=hy.str_inv;subst this;obtain⟨t',rfl⟩:=ry;exact EqAt.int_str i t j t'
   | tup j=>obtain⟨b,ys,q,f1,f2⟩:=hy.af;subst q;cases ry;obtain⟨its,_,ht⟩:=ay hok f1;exact EqAt.int_tuple i t ht (by omega)
  | str i=>
   have:=hx.str_inv;subst this;obtain⟨t,rfl⟩:=rx;cases e with
   | int j=>have:=hy.int_inv;subst this;obtain⟨t',rfl⟩:=ry;exact EqAt.str_int i t j t'
   | str j=>have:=hy.str_inv;subst this;obtain⟨t',rfl⟩:=ry;exact EqAt.str_str i t j t'
   | tup j=>obtain⟨b,ys,q,f1,f2⟩:=hy.af;subst q;cases ry;obtain⟨its,_,ht⟩:=ay hok f1;exact EqAt.str_tuple i t ht (by omega)
  | tup ds=>unfold D.dep at hd;omega
 | succ n ih=>
  intro d e x y u v A hd hu hx hy rx ry;cases d with
  | int i=>exact ih (.int i) e x y u v A (by unfold D.dep;omega) (by omega) hx hy rx ry
  | str i=>exact ih (.str i) e x y u v A (by unfold D.dep;omega) (by omega) hx hy rx ry
  | tup ds=>
   obtain⟨a,xs,q,e1,e2⟩:=hx.af;subst q;cases rx;obtain⟨its,r1,ht⟩:=ay hok e1;cases e with
   | int j=>have:=hy.int_inv;subst this;obtain⟨t',rfl⟩:=ry;exact EqAt.tuple_int j t' ht (by omega)
   | str j=>have:=hy.str_inv;subst this;obtain⟨t',rfl⟩:=ry;exact EqAt.tuple_str j t' ht (by omega)
   | tup es=>
    obtain⟨b,ys,q,f1,f2⟩:=hy.af;subst q;cases ry;obtain⟨aM,r2,cm⟩:=ay hok f1;by_cases gI:a=b
    ·subst gI;rw[e1] at f1;cases f1;have:=aZ.inj e2 f2;subst this;have q:D.gu (.tup ds) (.tup ds)=true:=(D.dq _ _).mpr rfl;rw[q];exact EqAt.same _
    ·have l1:its.toArray.size=ds.length:=by rw[PY,<-r1.length,e2.length]
     have l2:aM.toArray.size=es.length:=by rw[PY,<-r2.length,f2.length]
     have key:=RcAt.tuples (A:=A) (e:=IL ds es) ht cm (by omega) (λj h1 h2=>?_)
     ·have q:=tX ds es;rw[<-l1,<-l2] at q;rw[q] at key;exact EqAt.of_refs gI key
     ·have gS:j < xs.length:=by rw[e2.length,<-l1];exact h1
      have mf:j < ys.length:=by rw[f2.length,<-l2];exact h2
      obtain⟨d,g1,g2⟩:=e2.get (i:=j) (x:=xs[j]) (by simp[gS]);obtain⟨e,k1,k2⟩:=f2.get (i:=j) (x:=ys[j]) (by simp[mf]);obtain⟨u,td,ru⟩:=r1.get (i:=j) (x:=xs[j]) (by simp[gS]);obtain⟨v,BL,rv⟩:=r2.get (i:=j) (x:=ys[j]) (by simp[mf]);have eu:its.toArray[j]=u:=by have:its[j]?=some u:=td;simp only[List.getElem_toArray];have q:=P0.mp this;exact q.2
      have ev:aM.toArray[j]=v:=by have:aM[j]?=some v:=BL;simp only[List.getElem_toArray];have q:=P0.mp this;exact q.2
      rw[eu,ev];have ee:IL ds es j=D.gu d e:=by unfold IL;rw[g1,k1]
      rw[ee];refine ih d e xs[j] ys[j] u v A.in1 ?_ (by show A.units + 1 + n < cLine;omega) g2 k2 ru rv;have:=n8 g1;unfold D.dep at hd;omega
end
mutual
def D.eZ:D->D->Prop
 | .int _,.int _=>True
 | .str _,.str _=>True
 | .tup a,.tup b=>D.gB a b
 | _,_=>False
def D.gB:List D->List D->Prop
 | x::xs,y::ys=>D.eZ x y/\D.gB xs ys
 | _,_=>True
end
def CV (A:Around) (s:Shared) (u v:Value) (b:Bool):Prop:=
 ∀(prog:Program) (w:World) (E:Value->Shared->Prop) (Q:Value->Shared->Prop),Q (.bool b) s->wpAny (model prog w) A (richCompare .Lt u v) Q E s
inductive Zp (A:Around) (s:Shared):List Value->List Value->List D->List D->Prop
 | nil {ws:List Value} {es:List D}:ws.length=es.length->Zp A s [] ws [] es
 | AD {vs:List Value} {ds:List D}:vs.length=ds.length->Zp A s vs [] ds []
 | cons {v w:Value} {d e:D} {vs ws:List Value} {ds es:List D}:EqAt A s v w (D.gu d e)->(d≠e->CV A s v w (D.lt d e))->Zp A s vs ws ds es->Zp A s (v::vs) (w::ws) (d::ds) (e::es)
section
open PySem.AutoSeq1 (wpAny_loadPart')
open PySem.MeetsSeq PySem.MeetsSeq2 PySem.MeetsSeq3
def lP (l b:Addr) (items fK:Array Value) (n n2:Nat) (dd zH:Option Addr) (sl wj:Array (Option Value)) (ds es:List D) (z1:items.size=ds.length) (z2:fK.size=es.length):
  Meets (Builtin.«tuple.__lt__» ⟨[.ref l,.ref b],[]⟩)
   (λA R s=>s.heap.get? l=some {cls:= .type "tuple",dict:=dd,data:= .seq items n,slots:=sl}/\s.heap.get? b=some {cls:= .type "tuple",dict:=zH,data:= .seq fK n2,slots:=wj}/\
    Zp A.in1 s items.toList fK.toList ds es/\R (.ok (.ret (.bool (D.fv ds es)))) s):=
 .of_wp λprog w A R s h=>by
  obtain⟨hp,g,d,tk,os⟩:=s;obtain⟨hl,hb,OT,h⟩:=h;have f2:=AutoSeq1.sub_tuple_tuple
  wp_walk using wpAny_loadPart' hl,wpAny_loadPart' hb,wpAny_forIn_list _ (λrest b s'=>b.1=none/\s'=⟨hp,g,d,tk,os⟩/\∃(vs ws:List Value) (vd de:List D),rest=vs.zip ws/\
   Zp A.in1 ⟨hp,g,d,tk,os⟩ vs ws vd de/\vd.length + fK.size=de.length + items.size/\R (.ok (.ret (.bool (D.fv vd de)))) ⟨hp,g,d,tk,os⟩) _
  case turn=>
   rintro⟨y,x⟩ rest b s' ⟨jA,rfl,vs,ws,vd,de,hz,Kf,hlen,hR⟩;cases Kf with
   | nil _=>rw[List.zip_nil_left] at hz;cases hz
   | AD _=>rw[List.zip_nil_right] at hz;cases hz
   | cons he hl Hw=>
    rename_i v wv d0 e0 v7 ws' ds'' es'';rw[List.zip_cons_cons] at hz;injection hz with hyx FI;injection hyx with hy hx;subst hy hx;rw[D.eF] at hR;simp only[Qh] at hlen;refine PP (he prog w _ _ ?_);by_cases hde:d0=e0
    ·rw[if_pos hde] at hR;rw[(D.dq d0 e0).mpr hde]
     wp_walk
     exact⟨rfl,rfl,_,_,_,_,FI,Hw,by omega,hR⟩
    ·rw[if_neg hde] at hR;have N9:D.gu d0 e0=false:=by rw[D.iD];exact Qo hde
     rw[N9];have N8:=hl hde prog w
     wp_walk using N8
     exact⟨_,rfl,by simpa using hR⟩
  case fin=>
   rintro⟨b1,b2⟩ s' ⟨jA,rfl,vs,ws,vd,de,hz,Kf,hlen,hR⟩;simp only at jA;subst jA;have hv:D.fv vd de=decide (items.size < fK.size):=by
    cases Kf with
    | nil _=>
     cases de with
     | nil=>simp only[List.length_nil] at hlen;rw[D.fv];exact(Qo (by omega)).symm
     | cons c u=>simp only[List.length_nil,Qh] at hlen;rw[D.fv];exact(Qs (by omega)).symm
    | AD _=>
     cases vd with
     | nil=>simp only[List.length_nil] at hlen;rw[D.fv];exact(Qo (by omega)).symm
     | cons c u=>simp only[List.length_nil,Qh] at hlen;rw[D.fv];exact(Qo (by omega)).symm
    | cons he hl Hw=>rw[List.zip_cons_cons] at hz;cases hz
   rw[hv] at hR
   wp_walk
   exact⟨_,rfl,by simpa [Builtin.Tuple.tupleCompareSizes] using hR⟩
  case h=>exact⟨rfl,rfl,items.toList,fK.toList,ds,es,rfl,OT,by omega,h⟩
end
section
variable {P:Program} {w:World} {H:Hp} {s:Shared}
def wz (hok:eX P w H s.heap) {A:Around} {n:Nat} (hu:A.units + n < cLine) (ih:∀(d e:D) (x y:V) (u v:Value),D.dep d<=n->D.eZ d e->DV H x d->DV H y e->RelV x u->RelV y v->CV A s u v (D.lt d e)):
  ∀{xs ys:List V} {us vs:List Value} {ds es:List D},D.b8 ds<=n->D.gB ds es->aZ H xs ds->aZ H ys es->aw xs us->aw ys vs->Zp A s us vs ds es
 | [],ys,us,vs,[],es,_,_,_,h2,r1,r2=>by cases r1;exact .nil (by rw[<-r2.length,h2.length])
 | x::xs,[],us,vs,ds,[],_,_,h1,_,r1,r2=>by cases r2;exact .AD (by rw[<-r1.length,h1.length])
 | [],_,_,_,_::_,_,_,_,h,_,_,_=>by unfold aZ at h;exact h.elim
 | _::_,_,_,_,[],_,_,_,h,_,_,_=>by unfold aZ at h;exact h.elim
 | _::_,[],_,_,_::_,_::_,_,_,_,h,_,_=>by unfold aZ at h;exact h.elim
 | _::_,_::_,_,_,_::_,[],_,_,_,h,_,_=>by unfold aZ at h;exact h.elim
 | x::xs,y::ys,us,vs,d::ds,e::es,hd,hl,h1,h2,r1,r2=>by
  unfold aZ at h1 h2;unfold D.gB at hl;unfold D.b8 at hd;cases r1 with
  | cons r1 t1=>
   cases r2 with
   | cons r2 t2=>exact .cons (eq_data hok n d e x y _ _ A (by omega) hu h1.1 h2.1 r1 r2) (λ_=>ih d e x y _ _ (by omega) hl.1 h1.1 h2.1 r1 r2) (wz hok hu ih (by omega) hl.2 h1.2 h2.2 t1 t2)
def Bd (hok:eX P w H s.heap):∀(n:Nat) (d e:D) (x y:V) (u v:Value) (A:Around),D.dep d<=n->A.units + n < cLine->D.eZ d e->DV H x d->DV H y e->RelV x u->RelV y v->CV A s u v (D.lt d e):=by
 intro n
 induction n with
 | zero=>
  intro d e x y u v A hd hu hl hx hy rx ry;cases d with
  | int i=>
   have:=hx.int_inv;subst this;obtain⟨t,rfl⟩:=rx;cases e with
   | int j=>have:=hy.int_inv;subst this;obtain⟨t',rfl⟩:=ry;intro prog wd E Q q;exact(PyProof.Rows.lt_int q:wpAny (model prog wd) A (compareOp .Lt (.int i t) (.int j t')) Q E s)
   | str j=>unfold D.eZ at hl;exact hl.elim
   | tup j=>unfold D.eZ at hl;exact hl.elim
  | str i=>
   have:=hx.str_inv;subst this;obtain⟨t,rfl⟩:=rx;cases e with
   | int j=>unfold D.eZ at hl;exact hl.elim
   | str j=>have:=hy.str_inv;subst this;obtain⟨t',rfl⟩:=ry;intro prog wd E Q q;exact(PySem.P.lt_str q:wpAny (model prog wd) A (compareOp .Lt (.str i t) (.str j t')) Q E s)
   | tup j=>unfold D.eZ at hl;exact hl.elim
  | tup ds=>unfold D.dep at hd;omega
 | succ n ih=>
  intro d e x y u v A hd hu hl hx hy rx ry;cases d with
  | int i=>exact ih (.int i) e x y u v A (by unfold D.dep;omega) (by omega) hl hx hy rx ry
  | str i=>exact ih (.str i) e x y u v A (by unfold D.dep;omega) (by omega) hl hx hy rx ry
  | tup ds=>
   obtain⟨a,xs,q,e1,e2⟩:=hx.af;subst q;cases rx;cases e with
   | int j=>unfold D.eZ at hl;exact hl.elim
   | str j=>unfold D.eZ at hl;exact hl.elim
   | tup es=>
    obtain⟨b,ys,q,f1,f2⟩:=hy.af;subst q;cases ry;obtain⟨its,r1,ht⟩:=ay hok e1;obtain⟨aM,r2,cm⟩:=ay hok f1;have l1:its.toArray.size=ds.length:=by rw[PY,<-r1.length,e2.length]
    have l2:aM.toArray.size=es.length:=by rw[PY,<-r2.length,f2.length]
    have qT:D.b8 ds<=n:=by unfold D.dep at hd;omega
    have Af:D.gB ds es:=by unfold D.eZ at hl;exact hl
    have zz:Zp A.in1 s its aM ds es:=wz hok (n:=n) (by show A.units + 1 + n < cLine;omega) (λd e x y u v hd2 dh AV hy2 rx2 ry2=>ih d e x y u v A.in1 hd2 (by show A.units + 1 + n < cLine;omega) dh AV hy2 rx2 ry2) qT Af e2 f2 r1 r2;intro prog wd E Q q;obtain⟨⟨cls,dd,data,sl⟩,ho,hc,k,A0⟩:=id ht;obtain⟨⟨HW,zH,data2,wj⟩,oV,vw,k2,rM⟩:=id cm;simp only at hc A0 vw rM;subst hc A0 vw rM;have q':Q (.bool (D.fv ds es)) s:=by have z:=q;unfold D.lt at z;exact z
    exact richCompare_meets_room (op:= .Lt) ⟨_,ho,rfl⟩ ⟨_,oV,rfl⟩ PySem.F.slot_tuple_lt PySem.F.entry_tuple_lt (PySem.F.args_tuple_lt_2 _ _) (lP a b its.toArray aM.toArray k k2 dd zH sl wj ds es l1 l2)
     ⟨ho,oV,zz,show Value.bool (D.fv ds es)≠Value.notImplemented/\Q (.bool (D.fv ds es)) s from⟨(λx=>nomatch x),q'⟩⟩ (by omega)
end
end Mx
end
section
namespace Mx
open PySem PySem.W PySem.Spec PyProof.Rows L2 PySem.SeqAt MxSort
section
variable {P:Program} {w:World} {H:Hp} {prog:Program} {s:Shared} {A:Around}
def A9 {b:Bool} {n m:Nat} {Q:Bool->Shared->Prop} {us vs:List Value} {ds es:List D} (z:Zp A s us vs ds es):∀(i:Nat),1<=i->ds.length + m=es.length + n->Q (D.fv ds es) s->KatLex prog w A b (decide (n < m)) Q (us.zip vs) i s:=by
 induction z with
 | nil hl=>
  intro i hi hlen q;rw[List.zip_nil_left];refine kat_nil ?_;rename_i ws es;cases es with
  | nil=>simp only[List.length_nil] at hlen;rw[D.fv] at q;rw[Qo (by omega)];exact q
  | cons c u=>simp only[List.length_nil,Qh] at hlen;rw[D.fv] at q;rw[Qs (by omega)];exact q
 | AD hl=>
  intro i hi hlen q;rw[List.zip_nil_right];refine kat_nil ?_;rename_i vs ds;cases ds with
  | nil=>simp only[List.length_nil] at hlen;rw[D.fv] at q;rw[Qo (by omega)];exact q
  | cons c u=>simp only[List.length_nil,Qh] at hlen;rw[D.fv] at q;rw[Qo (by omega)];exact q
 | cons he hl z' ih=>
  intro i hi hlen q;rename_i v wv d e v7 ws' vd de;rw[List.zip_cons_cons];simp only[Qh] at hlen;rw[D.eF] at q;refine kat_cons (he prog w _ _ ?_);by_cases hde:d=e
  ·rw[(D.dq d e).mpr hde];rw[if_pos hde] at q;exact kat_yes (ih (i + 1) (by omega) (by omega) q)
  ·rw[show D.gu d e=false by rw[D.iD];exact Qo hde];rw[if_neg hde] at q;refine kat_no ?_;rw[show (b&&i==0)=false by rw[show (i==0)=false by simp;omega];simp];exact kat_one v wv (hl hde prog w _ _ q)
end
def iM (ds es:List D):Prop:=es.Perm ds/\es.Pairwise λa b=>D.lt b a=false
def aZ.map {H:Hp} {xs:List V} {ds:List D} (h:aZ H xs ds):∀{p:List Nat},(∀i∈p,i < xs.length)->aZ H (p.map λi=>xs.getD i .bo) (p.map λi=>ds.getD i (.int 0))
 | [],_=>aZ.nil
 | i::p,hp=>by have hi:=hp i P5;obtain⟨d,e1,e2⟩:=h.get (i:=i) (x:=xs[i]) (by simp[hi]);refine aZ.cons ?_ (aZ.map h λj hj=>hp j (P1 _ hj));dsimp only;rw[show xs.getD i .bo=xs[i] by simp[hi],show ds.getD i (.int 0)=d by simp[e1]];exact e2
def p7 {xs:List V} {us:List Value} (h:aw xs us):∀{p:List Nat},(∀i∈p,i < xs.length)->aw (p.map λi=>xs.getD i .bo) (p.map λi=>us.getD i .none)
 | [],_=> .nil
 | i::p,hp=>by have hi:=hp i P5;obtain⟨u,e1,e2⟩:=h.get (i:=i) (x:=xs[i]) (by simp[hi]);refine .cons ?_ (p7 h λj hj=>hp j (P1 _ hj));dsimp only;rw[show xs.getD i .bo=xs[i] by simp[hi],show us.getD i .none=u by simp[e1]];exact e2
def k8 {α:Type} (l:List α) (d:α):(List.range l.length).map (λi=>l.getD i d)=l:=by
 refine List.ext_getElem (by simp) λi h1 h2=>?_
 simp at h1;simp[h1]
end Mx
end
section
namespace L2
open PySem PySem.Spec PyProof.Rows
def oo (env:Env):List (Str×NameKind)->List (Str×Addr)->List (Str×Addr)
 | [],cs=>cs
 | (n,k)::r,cs=>oo env r (if k== .free then(n,(env.cells.lookup n).getD 0)::cs else cs)
def fj (scope:Scope) (env:Env):List (Str×Addr):=oo env scope.names []
def kR {env:Env}:∀(l:List (Str×NameKind)) (cs:List (Str×Addr)),(∀y∈l,y.2= .free->∃c,env.cells.lookup y.1=some c)->
  (forIn l cs (λx r=>do
   if x.2==NameKind.free then do let a<-cellOf env x.1;pure (ForInStep.yield ((x.1,a)::r)) else pure (ForInStep.yield r)):Sem (List (Str×Addr)))=pure (oo env l cs)
 | [],cs,_=>rfl
 | (n,k)::r,cs,h=>by
  rw[List.forIn_cons];have ih:=λcs=>kR r cs λy hy=>h y (P1 _ hy)
  cases hk:(k==NameKind.free) with
  | false=>simp only[hk,Bool.false_eq_true,if_false,oo,pure_bind];exact ih cs
  | true=>
   obtain⟨c,hc⟩:=h (n,k) P5 (by simpa using hk);have n9:env.cells.lookup n=some c:=hc;have e:cellOf env n=pure c:=by unfold cellOf;rw[n9]
   simp only[hk,if_true,oo,e,pure_bind,n9,Option.getD_some];exact ih _
def gq {scope:Scope} {env:Env} (h:∀y∈scope.names,y.2= .free->∃c,env.cells.lookup y.1=some c):closureFor scope env=pure (fj scope env):=by have q:=kR (env:=env) scope.names [] h;unfold closureFor fj;rw[<-q];simp only[bind_pure]
def jm {env:Env} {x:Str} {c:Addr}:∀(l:List (Str×NameKind)) (cs:List (Str×Addr)),(∀y∈l,y.2= .free->∃c,env.cells.lookup y.1=some c)->
  (∀c,cs.lookup x=some c->env.cells.lookup x=some c)->(oo env l cs).lookup x=some c->env.cells.lookup x=some c
 | [],cs,_,h2,h=>h2 c h
 | (n,k)::r,cs,h1,h2,h=>by
  refine jm r _ (λy hy=>h1 y (P1 _ hy)) (λc' n9=>?_) h;by_cases hk:(k==NameKind.free)=true
  ·rw[if_pos hk] at n9;rw[Qp] at n9;by_cases hx:(x==n)=true
   ·rw[hx] at n9;have qv:x=n:=by simpa using hx
    subst qv;obtain⟨c₁,e⟩:=h1 (x,k) P5 (by simpa using hk);have e':env.cells.lookup x=some c₁:=e;rw[e'] at n9 ⊢;simpa using n9
   ·rw[Bool.not_eq_true] at hx;rw[hx] at n9;exact h2 c' n9
  ·rw[if_neg hk] at n9;exact h2 c' n9
def kl {env:Env} {x:Str}:∀(l:List (Str×NameKind)) (cs:List (Str×Addr)),(((x,NameKind.free)∈l)\/∃c,cs.lookup x=some c)->∃c,(oo env l cs).lookup x=some c
 | [],cs,h=>by
  rcases h with h | h
  ·cases h
  ·exact h
 | (n,k)::r,cs,h=>by
  refine kl r _ ?_;by_cases hk:(k==NameKind.free)=true
  ·rw[if_pos hk];by_cases hx:(x==n)=true
   ·exact .inr ⟨_,by rw[Qp,hx]⟩
   ·rw[Bool.not_eq_true] at hx;rcases h with h | h
    ·rcases Qb.mp h with e | h
     ·injection e with e1 e2;subst e1;simp at hx
     ·exact .inl h
    ·exact .inr (by obtain⟨c,e⟩:=h;exact⟨c,by rw[Qp,hx];exact e⟩)
  ·rw[if_neg hk];rcases h with h | h
   ·rcases Qb.mp h with e | h
    ·injection e with e1 e2;subst e2;exact absurd rfl hk
    ·exact .inl h
   ·exact .inr h
def aV {env:Env} {x:Str}:∀{names:List (Str×NameKind)} {k:NameKind},names.lookup x=some k->
  (names.map λ(n,k)=>if (k==NameKind.free&&env.scope.kind== .function&&env.kindOf n==some .cell) then(n,NameKind.cell) else(n,k)).lookup x=
   some (if (k==NameKind.free&&env.scope.kind== .function&&env.kindOf x==some .cell) then NameKind.cell else k)
 | [],_,h=>by simp at h
 | (n,k')::r,k,h=>by
  have ih:=@aV env x r k;show List.lookup x ((if (k'==NameKind.free&&env.scope.kind== .function&&env.kindOf n==some .cell)=true then(n,NameKind.cell) else(n,k'))::_)=_;cases hx:x==n with
  | true=>
   have qv:x=n:=by simpa using hx
   subst qv;simp only[Qp,hx] at h;cases h;by_cases hc:(k'==NameKind.free&&env.scope.kind== .function&&env.kindOf x==some .cell)=true
   ·simp only[hc,if_true,Qp,hx]
   ·rw[if_neg hc,if_neg hc];simp only[Qp,hx]
  | false=>
   simp only[Qp,hx] at h;by_cases hc:(k'==NameKind.free&&env.scope.kind== .function&&env.kindOf n==some .cell)=true
   ·rw[if_pos hc];simp only[Qp,hx];exact ih h
   ·rw[if_neg hc];simp only[Qp,hx];exact ih h
def bP {env:Env} {x:Str}:∀{names:List (Str×NameKind)},names.lookup x=none->
  (names.map λ(n,k)=>if (k==NameKind.free&&env.scope.kind== .function&&env.kindOf n==some .cell) then(n,NameKind.cell) else(n,k)).lookup x=none
 | [],h=>rfl
 | (n,k')::r,h=>by
  show List.lookup x ((if (k'==NameKind.free&&env.scope.kind== .function&&env.kindOf n==some .cell)=true then(n,NameKind.cell) else(n,k'))::_)=_;cases hx:x==n with
  | true=>simp only[Qp,hx] at h;cases h
  | false=>
   simp only[Qp,hx] at h;by_cases hc:(k'==NameKind.free&&env.scope.kind== .function&&env.kindOf n==some .cell)=true
   ·rw[if_pos hc];simp only[Qp,hx];exact bP h
   ·rw[if_neg hc];simp only[Qp,hx];exact bP h
def dc (cJ:List (Option Nat)) (σ:St):St:=cJ.map λo=>o.bind λi=>(σ[i]?).join
def B0 (X:Cx) (ifs:List Expr) (t:TT):Prop:=
 ∀(pins:List (Addr×Obj)) (s:Shared) (σ:St) (H:Hp) (Q:Bool->Hp->Prop),Inv X pins σ H s->t σ H Q->
  wpAny (model X.prog X.w) X.A (forIn ifs true λc r=>if r=true then do let ok<-isTrue c X.env (eval c X.env);pure (ForInStep.yield ok) else pure (ForInStep.yield r)) (TP X pins σ Q) X.xe s
def L1:TT:=λ_ H Q=>Q true H
def Ay {X:Cx}:B0 X [] L1:=λ_ _ _ H _ I h=>wpAny_tests_nil ⟨H,I,h⟩
def Br {X:Cx} {c:Expr} {t:TT} (h:PT X c t):B0 X [c] t:=λpins s σ H Q I hw=>wpAny_tests_one (h pins s σ H Q I hw)
def Gj (J:It) (g:TG) (tt:TT) (te:TE) (σ0:St) (D:Addr) (F:Hp->Prop) (H1:Hp):Prop:=
 ∃W:Nat->Nat->List V->Hp->Prop,(∃m,W 0 m [] (upd H1 D (.lst [])))/\∀i m acc H,W i m acc H->
  (J.stop i H/\F H)\/(J.go i H/\∀x H',J.yld i H x H'->g x σ0 H' λσ2 H2=>tt σ2 H2 λb H3=>if b=true then te σ2 H3 λv H4=>∃d6,H4 D=some (.lst d6)/\d6.length < sizeLine/\
   ∃m',m' < m/\W (i + 1) m' (d6++[v]) (upd H4 D (.lst (d6++[v]))) else∃m',m' < m/\W (i + 1) m' acc H3)
end L2
end
section
namespace Mx
open PySem PySem.W PySem.Spec PyProof.Rows L2 PySem.SeqAt
section
variable {X:Cx}
def Lk:V->Option Int->Option Int->Hp->VK->Prop:=λx lo hi H Q=>∃z,x= .str z/\z.length<=sizeLine/\Q (.str (PySem.Txt.slice z lo hi)) H
def Eb:Fk X Lk:=by
 intro pins s σ H x v vl vu lo hi sl Q I rx hs pl pu h;obtain⟨z,rfl,hz,q⟩:=h;obtain⟨t,rfl⟩:=rx;refine⟨"str",_,PySem.F.slot_str_getitem.lookup,typeIs_str _ _ _,?_⟩;have fin:∀(t':Tok) (k:Nat),EP X pins σ Q (.str (PySem.Txt.slice z lo hi) t') {s with toks:=k}:=λt' k=>⟨.str _,H,I.tok k,⟨t',rfl⟩,q⟩
 have hlen:=Qa (PySem.Txt.slice_le z lo hi) hz;obtain⟨o,ho,hc,hd⟩:=hs;cases pl with
 | none=>
  cases pu with
  | none=>exact wpAny_getItem_str_slice (l:=none) (u:=none) (st:=none) ⟨o,ho,hc,hd⟩ rfl (post_val_or_str ⟨hlen,fin⟩)
  | int j tj=>exact wpAny_getItem_str_slice (l:=none) (u:=some (j,tj)) (st:=none) ⟨o,ho,hc,hd⟩ rfl (post_val_or_str ⟨hlen,fin⟩)
 | int i ti=>
  cases pu with
  | none=>exact wpAny_getItem_str_slice (l:=some (i,ti)) (u:=none) (st:=none) ⟨o,ho,hc,hd⟩ rfl (post_val_or_str ⟨hlen,fin⟩)
  | int j tj=>exact wpAny_getItem_str_slice (l:=some (i,ti)) (u:=some (j,tj)) (st:=none) ⟨o,ho,hc,hd⟩ rfl (post_val_or_str ⟨hlen,fin⟩)
def KW (K:PySem.W.Frag):List V->Hp->VK->Prop:=λxs H Q=>∃x T t b,xs=[x,.ty T]/\iL K H x t/\PySem.W.kitOne K t (.type T)=some b/\Q (.bl b) H
def wL:gv X (.builtin "isinstance") (KW X.K):=by intro pins s σ H xs us Q I r h;obtain⟨x,T,t,b,rfl,ty,hk,q⟩:=h;obtain⟨u,v,rfl,r1,r2⟩:=r.two;cases r2;exact vH I r1 ty hk λtk=>⟨.bl b,H,I.tok tk,rfl,q⟩
end
end Mx
end
section
namespace Mx
open PySem PySem.W PySem.Spec PyProof.Rows L2
structure iy (z TI TO i1 i2:Addr):Prop where
 TIz:TI≠z
 TOz:TO≠z
 i1z:i1≠z
 i2z:i2≠z
 TITO:TI≠TO
 TIi1:TI≠i1
 TIi2:TI≠i2
 TOi1:TO≠i1
 TOi2:TO≠i2
 i12:i1≠i2
def cD {H:Hp} {p:Addr} (h:H p=none) (o:HO):bD H (upd H p o):=λb u q=>by rw[ao (au q h)];exact q
def l6 {H H':Hp} (h:bD H H'):Ap H H':=λa xs q=>h a _ q
def zd {H1 H:Hp} {D:Addr} {o:HO} (h:bD H1 H) (hD:H1 D=none):bD H1 (upd H D o):=λb u q=>by rw[ao (au q hD)];exact h b u q
def ll {H:Hp} {D:Addr} {xs ys:List V} (hD:H D=some (.lst xs)):Ap H (upd H D (.lst ys)):=λb zs q=>by
 by_cases e:b=D
 ·subst e;rw[hD] at q;cases q
 ·rw[ao e];exact q
def JG {α:Type} {x:α} {r:List α}:ka (x::r) 0=some x:=fT (j:=0) rfl
def zP {α:Type} {x y:α} {r:List α}:ka (x::y::r) 1=some y:=fT (j:=1) rfl
def at2 {α:Type} {x y z:α} {r:List α}:ka (x::y::z::r) 2=some z:=fT (j:=2) rfl
section
variable {K:PySem.W.Frag} {g:TG} {tt:TT} {te:TE} {σ0:L2.St} {D:Addr} {F:Hp->Prop} {H1:Hp}
def o7 {J:It} {n:Nat} (hD:H1 D=none) (E:Nat->List Mx.D) (hE:E 0=[]) (hn:n < sizeLine) (go:∀i H,i < n->bD H1 H->J.go i H) (stop:∀H,bD H1 H->J.stop n H)
  (hs:∀i x H H',i < n->bD H1 H->J.yld i H x H'->bD H H'/\∀(N:V->Hp->Prop) (M:Hp->Prop),(∀v H4 e,bD H' H4->DV H4 v e->E (i + 1)=E i++[e]->N v H4)->(∀H3,bD H' H3->E (i + 1)=E i->M H3)->
   g x σ0 H' λσ2 H2=>tt σ2 H2 λb H3=>if b=true then te σ2 H3 N else M H3)
  (hd:∀H acc,bD H1 H->H D=some (.lst acc)->aZ H acc (E n)->F H):Gj J g tt te σ0 D F H1:=by
 refine⟨λi m acc H=>m=n - i/\i<=n/\bD H1 H/\H D=some (.lst acc)/\aZ H acc (E i)/\acc.length<=i,⟨n,by simp,Nat.zero_le _,cD hD _,aC,by rw[hE];exact aZ.nil,P4 _⟩,?_⟩;rintro i m acc H ⟨rfl,hi,hS,JT,oR,tW⟩;by_cases cQ:i < n
 ·refine .inr ⟨go i H cQ hS,λx H' y=>?_⟩;obtain⟨s1,st⟩:=hs i x H H' cQ hS y;refine st _ _ (λv H4 e s4 he e4=>?_) (λH3 s3 e3=>?_)
  ·have JV:=s1.trans s4;have GR:=JV _ _ JT;refine⟨acc,GR,by omega,n - (i + 1),by omega,rfl,cQ,zd (hS.trans JV) hD,aC,?_,by simp;omega⟩;rw[e4];exact(aZ.append (oR.mono (l6 JV)) (aZ.cons he aZ.nil)).mono (ll GR)
  ·have La:=s1.trans s3;exact⟨n - (i + 1),by omega,rfl,cQ,hS.trans La,La _ _ JT,by rw[e3];exact oR.mono (l6 La),by omega⟩
 ·have e:i=n:=by omega
  subst e;exact .inl ⟨stop H hS,hd H acc hS JT oR⟩
end
def ba:Bool->Heap->Addr->Addr->Nat->Prop
 | false,h,i,l,k=>h.IsListIter i l k
 | true,h,i,l,k=>h.IsTupleIter i l k
def cu:Bool->Heap->Addr->Array Value->Prop
 | false,h,l,xs=>h.IsList l xs
 | true,h,l,xs=>h.IsTuple l xs
def ba.at:∀{b:Bool} {h h':Heap} {i l:Addr} {k:Nat},ba b h i l k->(∀o,h.get? i=some o->h'.get? i=some o)->ba b h' i l k
 | false,_,_,_,_,_,x,e=>Heap.IsListIter.at x e
 | true,_,_,_,_,_,x,e=>Heap.IsTupleIter.at x e
def cu.at:∀{b:Bool} {h h':Heap} {l:Addr} {xs:Array Value},cu b h l xs->(∀o,h.get? l=some o->h'.get? l=some o)->cu b h' l xs
 | false,_,_,_,_,x,e=>let ⟨o,ho,r⟩:=x;⟨o,e o ho,r⟩
 | true,_,_,_,_,x,e=>let ⟨o,ho,r⟩:=x;⟨o,e o ho,r⟩
def ba.obj:∀{b:Bool} {h:Heap} {i l:Addr} {k:Nat},ba b h i l k->∃o,h.get? i=some o/\∀v,o.data≠ .cell v
 | false,_,_,_,_,x=>by obtain⟨o,e,c,d⟩:=x;exact⟨o,e,λv q=>by rw[d] at q;cases q⟩
 | true,_,_,_,_,x=>by obtain⟨o,e,c,d⟩:=x;exact⟨o,e,λv q=>by rw[d] at q;cases q⟩
section
variable {prog:Program} {w:World} {A:Around} {E:Value->Shared->Prop} {s:Shared}
def qV {it t:Addr} {i:Nat} {items:Array Value} {x:Value} {Q:Value->Shared->Prop} (hit:s.heap.IsTupleIter it t i) (ht:s.heap.IsTuple t items) (hx:items[i]?=some x)
  (hQ:∀h',h'.IsTupleIter it t (i + 1)->Heap.SameBut it s.heap h'->Q x {s with heap:=h'}):wpAny (model prog w) A (Builtin.SmallTypes.nextOf (.ref it)) Q E s:=by
 obtain⟨o,ho,hc,hd⟩:=id hit;obtain⟨ol,Ex,_,nl,yI⟩:=ht;unfold Builtin.SmallTypes.nextOf;refine PP (wpAny_callSpecial?_slot (name:=Str.ofString "__next__") hit.typeIs F.slot_tuple_iterator_next (wpAny_call_entry F.slot_tuple_iterator_next hit.typeIs F.entry_tuple_iterator_next (show wpAny _ _ (field (.ref it) 0 >>=_) _ _ s from PP (wpAny_field ho hd (x:= .ref t) rfl ?_)) (F.args_tuple_iterator_next_1 _)));show wpAny _ _ (if (Value.ref t==Value.none)=true then _ else _) _ _ s;rw[if_neg (show¬((Value.ref t==Value.none)=true) from Bool.false_ne_true)];refine(show wpAny _ _ (field (.ref it) 1 >>=_) _ _ s from PP (wpAny_field ho hd (x:= .int i 0) rfl (show wpAny _ _ (seqItems? (.ref t) >>=_) _ _ s from PP (wpAny_seqItems Ex yI ?_))));simp only[Int.toNat_natCast,hx];refine PP (wpAny_setField ho hd (by simp) (PV ⟨x,rfl,PV (hQ _ ⟨_,Heap.get?_update_self _ ho (Obj.isFreed_of_fields (Obj.data_mapFields hd _)),(Obj.cls_mapFields ..).trans hc,?_⟩ (Heap.SameBut.update ..))⟩));rw[Obj.data_mapFields hd];simp[rawInt]
def vv {it t:Addr} {i:Nat} {items:Array Value} {Q:Value->Shared->Prop} (hh:A.handled=none) (hit:s.heap.IsTupleIter it t i) (ht:s.heap.IsTuple t items) (hx:items[i]?=none)
  (hE:∀h' e,Heap.ExtBut it s.heap h'->(∃o,h'.get? e=some o/\o.cls= .type "StopIteration")->E (.ref e) {s with heap:=h'}):wpAny (model prog w) A (Builtin.SmallTypes.nextOf (.ref it)) Q E s:=by
 obtain⟨o,ho,hc,hd⟩:=id hit;obtain⟨ol,Ex,_,nl,yI⟩:=ht;unfold Builtin.SmallTypes.nextOf;refine PP (wpAny_callSpecial?_slot (name:=Str.ofString "__next__") hit.typeIs F.slot_tuple_iterator_next (wpAny_call_entry F.slot_tuple_iterator_next hit.typeIs F.entry_tuple_iterator_next (show wpAny _ _ (field (.ref it) 0 >>=_) _ _ s from PP (wpAny_field ho hd (x:= .ref t) rfl ?_)) (F.args_tuple_iterator_next_1 _)));show wpAny _ _ (if (Value.ref t==Value.none)=true then _ else _) _ _ s;rw[if_neg (show¬((Value.ref t==Value.none)=true) from Bool.false_ne_true)];refine(show wpAny _ _ (field (.ref it) 1 >>=_) _ _ s from PP (wpAny_field ho hd (x:= .int i 0) rfl (show wpAny _ _ (seqItems? (.ref t) >>=_) _ _ s from PP (wpAny_seqItems Ex yI ?_))));simp only[Int.toNat_natCast,hx];refine PP (wpAny_rule (PP (wpAny_setField ho hd (by simp) (show wpAny _ _ (newExc (.type "StopIteration") [] >>=_) _ _ _ from PP ?_))));simp only[newExc,newTuple];refine PP (wpAny_newObj_type (PP (m:=firstArgMember _ _) (wpAny_of_eq (a:=Value.none) (by first | rfl | (simp only[firstArgMember];rfl)) (wpAny_newObj_type ?_ (by size_fits)))) (by size_fits));simp only[raiseNew];refine PP (wpAny_handled ?_)
 first | rw[show A.in1.handled=none from hh] | rw[hh]
 exact PP (PV (wpAny_throw (hE _ _ (((Heap.SameBut.update ..).extBut.push _).push _) ⟨_,P6 _ rfl,rfl⟩)))
def cc {b:Bool} {it l:Addr} {i:Nat} {items:Array Value} {x:Value} {Q:Value->Shared->Prop} (hit:ba b s.heap it l i) (hl:cu b s.heap l items) (hx:items[i]?=some x)
  (hQ:∀h',ba b h' it l (i + 1)->Heap.SameBut it s.heap h'->Q x {s with heap:=h'}):wpAny (model prog w) A (Builtin.SmallTypes.nextOf (.ref it)) Q E s:=by
 cases b with
 | false=>exact wpAny_nextOf_list_item hit hl hx hQ
 | true=>exact qV hit hl hx hQ
def et {b:Bool} {it l:Addr} {i:Nat} {items:Array Value} {Q:Value->Shared->Prop} (hh:A.handled=none) (hit:ba b s.heap it l i) (hl:cu b s.heap l items) (hx:items[i]?=none)
  (hE:∀h' e,Heap.ExtBut it s.heap h'->(∃o,h'.get? e=some o/\o.cls= .type "StopIteration")->E (.ref e) {s with heap:=h'}):wpAny (model prog w) A (Builtin.SmallTypes.nextOf (.ref it)) Q E s:=by
 cases b with
 | false=>exact wpAny_nextOf_list_end hh hit hl hx hE
 | true=>exact vv hh hit hl hx hE
end
structure bO (z TO i1 i2 l:Addr):Prop where
 z:l≠z
 o:l≠TO
 a:l≠i1
 b:l≠i2
section
variable {prog:Program} {w:World} {A:Around} {E:Value->Shared->Prop} {s:Shared}
def lV {b1 b2:Bool} {z TI TO i1 i2 l1 l2:Addr} {k1 k2:Nat} {xs ys:Array Value} {x y a b:Value} {Q:Option Value->Shared->Prop} (D:iy z TI TO i1 i2) (O1:bO z TO i1 i2 l1) (O2:bO z TO i1 i2 l2)
  (hz:IsZip s.heap z TI TO .none) (Dm:IsPair s.heap TI (.ref i1) (.ref i2)) (Lc:IsPair s.heap TO a b) (h1:ba b1 s.heap i1 l1 k1) (h2:ba b2 s.heap i2 l2 k2) (cO:cu b1 s.heap l1 xs) (dh:cu b2 s.heap l2 ys) (hx:xs[k1]?=some x) (hy:ys[k2]?=some y)
  (hQ:∀h',IsZip h' z TI TO (rawInt s.heap.objs.size)->IsPair h' TO x y->ba b1 h' i1 l1 (k1 + 1)->ba b2 h' i2 l2 (k2 + 1)->IsPair h' s.heap.objs.size x y->
   (∀c o,c≠z->c≠TO->c≠i1->c≠i2->s.heap.get? c=some o->h'.get? c=some o)->Q (some (.ref s.heap.objs.size)) {s with heap:=h'}):wpAny (model prog w) A (pyNext (.ref z)) Q E s:=by
 have hT:s.TypeIs (.ref z) "zip":=⟨_,hz,rfl⟩;unfold pyNext;refine PP (wpAny_attempt (wpAny_callSpecial?_slot (name:=Str.ofString "__next__") hT F.slot_zip_next (wpAny_call_entry F.slot_zip_next hT F.entry_zip_next ?_ (F.args_zip_next_1 _))));refine(show wpAny _ _ (field (.ref z) 2 >>=_) _ _ _ from PP (wpAny_field hz rfl (x:= .bool false) rfl (show wpAny _ _ (field (.ref z) 3 >>=_) _ _ _ from PP (wpAny_field hz rfl (x:= .ref TI) rfl (PP (wpAny_seqItems Dm rfl (show wpAny _ _ (Builtin.SmallTypes.ownedTupleIsFree (.ref z) >>=_) _ _ _ from PP ?_)))))));unfold Builtin.SmallTypes.ownedTupleIsFree;refine PP (wpAny_field hz rfl (x:= .none) rfl (PV ?_));simp only[if_true];refine PP (wpAny_rule (PP (wpAny_field hz rfl (x:= .ref TO) rfl (PP (Qw hz (by simp) λg1 z1 e1=>PP ?_)))))
 replace z1:IsZip g1 z TI TO .ellipsis:=z1
 simp only[List.zipIdx_cons,List.zipIdx_nil,List.forIn_cons,List.forIn_nil];refine PP (PP (wpAny_onRaise (show wpAny _ _ (Builtin.SmallTypes.nextOf (.ref i1) >>=_) _ _ _ from PP (cc (h1.at λo q=>e1.extBut _ o D.i1z q) (cO.at λo q=>e1.extBut _ o O1.z q) hx λg2 j1 e2=>PV ?_))));have t2:IsPair g2 TO a b:=e2.extBut _ _ D.TOi1 (e1.extBut _ _ D.TOz Lc);refine PP (wpAny_seqItems t2 rfl (PP (wpAny_updateSeq_pair t2 λg3 t3 e3=>PP (wpAny_letGo (PV ?_)))))
 replace t3:IsPair g3 TO x b:=t3
 refine PP (PP (wpAny_onRaise (show wpAny _ _ (Builtin.SmallTypes.nextOf (.ref i2) >>=_) _ _ _ from PP (cc (h2.at λo q=>e3.extBut _ o D.TOi2.symm (e2.extBut _ o D.i12.symm (e1.extBut _ o D.i2z q))) (dh.at λo q=>e3.extBut _ o O2.o (e2.extBut _ o O2.a (e1.extBut _ o O2.z q))) hy λg4 j2 e4=>PV ?_))));have t4:IsPair g4 TO x b:=e4.extBut _ _ D.TOi2 t3;refine PP (wpAny_seqItems t4 rfl (PP (wpAny_updateSeq_pair t4 λg5 t5 e5=>PP (wpAny_letGo (PV (PV ?_))))))
 replace t5:IsPair g5 TO x y:=t5
 refine PP (wpAny_seqItems t5 rfl (PP (wpAny_newTuple ?_)));have sz:g5.objs.size=s.heap.objs.size:=by rw[e5.1,e4.1,e3.1,e2.1,e1.1]
 have z5:IsZip g5 z TI TO .ellipsis:=e5.extBut _ _ D.TOz.symm (e4.extBut _ _ D.i2z.symm (e3.extBut _ _ D.TOz.symm (e2.extBut _ _ D.i1z.symm z1)));have old:∀c o,c≠z->c≠TO->c≠i1->c≠i2->s.heap.get? c=some o->g5.get? c=some o:=λc o c1 c2 c3 c4 q=>e5.extBut _ _ c2 (e4.extBut _ _ c4 (e3.extBut _ _ c2 (e2.extBut _ _ c3 (e1.extBut _ _ c1 q))))
 have n1:ba b1 g5 i1 l1 (k1 + 1):=j1.at λo q=>e5.extBut _ o D.TOi1.symm (e4.extBut _ o D.i12 (e3.extBut _ o D.TOi1.symm q))
 have n2:ba b2 g5 i2 l2 (k2 + 1):=j2.at λo q=>e5.extBut _ o D.TOi2.symm q
 have Nd:z < g5.objs.size:=P9 z5;refine(show wpAny _ _ (Builtin.SmallTypes.ownedTupleHandOut (.ref z) (.ref g5.objs.size) >>=_) _ _ _ from PP ?_);unfold Builtin.SmallTypes.ownedTupleHandOut;have z6:IsZip (g5.push {cls:= .type "tuple",data:= .seq #[x,y]}) z TI TO .ellipsis:=PU _ z5;refine PP (Qw z6 (by simp) λg7 z7 e7=>?_)
 replace z7:IsZip g7 z TI TO (rawInt g5.objs.size):=z7
 refine Qw z7 (by simp) λg8 z8 e8=>?_
 replace z8:IsZip g8 z TI TO (rawInt g5.objs.size):=z8
 have up:∀c o,c≠z->g5.get? c=some o->g8.get? c=some o:=λc o c1 q=>e8.extBut _ _ c1 (e7.extBut _ _ c1 (PU _ q))
 have t8:IsPair g8 g5.objs.size x y:=e8.extBut _ _ (Nat.ne_of_gt Nd) (e7.extBut _ _ (Nat.ne_of_gt Nd) (P6 _ rfl));rw[sz] at z8 t8;refine PV ⟨_,rfl,PV ?_⟩;show Q (some (.ref g5.objs.size)) _;rw[sz];exact hQ g8 z8 (up _ _ D.TOz t5) (n1.at λo q=>up _ o D.i1z q) (n2.at λo q=>up _ o D.i2z q) t8 λc o c1 c2 c3 c4 q=>up c o c1 (old c o c1 c2 c3 c4 q)
def pz {b1 b2:Bool} {z TI TO i1 i2 l1 l2:Addr} {k1 k2:Nat} {xs ys:Array Value} {a b:Value} {Q:Option Value->Shared->Prop} (hh:A.handled=none) (D:iy z TI TO i1 i2) (O1:bO z TO i1 i2 l1) (O2:bO z TO i1 i2 l2)
  (hz:IsZip s.heap z TI TO .none) (Dm:IsPair s.heap TI (.ref i1) (.ref i2)) (Lc:IsPair s.heap TO a b) (h1:ba b1 s.heap i1 l1 k1) (h2:ba b2 s.heap i2 l2 k2) (cO:cu b1 s.heap l1 xs) (dh:cu b2 s.heap l2 ys) (pd:xs[k1]?=none\/ys[k2]?=none)
  (hQ:∀h',(∀c o,c≠z->c≠TO->c≠i1->c≠i2->s.heap.get? c=some o->h'.get? c=some o)->Q none {s with heap:=h'}):wpAny (model prog w) A (pyNext (.ref z)) Q E s:=by
 have hT:s.TypeIs (.ref z) "zip":=⟨_,hz,rfl⟩;unfold pyNext;refine PP (wpAny_attempt (wpAny_callSpecial?_slot (name:=Str.ofString "__next__") hT F.slot_zip_next (wpAny_call_entry F.slot_zip_next hT F.entry_zip_next ?_ (F.args_zip_next_1 _))));have stop:∀(h':Heap) (e:Addr),(∀c o,c≠z->c≠TO->c≠i1->c≠i2->s.heap.get? c=some o->h'.get? c=some o)->(∃o,h'.get? e=some o/\o.cls= .type "StopIteration")->wpAny (model prog w) A (isInstance (.ref e) (.type "StopIteration")) (λr s'=>r=true/\Q none s') E {s with heap:=h'}:=λh' e kk he=>by obtain⟨o,ho,hc⟩:=he;exact wpAny_isInstance (T:="StopIteration") (b:=true) ⟨o,ho,hc⟩ isSubtype_stop ⟨rfl,hQ _ kk⟩
 refine(show wpAny _ _ (field (.ref z) 2 >>=_) _ _ _ from PP (wpAny_field hz rfl (x:= .bool false) rfl (show wpAny _ _ (field (.ref z) 3 >>=_) _ _ _ from PP (wpAny_field hz rfl (x:= .ref TI) rfl (PP (wpAny_seqItems Dm rfl (show wpAny _ _ (Builtin.SmallTypes.ownedTupleIsFree (.ref z) >>=_) _ _ _ from PP ?_)))))));unfold Builtin.SmallTypes.ownedTupleIsFree;refine PP (wpAny_field hz rfl (x:= .none) rfl (PV ?_));simp only[if_true];refine PP (wpAny_rule (PP (wpAny_field hz rfl (x:= .ref TO) rfl (PP (Qw hz (by simp) λg1 z1 e1=>PP ?_)))))
 replace z1:IsZip g1 z TI TO .ellipsis:=z1
 simp only[List.zipIdx_cons,List.zipIdx_nil,List.forIn_cons,List.forIn_nil];refine PP (PP (wpAny_onRaise ?_));show wpAny _ _ (Builtin.SmallTypes.nextOf (.ref i1) >>=_) _ _ _;cases hx:xs[k1]? with
 | none=>
  refine PP (et hh (h1.at λo q=>e1.extBut _ o D.i1z q) (cO.at λo q=>e1.extBut _ o O1.z q) hx λg2 e e2 he=>?_);obtain⟨oe,Dr,BY⟩:=he;have z2:IsZip g2 z TI TO .ellipsis:=e2 _ _ D.i1z.symm z1;have KI:e≠z:=λx=>by subst x;rw[z2] at Dr;cases Dr;simp at BY
  refine Qw z2 (by simp) λg3 _ e3=>?_
  refine PP (wpAny_mono (stop g3 e (λc o c1 _ c3 _ x=>e3.extBut _ _ c1 (e2 _ _ c3 (e1.extBut _ _ c1 x))) ⟨oe,e3.extBut _ _ KI Dr,BY⟩) (λr s' q=>?_) λ_ _ q=>q);obtain⟨rfl,q⟩:=q;exact PV q
 | some x=>
  have hy:ys[k2]?=none:=by rcases pd with h | h;rw[hx] at h;cases h;exact h
  refine PP (cc (h1.at λo q=>e1.extBut _ o D.i1z q) (cO.at λo q=>e1.extBut _ o O1.z q) hx λg2 j1 e2=>PV ?_);have t2:IsPair g2 TO a b:=e2.extBut _ _ D.TOi1 (e1.extBut _ _ D.TOz Lc);refine PP (wpAny_seqItems t2 rfl (PP (wpAny_updateSeq_pair t2 λg3 t3 e3=>PP (wpAny_letGo (PV ?_)))));refine PP (PP (wpAny_onRaise (show wpAny _ _ (Builtin.SmallTypes.nextOf (.ref i2) >>=_) _ _ _ from PP (et hh (h2.at λo q=>e3.extBut _ o D.TOi2.symm (e2.extBut _ o D.i12.symm (e1.extBut _ o D.i2z q))) (dh.at λo q=>e3.extBut _ o O2.o (e2.extBut _ o O2.a (e1.extBut _ o O2.z q))) hy λg4 e e4 he=>?_))));obtain⟨oe,Dr,BY⟩:=he;have z4:IsZip g4 z TI TO .ellipsis:=e4 _ _ D.i2z.symm (e3.extBut _ _ D.TOz.symm (e2.extBut _ _ D.i1z.symm z1));have KI:e≠z:=λx=>by subst x;rw[z4] at Dr;cases Dr;simp at BY
  refine Qw z4 (by simp) λg5 _ e5=>?_
  refine PP (wpAny_mono (stop g5 e (λc o c1 c2 c3 c4 x=>e5.extBut _ _ c1 (e4 _ _ c4 (e3.extBut _ _ c2 (e2.extBut _ _ c3 (e1.extBut _ _ c1 x))))) ⟨oe,e5.extBut _ _ KI Dr,BY⟩) (λr s' q=>?_) λ_ _ q=>q);obtain⟨rfl,q⟩:=q;exact PV q
end
def gk:Bool->Addr->Obj
 | false,l=>{cls:= .type "list_iterator",data:= .fields #[.ref l,.int 0 0]}
 | true,l=>{cls:= .type "tuple_iterator",data:= .fields #[.ref l,.int 0 0]}
def lj:∀{b:Bool} {h:Heap} {i l:Addr},h.get? i=some (gk b l)->ba b h i l 0
 | false,_,_,_,e=>⟨_,e,rfl,rfl⟩
 | true,_,_,_,e=>⟨_,e,rfl,rfl⟩
def iR (b:Bool) (l:Addr):(gk b l).isFreed=false:=by cases b <;> rfl
abbrev IX (h:Heap) (b1:Bool) (l1:Addr):Heap:=h.push (gk b1 l1)
abbrev Jy (h:Heap) (b1 b2:Bool) (l1 l2:Addr):Heap:=(IX h b1 l1).push (gk b2 l2)
abbrev IM (h:Heap) (b1 b2:Bool) (l1 l2:Addr):Heap:=(Jy h b1 b2 l1 l2).push {cls:= .type "tuple",data:= .seq #[.ref h.objs.size,.ref (IX h b1 l1).objs.size]}
abbrev IF (h:Heap) (b1 b2:Bool) (l1 l2:Addr):Heap:=(IM h b1 b2 l1 l2).push {cls:= .type "tuple",data:= .seq #[.none,.none]}
abbrev Ff (h:Heap) (b1 b2:Bool) (l1 l2:Addr):Heap:=(IF h b1 b2 l1 l2).push {cls:= .type "zip",data:= .fields #[.none,.bool false,.bool false,.ref (Jy h b1 b2 l1 l2).objs.size,.ref (IM h b1 b2 l1 l2).objs.size]}
def cu.push {b:Bool} {h:Heap} {l:Addr} {xs:Array Value} (x:cu b h l xs) (o:Obj):cu b (h.push o) l xs:=x.at λ_ e=>PU _ e
def zy (b1 b2:Bool) (l1 l2:Addr) (xs ys:Array Value):
  Meets (Builtin.«zip.__new__» ⟨[.type "zip",.ref l1,.ref l2],[]⟩) (λ_ R s=>cu b1 s.heap l1 xs/\cu b2 s.heap l2 ys/\R (.ok (.ret (.ref (IF s.heap b1 b2 l1 l2).objs.size))) {s with heap:=Ff s.heap b1 b2 l1 l2}):=
 .of_wp λprog w A R s h=>by
  obtain⟨hp,g,d,tk,os⟩:=s;obtain⟨cO,dh,h⟩:=h;have vA:=sub_zip;have Jf:=dh.push (gk b1 l1);cases b1 <;> cases b2
  ·have k1:Heap.IsList (Shared.heap ⟨hp,g,d,tk,os⟩) l1 xs:=cO;have k2:Heap.IsList (Shared.heap ⟨hp.push {cls:= .type "list_iterator",data:= .fields #[.ref l1,.int 0 0]},g,d,tk,os⟩) l2 ys:=Jf
   wp_walk using wpAny_pyIter_list k1,wpAny_pyIter_list k2
   exact⟨_,rfl,h⟩
  ·have k1:Heap.IsList (Shared.heap ⟨hp,g,d,tk,os⟩) l1 xs:=cO;have k2:Heap.IsTuple (Shared.heap ⟨hp.push {cls:= .type "list_iterator",data:= .fields #[.ref l1,.int 0 0]},g,d,tk,os⟩) l2 ys:=Jf
   wp_walk using wpAny_pyIter_list k1,wpAny_pyIter_tuple k2
   exact⟨_,rfl,h⟩
  ·have k1:Heap.IsTuple (Shared.heap ⟨hp,g,d,tk,os⟩) l1 xs:=cO;have k2:Heap.IsList (Shared.heap ⟨hp.push {cls:= .type "tuple_iterator",data:= .fields #[.ref l1,.int 0 0]},g,d,tk,os⟩) l2 ys:=Jf
   wp_walk using wpAny_pyIter_tuple k1,wpAny_pyIter_list k2
   exact⟨_,rfl,h⟩
  ·have k1:Heap.IsTuple (Shared.heap ⟨hp,g,d,tk,os⟩) l1 xs:=cO;have k2:Heap.IsTuple (Shared.heap ⟨hp.push {cls:= .type "tuple_iterator",data:= .fields #[.ref l1,.int 0 0]},g,d,tk,os⟩) l2 ys:=Jf
   wp_walk using wpAny_pyIter_tuple k1,wpAny_pyIter_tuple k2
   exact⟨_,rfl,h⟩
section
variable {prog:Program} {w:World} {A:Around} {E:Value->Shared->Prop} {s:Shared}
def mD {b1 b2:Bool} {l1 l2:Addr} {xs ys:Array Value} {Q:Value->Shared->Prop} (cO:cu b1 s.heap l1 xs) (dh:cu b2 s.heap l2 ys)
  (h:∀h',IsZip h' (s.heap.objs.size + 4) (s.heap.objs.size + 2) (s.heap.objs.size + 3) .none->IsPair h' (s.heap.objs.size + 2) (.ref s.heap.objs.size) (.ref (s.heap.objs.size + 1))->IsPair h' (s.heap.objs.size + 3) .none .none->
   ba b1 h' s.heap.objs.size l1 0->ba b2 h' (s.heap.objs.size + 1) l2 0->(∀c o,s.heap.get? c=some o->h'.get? c=some o)->Q (.ref (s.heap.objs.size + 4)) {s with heap:=h'}):wpAny (model prog w) A (call (.type "zip") [.ref l1,.ref l2]) Q E s:=by
 refine callType_new F.called_zip (by decide) (F.typeCall_zip_2 _ _) (F.newCall_zip_2 _ _) (λobj=>F.args_object_init_3 obj _ _) F.entry_zip_new (zy b1 b2 l1 l2 xs ys) ⟨cO,dh,?_⟩;have y1:(IX s.heap b1 l1).objs.size=s.heap.objs.size + 1:=Qt ..;have y2:(Jy s.heap b1 b2 l1 l2).objs.size=s.heap.objs.size + 2:=by rw[Qt,y1]
 have y3:(IM s.heap b1 b2 l1 l2).objs.size=s.heap.objs.size + 3:=by rw[Qt,y2]
 have y4:(IF s.heap b1 b2 l1 l2).objs.size=s.heap.objs.size + 4:=by rw[Qt,y3]
 have g5:(Ff s.heap b1 b2 l1 l2).get? (IF s.heap b1 b2 l1 l2).objs.size=some _:=P6 _ rfl;have g4:(Ff s.heap b1 b2 l1 l2).get? (IM s.heap b1 b2 l1 l2).objs.size=some _:=PU _ (P6 _ rfl);have g3:(Ff s.heap b1 b2 l1 l2).get? (Jy s.heap b1 b2 l1 l2).objs.size=some _:=PU _ (PU _ (P6 _ rfl));have g2:(Ff s.heap b1 b2 l1 l2).get? (IX s.heap b1 l1).objs.size=some _:=PU _ (PU _ (PU _ (P6 _ (iR b2 l2))));have g1:(Ff s.heap b1 b2 l1 l2).get? s.heap.objs.size=some _:=PU _ (PU _ (PU _ (PU _ (P6 _ (iR b1 l1)))));show _/\_;rw[y2,y3,y4] at g5;rw[y1,y2] at g3;rw[y3] at g4;rw[y1] at g2;rw[y4];exact⟨⟨_,g5,rfl⟩,h _ g5 g3 g4 (lj g1) (lj g2) λc o x=>PU _ (PU _ (PU _ (PU _ (PU _ x))))⟩
end
def g9:Bool->List V->HO
 | false,xs=> .lst xs
 | true,xs=> .tup xs
def nz {b:Bool} {xs ys:List V} (h:g9 b xs=g9 b ys):xs=ys:=by
 cases b with
 | false=>injection h
 | true=>injection h
def K8 (b1 b2:Bool) (l1 l2:Addr):It where
 go:=λi H=>∃xs ys x y,H l1=some (g9 b1 xs)/\H l2=some (g9 b2 ys)/\xs[i]?=some x/\ys[i]?=some y
 yld:=λi H v H'=>∃p x y,v= .ref p/\H p=none/\H'=upd H p (.tup [x,y])/\∀xs ys,H l1=some (g9 b1 xs)->H l2=some (g9 b2 ys)->xs[i]?=some x/\ys[i]?=some y
 stop:=λi H=>∃xs ys,H l1=some (g9 b1 xs)/\H l2=some (g9 b2 ys)/\(xs.length<=i\/ys.length<=i)
def bp {X:Cx} {pins:List (Addr×Obj)} {s:Shared} {σ:L2.St} {H:Hp} (I:Inv X pins σ H s) {b:Bool} {l:Addr} {xs:List V} (h:H l=some (g9 b xs)):∃its:List Value,aw xs its/\cu b s.heap l its.toArray:=by
 cases b with
 | false=>obtain⟨its,r,p,_⟩:=I.list (.inl (.inl h));exact⟨its,r,p.isList⟩
 | true=>obtain⟨its,r,p,_⟩:=I.tuple (.inl (.inl h));exact⟨its,r,p⟩
def NM (b1 b2:Bool) (z TI TO i1 i2 l1 l2:Addr) (i:Nat) (h:Heap):Prop:=IsZip h z TI TO .none/\IsPair h TI (.ref i1) (.ref i2)/\(∃a b,IsPair h TO a b)/\ba b1 h i1 l1 i/\ba b2 h i2 l2 i
def vx {P:Program} {w:World} {K:PySem.W.Frag} {es:List Expr} {k:Nat} {tp:Pos} {b1 b2:Bool} {z TI TO i1 i2 l1 l2:Addr} (ap:iy z TI TO i1 i2):
  Turn P w K (.Tuple es k tp) (K8 b1 b2 l1 l2) [z,TI,TO,i1,i2] z (NM b1 b2 z TI TO i1 i2 l1 l2) where
 mem:=by simp
 obj:=λi h st b hb=>by
  obtain⟨s1,s2,⟨a,b',s3⟩,s4,s5⟩:=st;simp only[Qb,Qc,or_false] at hb;rcases hb with rfl | rfl | rfl | rfl | rfl
  ·exact⟨_,s1,λv q=>by cases q⟩
  ·exact⟨_,s2,λv q=>by cases q⟩
  ·exact⟨_,s3,λv q=>by cases q⟩
  ·exact s4.obj
  ·exact s5.obj
 keep:=λi h h' st kk=>by obtain⟨s1,s2,⟨a,b',s3⟩,s4,s5⟩:=st;exact⟨kk z (by simp) _ s1,kk TI (by simp) _ s2,⟨a,b',kk TO (by simp) _ s3⟩,s4.at λo e=>kk i1 (by simp) o e,s5.at λo e=>kk i2 (by simp) o e⟩
 item:=by
  intro X hP hw hK hc i pins s σ H E I hf st hg;subst hP hw hK;obtain⟨xs,ys,x,y,cO,dh,hx,hy⟩:=hg;obtain⟨s1,s2,⟨a,b',s3⟩,s4,s5⟩:=st;obtain⟨cV,r1,p1⟩:=bp I cO;obtain⟨aM,r2,p2⟩:=bp I dh;obtain⟨u1,td,Iw⟩:=r1.get hx;obtain⟨u2,JE,KQ⟩:=r2.get hy;have ne:∀{l:Addr} {o:HO},H l=some o->∀b∈[z,TI,TO,i1,i2],l≠b:=λ {l o} hl b hb e=>by subst e;rw[(hf l hb).1] at hl;cases hl
  have off:∀{l:Addr} {o:HO},H l=some o->bO z TO i1 i2 l:=λ {l o} hl=>⟨ne hl z (by simp),ne hl TO (by simp),ne hl i1 (by simp),ne hl i2 (by simp)⟩
  refine lV ap (off cO) (off dh) s1 s2 s3 s4 s5 p1 p2 (by simpa using td) (by simpa using JE) λh' a1 a2 a3 a4 a5 a7=>⟨_,rfl,?_⟩
  refine wpAny_letOwnedTupleGo_zip (s:={s with heap:=h'}) a1 λh2 c1 c2=>?_
  have JK:s.heap.objs.size≠z:=λe=>by have:=P9 s1;rw[<-e] at this;exact Nat.lt_irrefl _ this
  have JQ:IsPair h2 TI (.ref i1) (.ref i2):=(c2.2 TI ap.TIz).trans (a7 TI _ ap.TIz ap.TITO ap.TIi1 ap.TIi2 s2);have HN:h2.get? s.heap.objs.size=some {cls:= .type "tuple",data:= .seq #[u1,u2]}:=(c2.2 _ JK).trans a5;have kk:∀b o,b∉[z,TI,TO,i1,i2]->s.heap.get? b=some o->h2.get? b=some o:=λb o hb e=>by simp only[Qb,Qc,or_false,not_or] at hb;exact(c2.2 b hb.1).trans (a7 b o hb.1 hb.2.2.1 hb.2.2.2.1 hb.2.2.2.2 e)
  have lt:∀{b:Addr} {o:Obj},s.heap.get? b=some o->b≠s.heap.objs.size:=λe=>Qu (P9 e)
  have oM:∀b u,H b=some u->b∉[z,TI,TO,i1,i2]:=λb u e hb=>by rw[(hf b hb).1] at e;cases e
  have lz:H s.heap.objs.size=none:=I.fresh;have I2:Inv X pins σ (upd H s.heap.objs.size (.tup [x,y])) {s with heap:=h2,toks:=s.toks}:=by
   refine I.step (g':=s.gens) (d':=s.drawn) (ch:=[z,TI,TO,i1,i2]) (λb hb=>⟨(hf b hb).2.2.2.1,(hf b hb).2.1,(hf b hb).2.2.2.2.1,(hf b hb).2.2.2.2.2⟩) (λb o _ _ hb e _=>kk b o hb e) (λb o _ _ hb e _=>⟨o.slots,kk b o hb e⟩)
    (λb o hb e n=>by rw[ao (lt e)];exact n) (λb o hb e=>⟨o,kk b o hb e⟩) (λb zs e=>by rw[ao (au e lz)];exact e) (λb o u e=>by rw[ao (au e lz)];exact e)
    (λb ps e=>⟨#[],by rw[ao (au e lz),e];simp⟩) (λm hm=>?_) (λb u e=>?_) I.bare
   ·obtain⟨o,de,ep,ho,rr⟩:=hm;exact⟨o,de,ep,kk _ o (λhb=>(hf _ hb).2.1 rfl) ho,rr⟩
   ·by_cases hb:b=s.heap.objs.size
    ·subst hb;rw[aC] at e;cases e;exact⟨by show 2<=sizeLine;decide,[u1,u2],.cons Iw (.cons KQ .nil),_,HN,rfl,0,rfl⟩
    ·rw[ao hb] at e;refine(I.hok b u e).iV (λc v hc q=>kk c v ?_ q) (λc q=>by rw[ao (au q lz)];exact q) λc zs q=>by rw[ao (au q lz)];exact q
     rcases hc with rfl | hc
     ·exact oM c u e
     ·exact oM c _ hc
  refine⟨.ref s.heap.objs.size,_,I2,rfl,⟨s.heap.objs.size,x,y,rfl,lz,rfl,λnN Jc q1 q2=>?_⟩,⟨c1,JQ,⟨u1,u2,(c2.2 TO ap.TOz).trans a2⟩,a3.at λo e=>(c2.2 i1 ap.i1z).trans e,a4.at λo e=>(c2.2 i2 ap.i2z).trans e⟩,λb hb=>?_⟩
  ·rw[cO] at q1;rw[dh] at q2;rw[nz (Option.some.inj q1).symm,nz (Option.some.inj q2).symm];exact⟨hx,hy⟩
  ·rw[ao (λe=>?_)]
   ·exact(hf b hb).1
   ·have q:∃o,s.heap.get? b=some o:=by
     simp only[Qb,Qc,or_false] at hb;rcases hb with rfl | rfl | rfl | rfl | rfl
     ·exact⟨_,s1⟩
     ·exact⟨_,s2⟩
     ·exact⟨_,s3⟩
     ·obtain⟨o,e,_⟩:=s4.obj;exact⟨o,e⟩
     ·obtain⟨o,e,_⟩:=s5.obj;exact⟨o,e⟩
    obtain⟨o,q⟩:=q;exact lt q e
 done:=by
  intro X hP hw hK hc i pins s σ H E I hf st hg;subst hP hw hK;obtain⟨xs,ys,cO,dh,pd⟩:=hg;obtain⟨s1,s2,⟨a,b',s3⟩,s4,s5⟩:=st;obtain⟨cV,r1,p1⟩:=bp I cO;obtain⟨aM,r2,p2⟩:=bp I dh;have ne:∀{l:Addr} {o:HO},H l=some o->∀b∈[z,TI,TO,i1,i2],l≠b:=λ {l o} hl b hb e=>by subst e;rw[(hf l hb).1] at hl;cases hl
  have off:∀{l:Addr} {o:HO},H l=some o->bO z TO i1 i2 l:=λ {l o} hl=>⟨ne hl z (by simp),ne hl TO (by simp),ne hl i1 (by simp),ne hl i2 (by simp)⟩
  have e1:=r1.length;have e2:=r2.length;refine pz (I.ok.hd hc) ap (off cO) (off dh) s1 s2 s3 s4 s5 p1 p2 (by simp;omega) λh' kk=>⟨rfl,?_⟩
  have oM:∀b u,H b=some u->b∉[z,TI,TO,i1,i2]:=λb u e hb=>by rw[(hf b hb).1] at e;cases e
  have jU:∀b o,b∉[z,TI,TO,i1,i2]->s.heap.get? b=some o->h'.get? b=some o:=λb o hb e=>by simp only[Qb,Qc,or_false,not_or] at hb;exact kk b o hb.1 hb.2.2.1 hb.2.2.2.1 hb.2.2.2.2 e
  refine I.step (g':=s.gens) (d':=s.drawn) (t':=s.toks) (h':=h') (ch:=[z,TI,TO,i1,i2]) (λb hb=>⟨(hf b hb).2.2.2.1,(hf b hb).2.1,(hf b hb).2.2.2.2.1,(hf b hb).2.2.2.2.2⟩) (λb o _ _ hb e _=>jU b o hb e) (λb o _ _ hb e _=>⟨o.slots,jU b o hb e⟩)
   (λb o hb e n=>n) (λb o hb e=>⟨o,jU b o hb e⟩) (λb zs e=>e) (λb o u e=>e) (λb ps e=>⟨#[],by rw[e];simp⟩) (λm hm=>?_) (λb u e=>?_) I.bare
  ·obtain⟨o,de,ep,ho,rr⟩:=hm;exact⟨o,de,ep,jU _ o (λhb=>(hf _ hb).2.1 rfl) ho,rr⟩
  ·refine(I.hok b u e).iV (λc v hc q=>jU c v ?_ q) (λc q=>q) λc zs q=>q
   rcases hc with rfl | hc
   ·exact oM c u e
   ·exact oM c _ hc
 self:=λ_ _ _ _ _ st h=>wpAny_pyIter_zip st.1 h
def FK (ta:TA):TI:=λσ H R=>ta σ H λvs H1=>∃b1 b2 l1 l2 xs ys,vs=[.ref l1,.ref l2]/\H1 l1=some (g9 b1 xs)/\H1 l2=some (g9 b2 ys)/\R (K8 b1 b2 l1 l2) H1
def Az {X:Cx} {es:List Expr} {k:Nat} {tp:Pos} {a b:Expr} {ta:TA} {p pos:Pos} (hg:Gl X "zip") (hm:X.mg "zip"=none) (ha:PA X [a,b] ta) (hs:starEach [a,b] X.env=[(false,eval a X.env),(false,eval b X.env)]:=by rfl) (rL:starEach [b] X.env=[(false,eval b X.env)]:=by rfl):
  PI X (.Tuple es k tp) (.Call (.Name "zip" p) [a,b] [] pos) (FK ta):=by
 intro pins s σ H R I h;refine Call_ (d5 I hg hm boot_zip (PyProof.Rows.callWith_type1 (bN (ha pos pins s σ H _ I h) λus s1 ⟨vs,H1,I1,r1,q1⟩=>?_) (by rw[hs,rL]) (by rw[rL];rfl)));obtain⟨b1,b2,l1,l2,xs,ys,e,e1,e2,q⟩:=q1;subst e;obtain⟨u,v,rfl,ru,rv⟩:=r1.two;cases ru;cases rv;obtain⟨cV,_,p1⟩:=bp I1 e1;obtain⟨aM,_,p2⟩:=bp I1 e2;refine mD p1 p2 λh' g1 g2 g3 g4 g5 kk=>?_
 refine wpAny_pyIter_zip (s:={s1 with heap:=h'}) g1 ?_;have I2:Inv X pins σ H1 {s1 with heap:=h'}:=I1.kept (t':=s1.toks) kk;refine⟨s1.heap.objs.size + 4,[s1.heap.objs.size + 4,s1.heap.objs.size + 2,s1.heap.objs.size + 3,s1.heap.objs.size,s1.heap.objs.size + 1],_,_,H1,rfl,I2,vx (l1:=l1) (l2:=l2) ⟨?_,?_,?_,?_,?_,?_,?_,?_,?_,?_⟩,⟨g1,g2,⟨_,_,g3⟩,g4,g5⟩,λb hb=>?_,q⟩
 iterate 10 (first | (apply Qu;omega) | (apply Nat.ne_of_gt;omega))
 have iP:s1.heap.objs.size<=b:=by simp only[Qb,Qc,or_false] at hb;rcases hb with h | h | h | h | h <;> (rw[h];first | exact Nat.le_add_right _ _ | exact P4 _)
 exact I1.qh iP (I1.hok.fresh iP)
open AutoSeq1 (wpAny_loadPart')
def xV {prog:Program} {w:World} {A:Around} (hh:A.handled=none) (b:Bool) (it l:Addr) (oU:l≠it) (items:Array Value):
  Draws prog w A it [it,l] items.size (λi v=>items[i]?=some v) (λi h=>ba b h it l i/\cu b h l items) where
 live:=λ_ _ st=>let ⟨o,ho,_⟩:=st.1.obj;⟨o,ho⟩
 frame:=λ_ _ _ st hk=>⟨st.1.at λo e=>hk it (by simp) o e,st.2.at λo e=>hk l (by simp) o e⟩
 item:=λi s Q E hi st hQ=>by
  refine cc st.1 st.2 (x:=items[i]) (by simp[hi]) λh' LC Fs=>?_
  exact hQ _ h' s.toks (by simp[hi]) ⟨LC,st.2.at λo e=>Fs.extBut _ o oU e⟩ Fs
 done:=λs Q E st hE=>et hh st.1 st.2 (by simp) hE
def vj (b:Bool) (l:Addr) (xs:Array Value):
  Meets (Builtin.«enumerate.__new__» ⟨[.type "enumerate",.ref l],[]⟩) (λ_ R s=>cu b s.heap l xs/\
   R (.ok (.ret (.ref (s.heap.push (gk b l)).objs.size)))
    {s with heap:=(s.heap.push (gk b l)).push {cls:= .type "enumerate",data:= .fields #[.none,.bool false,.ref s.heap.objs.size,rawInt 0,.none,.none]}}):=
 .of_wp λprog w A R s h=>by
  obtain⟨hp,g,d,tk,os⟩:=s;obtain⟨hl,h⟩:=h;have vA:=sub_enumerate;cases b
  ·have hL:Heap.IsList (Shared.heap ⟨hp,g,d,tk,os⟩) l xs:=hl
   wp_walk
   refine wpAny_stack_any λst=>PV ?_
   split
   ·rename_i c _ _ _ _ _;cases (c==Value.type "enumerate")
    ·wp_walk using wpAny_pyIter_list hL
     exact⟨_,rfl,h⟩
    ·wp_walk using wpAny_pyIter_list hL
     exact⟨_,rfl,h⟩
   ·wp_walk using wpAny_pyIter_list hL
    exact⟨_,rfl,h⟩
  ·have hL:Heap.IsTuple (Shared.heap ⟨hp,g,d,tk,os⟩) l xs:=hl
   wp_walk
   refine wpAny_stack_any λst=>PV ?_
   split
   ·rename_i c _ _ _ _ _;cases (c==Value.type "enumerate")
    ·wp_walk using wpAny_pyIter_tuple hL
     exact⟨_,rfl,h⟩
    ·wp_walk using wpAny_pyIter_tuple hL
     exact⟨_,rfl,h⟩
   ·wp_walk using wpAny_pyIter_tuple hL
    exact⟨_,rfl,h⟩
section
variable {prog:Program} {w:World} {A:Around} {E:Value->Shared->Prop} {s:Shared}
def sQ {b:Bool} {l:Addr} {xs:Array Value} {Q:Value->Shared->Prop} (hl:cu b s.heap l xs)
  (h:∀h',IsEnum h' (s.heap.objs.size + 1) s.heap.objs.size 0 .none->ba b h' s.heap.objs.size l 0->(∀c o,s.heap.get? c=some o->h'.get? c=some o)->Q (.ref (s.heap.objs.size + 1)) {s with heap:=h'}):
  wpAny (model prog w) A (call (.type "enumerate") [.ref l]) Q E s:=by
 refine callType_new F.called_enumerate (by decide) (F.typeCall_enumerate_1 _) (F.newCall_enumerate_1 _) (λobj=>F.args_object_init_2 obj _) F.entry_enumerate_new
  (vj b l xs) ⟨hl,?_⟩
 have hz:(s.heap.push (gk b l)).objs.size=s.heap.objs.size + 1:=Qt ..;have he:IsEnum ((s.heap.push (gk b l)).push {cls:= .type "enumerate",data:= .fields #[.none,.bool false,.ref s.heap.objs.size,rawInt 0,.none,.none]}) (s.heap.push (gk b l)).objs.size s.heap.objs.size 0 .none:=P6 _ rfl;have g1:=PU {cls:= .type "enumerate",data:= .fields #[.none,.bool false,.ref s.heap.objs.size,rawInt 0,.none,.none]} (P6 s.heap (iR b l));show _/\_;rw[hz] at he;rw[hz];exact⟨⟨_,he,rfl⟩,h _ he (lj g1) λc o x=>PU _ (PU _ x)⟩
end
def LA (b:Bool) (l:Addr):It where
 go:=λi H=>∃xs x,H l=some (g9 b xs)/\xs[i]?=some x
 yld:=λi H v H'=>∃p x,v= .ref p/\H p=none/\H'=upd H p (.tup [.int i,x])/\∀xs,H l=some (g9 b xs)->xs[i]?=some x
 stop:=λi H=>∃xs,H l=some (g9 b xs)/\xs.length=i
def eT (b:Bool) (e it l:Addr) (i:Nat) (h:Heap):Prop:=(∃old,IsEnum h e it i old)/\ba b h it l i
def qM {P:Program} {w:World} {K:PySem.W.Frag} {es:List Expr} {k:Nat} {tp:Pos} {b:Bool} {e it l:Addr} (ap:e≠it):
  Turn P w K (.Tuple es k tp) (LA b l) [e,it] e (eT b e it l) where
 mem:=by simp
 obj:=λi h st c hb=>by
  obtain⟨⟨old,s1⟩,s4⟩:=st;simp only[Qb,Qc,or_false] at hb;rcases hb with rfl | rfl
  ·exact⟨_,s1,λv q=>by cases q⟩
  ·exact s4.obj
 keep:=λi h h' st kk=>by obtain⟨⟨old,s1⟩,s4⟩:=st;exact⟨⟨old,kk e (by simp) _ s1⟩,s4.at λo q=>kk it (by simp) o q⟩
 item:=by
  intro X hP hw hK hc i pins s σ H E I hf st hg;subst hP hw hK;obtain⟨xs,x,cO,hx⟩:=hg;obtain⟨⟨old,s1⟩,s4⟩:=st;obtain⟨cV,r1,p1⟩:=bp I cO;obtain⟨u1,td,Iw⟩:=r1.get hx;have ne:∀{l:Addr} {o:HO},H l=some o->∀c∈[e,it],l≠c:=λ {l o} hl c hb q=>by subst q;rw[(hf l hb).1] at hl;cases hl
  have cQ:i < cV.toArray.size:=by have:=(P0.mp td).1;simpa using this
  refine wpAny_pyNext_enum_itemD (xV (A:=X.A.in1) (I.ok.hd hc) b it l (ne cO it (by simp)) cV.toArray) s1 ⟨s4,p1⟩ cQ ap (λhm=>?_) λy h' tk hy a1 a2 a3 a4 a5=>⟨_,rfl,?_⟩
  ·rcases Qb.mp hm with q | hm
   ·exact ap q
   ·exact ne cO e (by simp) (Qx.mp hm).symm
  have OX:y=u1:=by
   have q:cV.toArray[i]?=some u1:=by simpa using td
   rw[q] at hy;exact(Option.some.inj hy).symm
  subst OX;refine wpAny_letOwnedTupleGo_enum (s:={s with heap:=h',toks:=tk + 1}) a1 λh2 c1 c2=>?_
  have JK:s.heap.objs.size≠e:=λq=>by have:=P9 s1;rw[<-q] at this;exact Nat.lt_irrefl _ this
  have HN:h2.get? s.heap.objs.size=some {cls:= .type "tuple",data:= .seq #[.int i tk,y]}:=(c2.2 _ JK).trans a3;have kk:∀b o,b∉[e,it]->s.heap.get? b=some o->h2.get? b=some o:=λb o hb q=>by simp only[Qb,Qc,or_false,not_or] at hb;exact(c2.2 b hb.1).trans (a5 b o hb.1 hb.2 q)
  have lt:∀{b:Addr} {o:Obj},s.heap.get? b=some o->b≠s.heap.objs.size:=λe=>Qu (P9 e)
  have oM:∀b u,H b=some u->b∉[e,it]:=λb u q hb=>by rw[(hf b hb).1] at q;cases q
  have lz:H s.heap.objs.size=none:=I.fresh;have I2:Inv X pins σ (upd H s.heap.objs.size (.tup [.int i,x])) {s with heap:=h2,toks:=tk + 1}:=by
   refine I.step (g':=s.gens) (d':=s.drawn) (ch:=[e,it]) (λb hb=>⟨(hf b hb).2.2.2.1,(hf b hb).2.1,(hf b hb).2.2.2.2.1,(hf b hb).2.2.2.2.2⟩) (λb o _ _ hb e _=>kk b o hb e) (λb o _ _ hb e _=>⟨o.slots,kk b o hb e⟩)
    (λb o hb e n=>by rw[ao (lt e)];exact n) (λb o hb e=>⟨o,kk b o hb e⟩) (λb zs e=>by rw[ao (au e lz)];exact e) (λb o u e=>by rw[ao (au e lz)];exact e)
    (λb ps e=>⟨#[],by rw[ao (au e lz),e];simp⟩) (λm hm=>?_) (λb u q=>?_) I.bare
   ·obtain⟨o,de,ep,ho,rr⟩:=hm;exact⟨o,de,ep,kk _ o (λhb=>(hf _ hb).2.1 rfl) ho,rr⟩
   ·by_cases hb:b=s.heap.objs.size
    ·subst hb;rw[aC] at q;cases q;exact⟨by show 2<=sizeLine;decide,[.int i tk,y],.cons ⟨_,rfl⟩ (.cons Iw .nil),_,HN,rfl,0,rfl⟩
    ·rw[ao hb] at q;refine(I.hok b u q).iV (λc v hc z=>kk c v ?_ z) (λc z=>by rw[ao (au z lz)];exact z) λc zs z=>by rw[ao (au z lz)];exact z
     rcases hc with rfl | hc
     ·exact oM c u q
     ·exact oM c _ hc
  refine⟨.ref s.heap.objs.size,_,I2,rfl,⟨s.heap.objs.size,x,rfl,lz,rfl,λnN q1=>?_⟩,⟨⟨_,by simpa using c1⟩,a2.1.at λo q=>(c2.2 it ap.symm).trans q⟩,λb hb=>?_⟩
  ·rw[cO] at q1;rw[nz (Option.some.inj q1).symm];exact hx
  ·rw[ao (λq=>?_)]
   ·exact(hf b hb).1
   ·have z:∃o,s.heap.get? b=some o:=by
     simp only[Qb,Qc,or_false] at hb;rcases hb with rfl | rfl
     ·exact⟨_,s1⟩
     ·obtain⟨o,e,_⟩:=s4.obj;exact⟨o,e⟩
    obtain⟨o,z⟩:=z;exact lt z q
 done:=by
  intro X hP hw hK hc i pins s σ H E I hf st hg;subst hP hw hK;obtain⟨xs,cO,pd⟩:=hg;obtain⟨⟨old,s1⟩,s4⟩:=st;obtain⟨cV,r1,p1⟩:=bp I cO;have ne:∀{l:Addr} {o:HO},H l=some o->∀c∈[e,it],l≠c:=λ {l o} hl c hb q=>by subst q;rw[(hf l hb).1] at hl;cases hl
  have e1:=r1.length;have hn:cV.toArray.size=i:=by simp;omega
  refine wpAny_pyNext_enum_endD (xV (A:=X.A.in1) (I.ok.hd hc) b it l (ne cO it (by simp)) cV.toArray) s1 (by rw[hn];exact⟨s4,p1⟩) λh' kk=>⟨rfl,?_⟩
  have oM:∀b u,H b=some u->b∉[e,it]:=λb u q hb=>by rw[(hf b hb).1] at q;cases q
  have jU:∀b o,b∉[e,it]->s.heap.get? b=some o->h'.get? b=some o:=λb o hb q=>by simp only[Qb,Qc,or_false,not_or] at hb;exact kk b o hb.2 q
  refine I.step (g':=s.gens) (d':=s.drawn) (t':=s.toks) (h':=h') (ch:=[e,it]) (λb hb=>⟨(hf b hb).2.2.2.1,(hf b hb).2.1,(hf b hb).2.2.2.2.1,(hf b hb).2.2.2.2.2⟩) (λb o _ _ hb e _=>jU b o hb e) (λb o _ _ hb e _=>⟨o.slots,jU b o hb e⟩)
   (λb o hb e n=>n) (λb o hb e=>⟨o,jU b o hb e⟩) (λb zs e=>e) (λb o u e=>e) (λb ps e=>⟨#[],by rw[e];simp⟩) (λm hm=>?_) (λb u q=>?_) I.bare
  ·obtain⟨o,de,ep,ho,rr⟩:=hm;exact⟨o,de,ep,jU _ o (λhb=>(hf _ hb).2.1 rfl) ho,rr⟩
  ·refine(I.hok b u q).iV (λc v hc z=>jU c v ?_ z) (λc z=>z) λc zs z=>z
   rcases hc with rfl | hc
   ·exact oM c u q
   ·exact oM c _ hc
 self:=λ_ _ _ _ _ st h=>by obtain⟨⟨old,s1⟩,_⟩:=st;exact wpAny_pyIter_enum s1 h
def Dy (ta:TA):TI:=λσ H R=>ta σ H λvs H1=>∃b l xs,vs=[.ref l]/\H1 l=some (g9 b xs)/\R (LA b l) H1
def xH {X:Cx} {es:List Expr} {k:Nat} {tp:Pos} {a:Expr} {ta:TA} {p pos:Pos} (hg:Gl X "enumerate") (hm:X.mg "enumerate"=none) (ha:PA X [a] ta) (hs:starEach [a] X.env=[(false,eval a X.env)]:=by rfl):
  PI X (.Tuple es k tp) (.Call (.Name "enumerate" p) [a] [] pos) (Dy ta):=by
 intro pins s σ H R I h;refine Call_ (d5 I hg hm boot_enumerate (PyProof.Rows.callWith_type1 (bN (ha pos pins s σ H _ I h) λus s1 ⟨vs,H1,I1,r1,q1⟩=>?_) (by rw[hs];rfl) rfl));obtain⟨b,l,xs,e,e1,q⟩:=q1;subst e;obtain⟨u,rfl,ru⟩:=r1.one;cases ru;obtain⟨cV,_,p1⟩:=bp I1 e1;refine sQ p1 λh' g1 g2 kk=>?_
 refine wpAny_pyIter_enum (s:={s1 with heap:=h'}) g1 ?_;have I2:Inv X pins σ H1 {s1 with heap:=h'}:=I1.kept (t':=s1.toks) kk;refine⟨s1.heap.objs.size + 1,[s1.heap.objs.size + 1,s1.heap.objs.size],_,_,H1,rfl,I2,qM (l:=l) (Nat.succ_ne_self _),⟨⟨_,g1⟩,g2⟩,λc hb=>?_,q⟩;have iP:s1.heap.objs.size<=c:=by simp only[Qb,Qc,or_false] at hb;rcases hb with h | h <;> (rw[h];first | exact Nat.le_add_right _ _ | exact P4 _)
 exact I1.qh iP (I1.hok.fresh iP)
def oE {M:Model} {A:Around} {E:Value->Shared->Prop} {s:Shared} {src:Source} {n:Nat} {Q:Nat->Shared->Prop} (hn:n≠0) (h:∀i d,i < n->Q i {s with drawn:=d}):wpAny M A (choose src n) Q E s:=
 λ_ _ _=>⟨hn,h _ _ (Nat.mod_lt _ (Nat.pos_of_ne_zero hn))⟩
def zv (w:World):Bool:=w.params.followText "set-order"
section
variable {prog:Program} {w:World} {A:Around} {E:Value->Shared->Prop} {s:Shared}
def dD {Q:Bool->Shared->Prop} (h:Q (zv w) s):wpAny (model prog w) A setsByText Q E s:=by unfold setsByText;exact PP (wpAny_askSetting (PV h))
def lH (t:SetTable) (n:Nat):(t.orStandIn n).led=t.led:=by unfold SetTable.orStandIn;split <;> rfl
def rH (t:SetTable) (es:Array (Int×Value)) (h:Int) (x:Value):(layNew t es h x).2.1.led=t.led:=by
 unfold layNew;split
 ·dsimp only;rw[lH];rfl
 ·rfl
def nT (t:SetTable) (es:Array (Int×Value)) (n:Nat):(relayAll t es n).2.1.led=t.led:=by
 unfold relayAll;split
 ·rename_i t' order h;unfold SetTable.relaid SetTable.laid at h;obtain⟨o,_,h⟩:=PQ.mp h;cases h;dsimp only;split <;> rfl
 ·rfl
def kP (t:SetTable) (es:Array (Int×Value)) (n:Nat) (hp:t.plain=false):(relayAll t es n).2.1.plain=false:=by
 unfold relayAll;split
 ·rename_i t' order h;unfold SetTable.relaid SetTable.laid at h;obtain⟨o,_,h⟩:=PQ.mp h;cases h;dsimp only;split
  ·exact hp
  ·rfl
 ·rfl
variable (prog w) in
def cT (h:Heap) (a:Addr) (ks:List Str):Prop:=
 ∃(es:Array (Int×Value)) (ep:Nat) (t:SetTable),h.get? a=some {cls:= .type "set",dict:=none,data:= .set es ep t,slots:=#[]}/\ks.Nodup/\aw (ks.map V.str) (es.toList.map (·.2))/\ElemsOf (strKind prog w) es.toList/\
  es.size < scanBound/\t.fits es.size=true/\t.led= !zv w/\(es.size≠0->t.plain=false)
def cT.at {h h':Heap} {a:Addr} {ks:List Str} (x:cT prog w h a ks) (hk:∀o,h.get? a=some o->h'.get? a=some o):cT prog w h' a ks:=by obtain⟨es,ep,t,h1,r⟩:=x;exact⟨es,ep,t,hk _ h1,r⟩
def i0 {l l':List (Int×Value)} (p:l'.Perm l):∀{ks:List Str},aw (ks.map V.str) (l.map (·.2))->∃dw:List Str,dw.Perm ks/\aw (dw.map V.str) (l'.map (·.2)):=by
 have hh:=p.symm;clear p
 induction hh with
 | nil=>intro ks h;exact⟨ks,List.Perm.refl _,h⟩
 | cons x h ih=>
  intro ks r;cases ks with
  | nil=>cases r
  | cons k ks=>
   rw[QG,QG] at r;cases r with
   | cons r0 rr=>obtain⟨dw,p1,p2⟩:=ih rr;exact⟨k::dw,p1.cons k,by rw[QG,QG];exact .cons r0 p2⟩
 | swap x y l=>
  intro ks r;cases ks with
  | nil=>cases r
  | cons k ks=>
   cases ks with
   | nil=>cases r with | cons _ rr=>cases rr
   | cons k2 ks=>
    simp only[QG] at r;cases r with
    | cons r0 rr=>
     cases rr with
     | cons r1 rr=>exact⟨k2::k::ks,List.Perm.swap k k2 ks,by simp only[QG];exact .cons r1 (.cons r0 rr)⟩
 | trans h1 h2 ih1 ih2=>intro ks r;obtain⟨Jd,p1,r1⟩:=ih1 r;obtain⟨LR,p2,r2⟩:=ih2 r1;exact⟨LR,p2.trans p1,r2⟩
def pJ {es:List (Int×Value)} {ks:List Str} (r:aw (ks.map V.str) (es.map (·.2))) (k:Str):(∃e∈es,(strKind prog w).is k e.2=true)↔k∈ks:=by
 induction es generalizing ks with
 | nil=>
  cases ks with
  | nil=>simp
  | cons k ks=>cases r
 | cons e es ih=>
  cases ks with
  | nil=>cases r
  | cons k0 ks=>
   simp only[QG] at r;cases r with
   | cons r0 rr=>
    obtain⟨t,e0⟩:=r0;have:(strKind prog w).is k e.2=true↔k=k0:=by rw[e0];show Value.isStrOf k (.str k0 t)=true↔_;unfold Value.isStrOf;simp;exact eq_comm
    rw[Qb,<-ih rr,<-this];constructor
    ·rintro⟨x,hx,q⟩;rcases Qb.mp hx with rfl | hx
     ·exact .inl q
     ·exact .inr ⟨x,hx,q⟩
    ·rintro(q | ⟨x,hx,q⟩)
     ·exact⟨e,by simp,q⟩
     ·exact⟨x,P1 _ hx,q⟩
def oW {a:Addr} {es:Array (Int×Value)} {ep:Nat} {t:SetTable} (h:Heap) (ho:h.get? a=some {cls:= .type "set",dict:=none,data:= .set es ep t,slots:=#[]}) (de:Array (Int×Value)) (t':SetTable):
  (h.update a (Obj.putSet de t')).get? a=some {cls:= .type "set",dict:=none,data:= .set de (ep + 1) t',slots:=#[]}:=by
 have:=Heap.get?_update_self (Obj.putSet de t') ho (by rw[putSet_of de t' rfl];rfl);rw[putSet_of de t' rfl] at this;exact this
def tZ {g:Bool->Sem Unit} (hg:∀(b:Bool) {s₁:Shared} {Q':Unit->Shared->Prop},Q' () s₁->wpAny (model prog w) A (g b) Q' E s₁) {a:Addr} {es:Array (Int×Value)} {ep:Nat} {t:SetTable}
  (ho:s.heap.get? a=some {cls:= .type "set",dict:=none,data:= .set es ep t,slots:=#[]}) {iK:Array (Int×Value)} {t2:SetTable} {ks:List Str} (fU:ks.Nodup) (hv:aw (ks.map V.str) (iK.toList.map (·.2))) (BQ:ElemsOf (strKind prog w) iK.toList)
  (hb:iK.size < scanBound) (hf:t2.fits iK.size=true) (hl:t2.led= !zv w) (hp:t2.plain=false) {qw:Bool} {R:Option Bool->Shared->Prop}
  (h:∀h' dw,Heap.SameBut a s.heap h'->dw.Perm ks->cT prog w h' a dw->R (some true) {s with heap:=h'}):
  wpAny (model prog w) A (do
    storeSet a iK t2
    if (!qw&&t2.tooFull)=true then do
      g (relayAll t2 iK (SetTable.grown iK.size)).2.2
      storeSet a (relayAll t2 iK (SetTable.grown iK.size)).1 (relayAll t2 iK (SetTable.grown iK.size)).2.1
      pure (some true)
     else pure (some true)) R E s:=by
 refine PP (wpAny_storeSet_of ho rfl ?_ (fits_of_scanBound hb));have zU:=oW s.heap ho iK t2;have Gp:=Heap.SameBut.update s.heap a (Obj.putSet iK t2);split
 ·have FH:=relayAll_perm t2 iK (SetTable.grown iK.size);have vM:=relayAll_fits t2 iK (SetTable.grown iK.size);have KA:=nT t2 iK (SetTable.grown iK.size);have JD:=kP t2 iK (SetTable.grown iK.size) hp;generalize hRl:relayAll t2 iK (SetTable.grown iK.size)=Rl at FH vM KA JD ⊢;obtain⟨sD,t3,MR⟩:=Rl;dsimp only at FH vM KA JD ⊢;obtain⟨LR,p2,Nw⟩:=i0 FH hv;have gY:sD.size=iK.size:=by rw[<-Qj,FH.length_eq,Qj]
  refine PP (hg _ ?_);refine PP (wpAny_storeSet_of zU rfl ?_ (fits_of_scanBound (by omega)));exact PV (h _ LR (Gp.trans (Heap.SameBut.update _ a _)) p2 ⟨sD,ep + 2,t3,oW _ zU sD t3,p2.nodup_iff.mpr fU,Nw,BQ.perm FH,by omega,vM,KA.trans hl,λ_=>JD⟩)
 ·exact PV (h _ ks Gp (List.Perm.refl _) ⟨iK,ep + 1,t2,zU,fU,hv,BQ,hb,hf,hl,λ_=>hp⟩)
def vq {a:Addr} {ks:List Str} {k:Str} {tk:Tok} {Q:Bool->Shared->Prop} (hS:cT prog w s.heap a ks) (MV:ks.length + 1 < scanBound)
  (h:∀b h' dw,Heap.SameBut a s.heap h'->cT prog w h' a dw->(∀y,y∈dw↔y∈ks\/y=k)->dw.length<=ks.length + 1->Q b {s with heap:=h'}):
  wpAny (model prog w) A (setAddHashed a (.str k tk) ((strKind prog w).hash k)) Q E s:=by
 obtain⟨es,ep,t,ho,fU,hv,BQ,hb,hf,wR,gL⟩:=hS;have Aw:(strKind prog w).is k (.str k tk)=true:=strKind_is _ _ _ _;have Gb:(Value.str k tk).scannable=true:=rfl;have Mm:es.size=ks.length:=by have:=hv.length;rw[P8,P8,Qj] at this;exact this.symm
 unfold setAddHashed setAddHashedIn;refine wpAny_holding (PP (wpAny_setState_of ho rfl hf ?_));dsimp only;rw[byScan_of Gb hb BQ];simp only[↓reduceIte];unfold setAddByScan;refine PP (PP (wpAny_rule (PP (wpAny_setScan_of Aw ho rfl hf BQ ?_))));cases hr:List.findIdx? (λe=>(strKind prog w).is k e.2) es.toList with
 | some j=>
  dsimp only;obtain⟨hj,FU,_⟩:=List.findIdx?_eq_some_iff_getElem.mp hr;have hk:k∈ks:=(pJ (prog:=prog) (w:=w) hv k).mp ⟨es.toList[j],List.getElem_mem hj,FU⟩;refine PV (PV ?_);have e:s={s with heap:=s.heap}:=by cases s;rfl
  rw[e];exact h _ _ ks (Heap.SameBut.refl a s.heap) ⟨es,ep,t,ho,fU,hv,BQ,hb,hf,wR,gL⟩ (λy=>⟨.inl,λz=>z.elim id λq=>q▸hk⟩) (by omega)
 | none=>
  dsimp only;have hk:k∉ks:=λhk=>by obtain⟨e,he,hp⟩:=(pJ (prog:=prog) (w:=w) hv k).mpr hk;have:=List.findIdx?_eq_none_iff.mp hr e he;rw[hp] at this;exact Bool.noConfusion this
  have K0:∀(b:Bool) {s₁:Shared} {Q':Unit->Shared->Prop},Q' () s₁->wpAny (model prog w) A (match b with | true=>rule "set.scan.the-table-gave-way" | false=>pure ()) Q' E s₁:=
   λb s₁ Q' hq=>by cases b <;> first | exact PV hq | exact wpAny_rule hq
  have lU:=layNew_perm t es ((strKind prog w).hash k) (.str k tk);have tN:=layNew_fits t es ((strKind prog w).hash k) (.str k tk);have cO:=rH t es ((strKind prog w).hash k) (.str k tk);generalize hL:layNew t es ((strKind prog w).hash k) (.str k tk)=L at lU tN cO ⊢;obtain⟨iK,t1,qw,ON⟩:=L;dsimp only at lU tN cO ⊢;rw[Array.toList_push] at lU;have FL:ElemsOf (strKind prog w) iK.toList:=(BQ.push Aw Gb).perm lU;have BL:aw ((ks++[k]).map V.str) ((es.toList++[((strKind prog w).hash k,Value.str k tk)]).map (·.2)):=by rw[QH,QH];exact hv.append (.cons ⟨tk,rfl⟩ .nil)
  obtain⟨Jd,p1,Hd⟩:=i0 lU BL;have Pc:iK.size=es.size + 1:=by rw[<-Qj,lU.length_eq,Qf,Qj];rfl
  have yW:iK.size < scanBound:=by omega
  have GI:Jd.Nodup:=p1.nodup_iff.mpr (by
   rw[List.nodup_append];exact⟨fU,by simp,λx hx y hy=>by rw[Qx] at hy;subst hy;exact λe=>hk (e▸hx)⟩)
  have Kg:∀y,y∈Jd↔y∈ks\/y=k:=λy=>by rw[p1.mem_iff,Ql,Qx]
  have B3:Jd.length<=ks.length + 1:=by rw[p1.length_eq,Qf];simp
  refine PP (K0 _ ?_);split
  ·refine PP ?_;rw[hashByValue_scannable 8 Gb];refine PV ?_;exact tZ K0 ho GI Hd FL yW (t2:=if plainKind (Value.str k tk)=true then t1 else{t1 with plain:=false}) (by
     rw[if_neg (by show¬(false=true);simp)];exact SetTable.fits_plain_off tN) (by rw[if_neg (by show¬(false=true);simp)];exact cO.trans wR) (by rw[if_neg (by show¬(false=true);simp)]) λh' dw sb pm x=>PV (h _ h' dw sb x (λy=>pm.mem_iff.trans (Kg y)) (by rw[pm.length_eq];exact B3))
  ·refine PP (PV ?_);simp only[↓reduceIte];exact tZ K0 ho GI Hd FL yW tN (cO.trans wR) (by rename_i q;simpa using q) λh' dw sb pm x=>PV (h _ h' dw sb x (λy=>pm.mem_iff.trans (Kg y)) (by rw[pm.length_eq];exact B3))
end
section
variable {prog:Program} {w:World} {A:Around} {R:Result->Shared->Prop} {I:Addr} {fp wr:List Addr} {G:Array GenState->Array GenState->Prop} {n:Nat} {P:Nat->Value->Prop} {St:Nat->Shared->Prop}
def tE (W:WalksS prog w A.in1 I fp wr G n P St) (S:Addr) (Cn:S∉fp) (xs:List Str) (PC:xs.length=n) (zY:∀i v,P i v->∃x t,xs[i]?=some x/\v= .str x t) (hb:n + 1 < scanBound):
  ∀(k i:Nat) (s:Shared) (ks:List Str),n - i=k->i<=n->St i s->cT prog w s.heap S ks->(∀y,y∈ks↔y∈xs.take i)->ks.length<=i->
   (∀s' dw,Moved (S::wr) G s s'->cT prog w s'.heap S dw->(∀y,y∈dw↔y∈xs)->R (.ok (.ret .none)) s')->
   codeAny (model prog w) A (.builtin "set.update.loop" ⟨[.ref S,.ref I],[]⟩) R s:=by
 have Mc:S∉wr:=λh=>Cn (W.sub _ h)
 have vA:∀b∈wr,b∈S::wr:=λb hb=>P1 _ hb
 intro k
 induction k with
 | zero=>
  intro i s ks hk hi lF hS hm hl hR;have Fq:i=n:=by omega
  subst Fq;refine codeAny_builtin F.entry_set_update_loop ?_;rw[Around.under_plainId F.plain_set_update_loop _];show wpAny _ A.in1 (pyNext (.ref I) >>=_) _ _ s;refine PP (W.done s _ _ lF λs' hm'=>?_);show wpAny _ A.in1 (ret Value.none) _ _ s';exact PV (hR s' ks (hm'.mono vA) (hS.at λo e=>hm'.heap S o Mc e) λy=>by rw[hm y,List.take_of_length_le (by omega)])
 | succ k ih=>
  intro i s ks hk hi lF hS hm hl hR;have cQ:i < n:=by omega
  refine codeAny_builtin F.entry_set_update_loop ?_;rw[Around.under_plainId F.plain_set_update_loop _];show wpAny _ A.in1 (pyNext (.ref I) >>=_) _ _ s;refine PP (W.item i s _ _ cQ lF λv s' hP hst' hm'=>?_);obtain⟨x,t,hx,rfl⟩:=zY i v hP;have qI:cT prog w s'.heap S ks:=hS.at λo e=>hm'.heap S o Mc e
  show wpAny _ A.in1 (holding [Value.str x t] (setAdd S (.str x t)) >>=_) _ _ s';refine PP (wpAny_holding ?_);unfold setAdd;refine wpAny_holding ?_;refine PP ((strKind prog w).pyHash (k:=x) (strKind_is _ _ _ _) ?_);refine vq (s:={s' with toks:=s'.toks + 1}) qI (by omega) λb h' dw qW IA zN dh=>?_
  refine PV ⟨plainId_quiet F.plain_set_update_loop _,ih (i + 1) _ dw (by omega) cQ (W.frame _ s' _ _ hst' (Nat.le_succ _) λb hb o e=>?_) IA (λy=>?_) (by omega) λs'' ks'' hm'' hS'' yt=>?_⟩
  ·rw[qW.2 b (λh:b=S=>Cn (by rw[<-h];exact hb))];exact e
  ·rw[zN y,hm y,List.take_succ,hx];simp
  ·refine hR s'' ks'' (Moved.trans W.gtrans ((hm'.mono vA).then_heap (Nat.le_succ _) λb o hb e=>?_) hm'') hS'' yt;rw[qW.2 b (λh:b=S=>hb (by rw[h];exact P5))];exact e
end
namespace F
def sub_tuple_set:isSubtype (.type "tuple") (.type "set")=pure false:=by rw[isSubtype_type];kernel_rfl
def sub_tuple_frozenset:isSubtype (.type "tuple") (.type "frozenset")=pure false:=by rw[isSubtype_type];kernel_rfl
end F
def cG (w:World):Obj:={cls:= .type "set",dict:=none,data:= .set #[] 0 (.fresh 0 0 (!zv w))}
section
variable {prog:Program} {w:World} {A:Around} {E:Value->Shared->Prop} {s:Shared}
def yh:cT prog w (s.heap.push (cG w)) s.heap.objs.size []:=
 ⟨#[],0,_,P6 _ rfl,List.nodup_nil,.nil,λe he=>by simp at he,by decide,by rfl,rfl,λz=>(z rfl).elim⟩
def code_set_new (a:Value) {Q₁:Value->Shared->Prop} (h:Q₁ (.ref s.heap.objs.size) {s with heap:=s.heap.push (cG w)}):
  codeAny (model prog w) A (.call (.builtin "set.__new__") ⟨[.type "set",a],[]⟩) (wants Q₁ E) s:=by
 refine codeAny_of_tree ?_;show wpAny _ A.in1 (do checkBuiltinCall "set.__new__" ⟨[.type "set",a],[]⟩;again (.builtin "set.__new__" ⟨[.type "set",a],[]⟩)) _ _ s;refine PP (wpAny_of_eq (F.newCall_set_1 a) (PV ⟨plainId_quiet F.plain_set_new _,codeAny_builtin F.entry_set_new ?_⟩));rw[Around.under_plainId F.plain_set_new _];unfold Builtin.«set.__new__» Builtin.Frozenset.newClass;have vA:=sub_set_self;obtain⟨hp,g,d,tk,os⟩:=s;dsimp only
 wp_walk
 refine wpAny_askSetting (PV ?_);dsimp only;simp only[newObj];refine PP (wpAny_alloc (PV ?_));exact PV h
def x5 {b:Bool} {h:Heap} {l:Addr} {xs:Array Value} (x:cu b h l xs):∃o,h.get? l=some o:=by
 cases b with
 | false=>obtain⟨o,ho,_⟩:=x;exact⟨o,ho⟩
 | true=>obtain⟨o,ho,_⟩:=x;exact⟨o,ho⟩
set_option maxHeartbeats 8000000 in
def nD {b:Bool} {l:Addr} {items:Array Value} {xs:List Str} {Q:Value->Shared->Prop}
  (hh:A.handled=none) (hl:cu b s.heap l items) (hi:aw (xs.map V.str) items.toList) (hb:items.size + 1 < scanBound)
  (h:∀(h':Heap) (tk:Nat) (ks:List Str),cT prog w h' s.heap.objs.size ks->(∀y,y∈ks↔y∈xs)->
   (∀b o,s.heap.get? b=some o->h'.get? b=some o)->Q (.ref s.heap.objs.size) {s with heap:=h',toks:=tk}):
  wpAny (model prog w) A (call (.type "set") [.ref l]) Q E s:=by
 obtain⟨c,tl,OL⟩:=F.called_set.mro;have Nc:=F.called_set.made;have vA:=F.called_set.sub;refine wpAny_call (codeAny_of_tree ?_);show wpAny _ _ (callAny (.type "set") _) _ _ _;refine PV ⟨Code.quiet_builtin _ (by decide +kernel),codeAny_builtin F.entry_type_call ?_⟩;rw[Around.under_plain (weight_type_call_type "set" [.ref l] []) rfl];have h1:=F.called_set.notType;have h2:=F.called_set.canCreate;have Pt:=F.typeCall_set_1 (.ref l)
 repeat (any_goals (first | assumption | wp_step))
 refine codeAny_mono (code_set_new (.ref l) (E:=E) (Q₁:=λobj s₁=>obj= .ref s.heap.objs.size/\s₁={s with heap:=s.heap.push (cG w)}) ⟨rfl,rfl⟩) λr s₁ hr=>?_
 cases r with
 | error e=>exact hr
 | ok fl=>
  cases fl with
  | ret obj=>
   obtain⟨rfl,rfl⟩:=hr;have hT:Shared.TypeIs {s with heap:=s.heap.push (cG w)} (.ref s.heap.objs.size) "set":=⟨_,P6 _ rfl,rfl⟩;have PL:=F.called_set.init.lookup;have MZ:=F.called_set.init.bind (.ref s.heap.objs.size)
   repeat (any_goals (first | assumption | wp_step))
   refine codeAny_mono (codeAny_call_builtin (R:=wants (λr s₂=>r= .none/\∃h' tk ks,s₂={s with heap:=h',toks:=tk}/\cT prog w h' s.heap.objs.size ks/\(∀y,y∈ks↔y∈xs)/\
     (∀b o,s.heap.get? b=some o->h'.get? b=some o)) E) F.called_set.init.plain F.entry_set_init (check_set_init_1 hT ?_)) λr₂ s₂ hr₂=>?_
   ·have Pp:=hl;obtain⟨ob,Ob⟩:=x5 hl;have Fg:l < s.heap.objs.size:=P9 Ob;have Jw:A.in1.in1.in1.handled=none:=by simp[hh]
    have hz:(s.heap.push (cG w)).objs.size=s.heap.objs.size + 1:=Qt ..;have HY:l≠(s.heap.push (cG w)).objs.size:=by rw[hz];exact Qu (Nat.lt_succ_of_lt Fg)
    have Cn:s.heap.objs.size∉[(s.heap.push (cG w)).objs.size,l]:=by rw[hz];simp only[Qb,Qx,Qc,or_false,not_or];exact⟨Qu (Nat.lt_succ_self _),Nat.ne_of_gt Fg⟩
    have hlen:xs.length=items.size:=by have:=hi.length;rw[P8,Qj] at this;exact this
    have zY:∀(i:Nat) (v:Value),items[i]?=some v->∃x t,xs[i]?=some x/\v= .str x t:=λi v hv=>by
     rw[<-Array.getElem?_toList] at hv;cases hx:xs[i]? with
     | none=>have e1:=List.getElem?_eq_none_iff.mp hx;have e2:=(P0.mp hv).1;rw[Qj] at e2;omega
     | some x=>obtain⟨u,hu,t,ru⟩:=hi.get (i:=i) (x:= .str x) (by rw[Qi,hx];rfl);rw[hu] at hv;cases hv;exact⟨x,t,rfl,ru⟩
    have fin:∀(o:Obj) (s':Shared) (dw:List Str),Moved [s.heap.objs.size,(s.heap.push (cG w)).objs.size] (λa b=>b=a) {s with heap:=(s.heap.push (cG w)).push o} s'->cT prog w s'.heap s.heap.objs.size dw->(∀y,y∈dw↔y∈xs)->
      ∃h' tk ks,s'={s with heap:=h',toks:=tk}/\cT prog w h' s.heap.objs.size ks/\(∀y,y∈ks↔y∈xs)/\(∀b o,s.heap.get? b=some o->h'.get? b=some o):=by
     intro o s' dw hm qI yt;obtain⟨h',g',d',J3,FG⟩:=s';have eg:g'=s.gens:=hm.gens;have ed:d'=s.drawn:=hm.drawn;have eo:FG=s.os:=hm.os;subst eg;subst ed;subst eo;refine⟨h',J3,dw,rfl,qI,yt,λb o' e=>?_⟩;have hb:=P9 e;have yW:b≠s.heap.objs.size:=Qu hb;have Ci:b≠(s.heap.push (cG w)).objs.size:=by rw[hz];exact Qu (Nat.lt_succ_of_lt hb)
     exact hm.heap b o' (by simp only[Qb,Qx,Qc,or_false,not_or];exact⟨yW,Ci⟩) (PU _ (PU _ e))
    cases b with
    | false=>
     obtain⟨ol,Ex,vi,nl,yI⟩:=hl;obtain⟨J4,zh,Ij,sG⟩:=ol;simp only at vi yI;subst vi;subst yI;have Dc:(s.heap.push (cG w)).get? l=some {cls:= .type "list",dict:=zh,data:= .seq items nl,slots:=sG}:=PU _ Ex;have Ks:=F.sub_list_set;have L4:=F.sub_list_frozenset;have oU:(Value.type "list"==Value.type "dict")=false:=by decide
     have cO:(s.heap.push (cG w)).IsList l items:=⟨_,Dc,rfl,nl,rfl⟩;unfold Builtin.«set.__init__» noKeywords Builtin.Frozenset.updateFrom;generalize hPI:pyIter=PI
     wp_walk
     subst hPI;refine wpAny_pyIter_list cO ?_;refine PP (wpAny_runValue ?_);refine tE ((Walks.list Jw _ l HY items).toS) s.heap.objs.size Cn xs hlen zY hb (items.size - 0) 0 _ [] (by omega) (Nat.zero_le _)
      ⟨⟨_,P6 _ rfl,rfl,rfl⟩,(cO.push _)⟩ (yh.at λo e=>PU _ e) (by simp) (P4 _) λs' dw hm qI yt=>?_
     show wpAny _ _ _ _ _ _;refine PV ?_;show wpAny _ _ (ret Value.none) _ _ _;exact PV ⟨rfl,fin _ s' dw hm qI yt⟩
    | true=>
     obtain⟨ol,Ex,vi,nl,yI⟩:=hl;obtain⟨J4,zh,Ij,sG⟩:=ol;simp only at vi yI;subst vi;subst yI;have Dc:(s.heap.push (cG w)).get? l=some {cls:= .type "tuple",dict:=zh,data:= .seq items nl,slots:=sG}:=PU _ Ex;have Ks:=F.sub_tuple_set;have L4:=F.sub_tuple_frozenset;have oU:(Value.type "tuple"==Value.type "dict")=false:=by decide
     have cO:(s.heap.push (cG w)).IsTuple l items:=⟨_,Dc,rfl,nl,rfl⟩;unfold Builtin.«set.__init__» noKeywords Builtin.Frozenset.updateFrom;generalize hPI:pyIter=PI
     wp_walk
     subst hPI;refine wpAny_pyIter_tuple cO ?_;refine PP (wpAny_runValue ?_);refine tE ((Walks.tuple Jw _ l HY items).toS) s.heap.objs.size Cn xs hlen zY hb (items.size - 0) 0 _ [] (by omega) (Nat.zero_le _)
      ⟨⟨_,P6 _ rfl,rfl,rfl⟩,(cO.push _)⟩ (yh.at λo e=>PU _ e) (by simp) (P4 _) λs' dw hm qI yt=>?_
     show wpAny _ _ _ _ _ _;refine PV ?_;show wpAny _ _ (ret Value.none) _ _ _;exact PV ⟨rfl,fin _ s' dw hm qI yt⟩
   ·cases r₂ with
    | error e=>exact hr₂
    | ok fl₂=>
     cases fl₂ with
     | ret r=>
      obtain⟨rfl,h',tk,ks,rfl,qI,yt,wo⟩:=hr₂
      repeat (any_goals (first | assumption | wp_step))
      exact h _ _ _ qI yt wo
     | _=>exact hr₂.elim
  | _=>exact hr.elim
end
namespace F
def dH:Manifest.owners.lookup (String.ofList ['r','o','t','a','r','e','t','i','_','t','e','s'].reverse)=some Manifest.sig_set_iterator:=by kernel_rfl
def az:Slot "set_iterator" "__next__" "set_iterator.__next__":=
 .of (owner:="set_iterator") (n:="__next__") (by rw[typeLookup_type,builtinLookup_eq_fast];kernel_rfl) (by decide +kernel) (by decide +kernel) (by decide +kernel)
  (by first | exact .inl (by decide +kernel) | exact .inr (by decide +kernel)) (by rw[isSubtype_type];kernel_rfl)
def cn:entryFor table "set_iterator.__next__"=some Builtin.«set_iterator.__next__»:=entryFor_of_tree (by kernel_rfl)
def bW (a:Value):argsOk "set_iterator.__next__" ⟨[a],[]⟩:=by unfold argsOk;rw[signature?_of (id:="set_iterator.__next__") (n:=['_','_','t','x','e','n','_','_']) (o:=['r','o','t','a','r','e','t','i','_','t','e','s']) (by kernel_rfl) dH];kernel_rfl
def cL:Slot "set_iterator" "__iter__" "set_iterator.__iter__":=
 .of (owner:="set_iterator") (n:="__iter__") (by rw[typeLookup_type,builtinLookup_eq_fast];kernel_rfl) (by decide +kernel) (by decide +kernel) (by decide +kernel)
  (by first | exact .inl (by decide +kernel) | exact .inr (by decide +kernel)) (by rw[isSubtype_type];kernel_rfl)
def eC:entryFor table "set_iterator.__iter__"=some Builtin.«dict_keyiterator.__iter__»:=
 entryFor_alias (id':="dict_keyiterator.__iter__") (by kernel_rfl) (by first | rfl | decide +kernel | (unfold String.splitOn;simp +decide [String.splitOnAux])) (by decide +kernel) (by kernel_rfl)
def eh (a:Value):argsOk "set_iterator.__iter__" ⟨[a],[]⟩:=by unfold argsOk;rw[signature?_of (id:="set_iterator.__iter__") (n:=['_','_','r','e','t','i','_','_']) (o:=['r','o','t','a','r','e','t','i','_','t','e','s']) (by kernel_rfl) dH];kernel_rfl
def j4:entryFor table "set.__iter__"=some Builtin.«frozenset.__iter__»:=
 entryFor_alias (id':="frozenset.__iter__") (by kernel_rfl) (by first | rfl | decide +kernel | (unfold String.splitOn;simp +decide [String.splitOnAux])) (by decide +kernel) (by kernel_rfl)
end F
abbrev AG (h:Heap) (I:Addr) (f:Value) (i:Nat) (S:Addr) (n ep:Nat):Prop:=
 h.get? I=some {cls:= .type "set_iterator",dict:=none,data:= .fields #[f,rawInt i,.ref S,rawInt n,rawInt ep],slots:=#[]}
abbrev wq (h:Heap) (S:Addr) (es:Array (Int×Value)) (ep:Nat) (t:SetTable):Prop:=h.get? S=some {cls:= .type "set",dict:=none,data:= .set es ep t,slots:=#[]}
def GJ (w:World) (h:Heap) (f:Value) (i:Nat) (S:Addr) (es:Array (Int×Value)) (ep:Nat) (t:SetTable) (vs:List Value) (T:Addr):Prop:=
 (zv w=true/\f=rawInt 0/\vs=(pickOrder (w.params.setOrder S ep) es).toList.map (·.2))\/
 (zv w=false/\t.led=true/\es.size<=1/\vs=es.toList.map (·.2)/\∃slot:Nat,f=rawInt slot/\(i=0->slot=0)/\(i=1->slot=t.place.getD 0 0 + 1))\/
 (zv w=false/\1 < es.size/\f= .ref T/\∃π:List Nat,h.get? T=some {cls:= .type "tuple",dict:=none,data:= .seq (π.map λi=>rawInt (i:Nat)).toArray 0,slots:=#[]}/\π.length=es.size/\(∀j∈π,j < es.size)/\vs=π.map λj=>(es.getD j (0,.none)).2)
def zK (w:World) (I S:Addr) (es:Array (Int×Value)) (ep:Nat) (t:SetTable) (vs:List Value) (T:Addr) (i:Nat) (h:Heap):Prop:=
 wq h S es ep t/\t.fits es.size=true/\vs.length=es.size/\∃f,AG h I f i S es.size ep/\GJ w h f i S es ep t vs T
section
variable {prog:Program} {w:World} {A:Around} {E:Value->Shared->Prop} {s:Shared}
def e9 {S:Addr} {es:Array (Int×Value)} {ep:Nat} {t:SetTable} (ho:wq s.heap S es ep t) (hf:t.fits es.size=true) (hb:zv w=true) {Q:Array (Int×Value)->Shared->Prop}
  (h:Q (pickOrder (w.params.setOrder S ep) es) s):wpAny (model prog w) A (setWalk S) Q E s:=by
 unfold setWalk;refine PP (wpAny_setState_of ho rfl hf ?_);dsimp only;refine PP (dD ?_);rw[hb,if_pos rfl];exact PP (wpAny_askSetting (PV h))
def my (a:Nat) (j:Nat):SetTable.below #[a] j=if a < j then 1 else 0:=by unfold SetTable.below;show SetTable.below.go #[a] j 1 0 1=_;unfold SetTable.below.go;simp only[Nat.zero_lt_one,if_true];show (if (#[a]:Array Nat).getD 0 j < j then SetTable.below.go #[a] j 0 1 1 else SetTable.below.go #[a] j 0 0 0)=_;rfl
def yZ {I S T:Addr} {es:Array (Int×Value)} {ep:Nat} {t:SetTable} {vs:List Value} {i:Nat} {x:Value} {Q:Option Value->Shared->Prop} (Bl:I≠S) (Gg:I≠T)
  (st:zK w I S es ep t vs T i s.heap) (hx:vs[i]?=some x) (hQ:∀h',zK w I S es ep t vs T (i + 1) h'->Heap.SameBut I s.heap h'->Q (some x) {s with heap:=h'}):
  wpAny (model prog w) A (pyNext (.ref I)) Q E s:=by
 obtain⟨hS,hf,hl,f,hI,hw⟩:=st;have hT:s.TypeIs (.ref I) "set_iterator":=⟨_,hI,rfl⟩;have hi:i < es.size:=by rw[<-hl];exact(P0.mp hx).1
 unfold pyNext;refine PP (wpAny_attempt (wpAny_callSpecial?_slot (name:=Str.ofString "__next__") hT F.az
  (wpAny_call_entry F.az hT F.cn ?_ (F.bW _))))
 show wpAny _ _ (fieldsOf (.ref I) >>=_) _ _ s;refine PP (wpAny_fieldsOf hI rfl ?_);show wpAny _ _ (setEntries S >>=_) _ _ s;refine PP (wpAny_setEntries_of hS rfl hf ?_);show wpAny _ _ (if (((es.size:Int) != (es.size:Int))=true) then _ else _) _ _ s;rw[if_neg (by simp)];refine PP (PV ?_);rcases hw with ⟨b1,b2,b3⟩ | ⟨b1,b2,b3,b4,slot,b5,b6,b7⟩ | ⟨b1,b2,b3,π,b4,b5,b6,b7⟩
 ·subst b2;show wpAny _ _ (setNext S (0:Int).toNat ((i:Nat):Int).toNat ((ep:Nat):Int).toNat >>=_) _ _ s;simp only[Int.toNat_natCast];refine PP ?_;unfold setNext;refine PP (wpAny_setState_of hS rfl hf ?_);dsimp only;refine PP (dD ?_);rw[b1,if_pos rfl];rw[if_neg (by simp)];refine PP (e9 hS hf b1 (PV ?_));rw[b3,Qi] at hx;obtain⟨e,he,rfl⟩:=Qe.mp hx;rw[Array.getElem?_toList] at he;rw[he];show wpAny _ _ (setField (.ref I) 0 (rawInt _) >>=_) _ _ s;refine PP (Qw hI (by simp) λh1 i1 e1=>?_);refine PP (Qw i1 (by simp) λh2 i2 e2=>?_);refine PV ⟨_,rfl,PV (hQ h2 ⟨?_,hf,hl,rawInt 0,i2,.inl ⟨b1,rfl,b3⟩⟩ (e1.trans e2))⟩;exact e2.extBut _ _ Bl.symm (e1.extBut _ _ Bl.symm hS)
 ·subst b5;have Ft:i=0:=by omega
  subst Ft;have NH:=b6 rfl;subst NH;have h1:es.size=1:=by omega
  have jr:t.place.size=1:=by unfold SetTable.fits at hf;rw[PX,beq_iff_eq] at hf;omega
  obtain⟨pl,gL⟩:∃pl,t.place=#[pl]:=by
   cases ht:t.place with
   | mk l=>
    rw[ht] at jr
    match l,jr with
    | [a],_=>exact⟨a,rfl⟩
  obtain⟨e,he⟩:∃e,es=#[e]:=by
   obtain⟨l⟩:=es
   match l,h1 with
   | [a],_=>exact⟨a,rfl⟩
  show wpAny _ _ (setNext S ((0:Nat):Int).toNat ((0:Nat):Int).toNat ((ep:Nat):Int).toNat >>=_) _ _ s;simp only[Int.toNat_natCast];refine PP ?_;unfold setNext;refine PP (wpAny_setState_of hS rfl hf ?_);dsimp only;refine PP (dD ?_);rw[b1,if_neg (by simp)];show wpAny _ _ (if (!t.plain&&decide (es.size > 1))=true then _ else _) _ _ s;rw[if_neg (by rw[h1];simp)];show wpAny _ _ ((if (!t.led&& !es.isEmpty)=true then _ else _) >>=_) _ _ s;rw[if_neg (by rw[b2];simp)];refine PP (PV ?_);have Ld:SetTable.below t.place 0=0:=by rw[gL,my];simp
  rw[Ld];have Oe:es[0]?=some e:=by rw[he];rfl
  have HC:t.place[0]?=some pl:=by rw[gL];rfl
  rw[Oe,HC];refine PV ?_;have qv:e.2=x:=by rw[b4,he] at hx;simpa using hx
  show wpAny _ _ (setField (.ref I) 0 (rawInt _) >>=_) _ _ s;refine PP (Qw hI (by simp) λh1 i1 e1=>?_);refine PP (Qw i1 (by simp) λh2 i2 e2=>?_);rw[<-qv] at hQ;refine PV ⟨_,rfl,PV (hQ h2 ⟨?_,hf,hl,rawInt (pl + 1:Nat),i2,.inr (.inl ⟨b1,b2,b3,b4,pl + 1,rfl,λz=>by omega,λ_=>by rw[gL];rfl⟩)⟩ (e1.trans e2))⟩;exact e2.extBut _ _ Bl.symm (e1.extBut _ _ Bl.symm hS)
 ·subst b3;rw[b7,Qi] at hx;obtain⟨j,hj,rfl⟩:=Qe.mp hx;have M8:=b6 j (List.mem_of_getElem? hj);show wpAny _ _ (seqItems? (.ref T) >>=_) _ _ s;refine PP (wpAny_seqItems b4 rfl ?_);have FU:(π.map λi=>rawInt ((i:Nat):Int)).toArray[((i:Nat):Int).toNat]?=some (rawInt ((j:Nat):Int)):=by simp[hj]
  dsimp only;rw[FU];show wpAny _ _ (setNextDrawn S ((j:Nat):Int).toNat ((ep:Nat):Int).toNat >>=_) _ _ s;simp only[Int.toNat_natCast];refine PP ?_;unfold setNextDrawn;refine PP (wpAny_setState_of hS rfl hf ?_);dsimp only;rw[if_neg (by simp)];have NG:es[j]?=some es[j]:=by simp[M8]
  rw[NG];refine PV ?_;refine PP (Qw hI (by simp) λh1 i1 e1=>?_);have hd:(es.getD j (0,.none)).2=es[j].2:=by simp[Array.getD,M8]
  rw[hd] at hQ;refine PV ⟨_,rfl,PV (hQ h1 ⟨e1.extBut _ _ Bl.symm hS,hf,hl,.ref T,i1,.inr (.inr ⟨b1,b2,rfl,π,e1.extBut _ _ Gg.symm b4,b5,b6,b7⟩)⟩ e1)⟩
def Ar {I S T:Addr} {es:Array (Int×Value)} {ep:Nat} {t:SetTable} {vs:List Value} {Q:Option Value->Shared->Prop} (hh:A.handled=none)
  (st:zK w I S es ep t vs T vs.length s.heap) (hQ:∀h',Heap.ExtBut I s.heap h'->Q none {s with heap:=h'}):
  wpAny (model prog w) A (pyNext (.ref I)) Q E s:=by
 obtain⟨hS,hf,hl,f,hI,hw⟩:=st;have hT:s.TypeIs (.ref I) "set_iterator":=⟨_,hI,rfl⟩;have stop:∀(h1:Heap) {E':Value->Shared->Prop} {Q':PySem.Fin->Shared->Prop},Heap.ExtBut I s.heap h1->(∀e h',Heap.ExtBut I s.heap h'->(∃o,h'.get? e=some o/\o.cls= .type "StopIteration")->E' (.ref e) {s with heap:=h'})->
   wpAny (model prog w) A.in1 (newExc (.type "StopIteration") [] >>=λe=>raiseNew e) Q' E' {s with heap:=h1}:=by
  intro h1 E' Q' e1 hE';refine PP ?_;simp only[newExc,newTuple];refine PP (wpAny_newObj_type ?_ (by size_fits));refine PP (m:=firstArgMember _ _) (wpAny_of_eq (a:=Value.none) (by first | rfl | (simp only[firstArgMember];rfl)) ?_);refine wpAny_newObj_type ?_ (by size_fits);simp only[raiseNew];refine PP (wpAny_handled ?_)
  first | rw[show A.in1.handled=none from hh] | rw[hh]
  refine PP (PV (wpAny_throw ?_));exact hE' _ _ ((e1.push _).push _) ⟨_,P6 _ rfl,rfl⟩
 have fin:∀e h',Heap.ExtBut I s.heap h'->(∃o,h'.get? e=some o/\o.cls= .type "StopIteration")->wpAny (model prog w) A (do let __do_lift<-isInstance (.ref e) (Value.type "StopIteration");if __do_lift=true then pure none else throw (.ref e)) Q E {s with heap:=h'}:=by rintro e h' hk ⟨o,ho,hc⟩;refine PP (wpAny_isInstance (T:="StopIteration") (b:=true) ⟨o,ho,hc⟩ isSubtype_stop ?_);exact PV (hQ _ hk)
 unfold pyNext;refine PP (wpAny_attempt (wpAny_callSpecial?_slot (name:=Str.ofString "__next__") hT F.az
  (wpAny_call_entry F.az hT F.cn ?_ (F.bW _))))
 show wpAny _ _ (fieldsOf (.ref I) >>=_) _ _ s;refine PP (wpAny_fieldsOf hI rfl ?_);show wpAny _ _ (setEntries S >>=_) _ _ s;refine PP (wpAny_setEntries_of hS rfl hf ?_);show wpAny _ _ (if (((es.size:Int) != (es.size:Int))=true) then _ else _) _ _ s;rw[if_neg (by simp)];refine PP (PV ?_);rcases hw with ⟨b1,b2,b3⟩ | ⟨b1,b2,b3,b4,slot,b5,b6,b7⟩ | ⟨b1,b2,b3,π,b4,b5,b6,b7⟩
 ·subst b2;show wpAny _ _ (setNext S (0:Int).toNat ((vs.length:Nat):Int).toNat ((ep:Nat):Int).toNat >>=_) _ _ s;simp only[Int.toNat_natCast];refine PP ?_;unfold setNext;refine PP (wpAny_setState_of hS rfl hf ?_);dsimp only;refine PP (dD ?_);rw[b1,if_pos rfl];rw[if_neg (by simp)];refine PP (e9 hS hf b1 (PV ?_));have hn:(pickOrder (w.params.setOrder S ep) es)[vs.length]?=none:=by rw[b3,P8,Qj];simp
  rw[hn];show wpAny _ _ (setField (.ref I) 2 Value.none >>=_) _ _ s;exact PP (Qw hI (by simp) λh1 i1 e1=>stop h1 e1.extBut fin)
 ·subst b5;have Ld:es[SetTable.below t.place slot]?=none:=by
   by_cases h0:es.size=0
   ·simp[h0]
   ·have h1:es.size=1:=by omega
    have jr:t.place.size=1:=by unfold SetTable.fits at hf;rw[PX,beq_iff_eq] at hf;omega
    obtain⟨pl,gL⟩:∃pl,t.place=#[pl]:=by
     cases ht:t.place with
     | mk l=>
      rw[ht] at jr
      match l,jr with
      | [a],_=>exact⟨a,rfl⟩
    have:=b7 (by omega);rw[gL] at this;have sS:slot=pl + 1:=this;rw[gL,my,if_pos (by omega)];simp[h1]
  show wpAny _ _ (setNext S ((slot:Nat):Int).toNat ((vs.length:Nat):Int).toNat ((ep:Nat):Int).toNat >>=_) _ _ s;simp only[Int.toNat_natCast];refine PP ?_;unfold setNext;refine PP (wpAny_setState_of hS rfl hf ?_);dsimp only;refine PP (dD ?_);rw[b1,if_neg (by simp)];show wpAny _ _ (if (!t.plain&&decide (es.size > 1))=true then _ else _) _ _ s;rw[if_neg (by rw[Qo (by omega)];simp)];show wpAny _ _ ((if (!t.led&& !es.isEmpty)=true then _ else _) >>=_) _ _ s;rw[if_neg (by rw[b2];simp)];refine PP (PV ?_);rw[Ld];refine PV ?_;show wpAny _ _ (setField (.ref I) 2 Value.none >>=_) _ _ s;exact PP (Qw hI (by simp) λh1 i1 e1=>stop h1 e1.extBut fin)
 ·subst b3;show wpAny _ _ (seqItems? (.ref T) >>=_) _ _ s;refine PP (wpAny_seqItems b4 rfl ?_);have FU:(π.map λi=>rawInt ((i:Nat):Int)).toArray[((vs.length:Nat):Int).toNat]?=none:=by rw[Int.toNat_natCast,b7];simp
  dsimp only;rw[FU];show wpAny _ _ (setField (.ref I) 0 (rawInt 0) >>=_) _ _ s;refine PP (Qw hI (by simp) λh1 i1 e1=>?_);exact PP (Qw i1 (by simp) λh2 i2 e2=>stop h2 (e1.trans e2).extBut fin)
def wY {I S T:Addr} {es:Array (Int×Value)} {ep:Nat} {t:SetTable} {vs:List Value} {i:Nat} {Q:Value->Shared->Prop} (st:zK w I S es ep t vs T i s.heap) (h:Q (.ref I) s):
  wpAny (model prog w) A (pyIter (.ref I)) Q E s:=by
 obtain⟨hS,hf,hl,f,hI,hw⟩:=st;have hT:s.TypeIs (.ref I) "set_iterator":=⟨_,hI,rfl⟩;refine wpAny_pyIter_slot hT F.cL (wpAny_call_entry F.cL hT F.eC ?_ (F.eh _));show wpAny _ _ (ret (.ref I)) _ _ s;exact PV ⟨_,rfl,"set_iterator",_,hT,F.az.lookup,h⟩
def zK.keep {I S T:Addr} {es:Array (Int×Value)} {ep:Nat} {t:SetTable} {vs:List Value} {i:Nat} {h h':Heap} (st:zK w I S es ep t vs T i h) (hk:∀b∈[I,S,T],∀o,h.get? b=some o->h'.get? b=some o):zK w I S es ep t vs T i h':=by
 obtain⟨hS,hf,hl,f,hI,hw⟩:=st;refine⟨hk S (by simp) _ hS,hf,hl,f,hk I (by simp) _ hI,?_⟩;rcases hw with b | b | ⟨b1,b2,b3,π,b4,b5⟩
 ·exact .inl b
 ·exact .inr (.inl b)
 ·exact .inr (.inr ⟨b1,b2,b3,π,hk T (by simp) _ b4,b5⟩)
def vX (hh:A.handled=none) (I S T:Addr) (Bl:I≠S) (Gg:I≠T) (es:Array (Int×Value)) (ep:Nat) (t:SetTable) (vs:List Value):
  Walks prog w A I [I,S,T] [I] vs.length (λi v=>vs[i]?=some v) (zK w I S es ep t vs T) where
 sub:=λb hb=>by simp at hb;simp[hb]
 frame:=λ_ _ _ st hk=>st.keep hk
 item:=λi s Q E hi st hQ=>yZ Bl Gg st (x:=vs[i]) (by simp[hi]) λh' ai Fs=>hQ _ h' s.toks (by simp[hi]) ai λb o hb e=>Fs.extBut b o (λh=>hb (by simp[h])) e
 done:=λs Q E st hQ=>Ar hh st λh' ID=>hQ h' s.toks λb o hb e=>ID b o (λh=>hb (by simp[h])) e
 self:=λ_ _ _ _ st hQ=>wY st hQ
def gJ {α:Type}:∀{l:List α} {i:Nat} (h:i < l.length),(l[i]::l.eraseIdx i).Perm l
 | a::l,0,h=>List.Perm.refl _
 | a::l,i + 1,h=>by
  have hi:i < l.length:=by simpa using h
  show (l[i]::a::l.eraseIdx i).Perm (a::l);exact(List.Perm.swap _ _ _).trans ((gJ hi).cons a)
def tT {α:Type} (next:Nat->Nat):∀(fuel k:Nat) (left:List α) (out:Array α),left.length<=fuel->(pickOrder.go next fuel k left out).toList.Perm (out.toList++left)
 | 0,k,left,out,h=>by have:left=[]:=List.length_eq_zero_iff.mp (by omega);subst this;unfold pickOrder.go;simp
 | fuel + 1,k,left,out,h=>by
  unfold pickOrder.go;cases left with
  | nil=>simp
  | cons a r=>have cQ:next k % (a::r).length < (a::r).length:=Nat.mod_lt _ (by simp);rw[Qn cQ];dsimp only;refine(tT next fuel (k + 1) _ _ (by rw[List.length_eraseIdx_of_lt cQ];simp at h ⊢;omega)).trans ?_;rw[Array.toList_push,Qd];refine List.Perm.append_left _ ?_;exact gJ cQ
def mv {α:Type} (next:Nat->Nat) (xs:Array α):(pickOrder next xs).toList.Perm xs.toList:=by unfold pickOrder;simpa using tT next xs.size 0 xs.toList #[] (by simp)
def iF {α:Type}:∀(n:Nat) (xs:List α) {s:Shared} {Q:List α->Shared->Prop},xs.length<=n->(∀ys d,ys.Perm xs->Q ys {s with drawn:=d})->wpAny (model prog w) A (drawOrder n xs) Q E s
 | 0,xs,s,Q,hn,h=>by have:xs=[]:=List.length_eq_zero_iff.mp (by omega);subst this;unfold drawOrder;exact PV (h [] s.drawn (List.Perm.refl _))
 | n + 1,[],s,Q,hn,h=>by unfold drawOrder;exact PV (h [] s.drawn (List.Perm.refl _))
 | n + 1,x::xs,s,Q,hn,h=>by unfold drawOrder;refine PP (oE (by simp) λi d hi=>?_);rw[Qn hi];dsimp only;refine PP (iF n _ (by rw[List.length_eraseIdx_of_lt hi];simp at hn ⊢;omega) λys d' hp=>PV ?_);exact h _ d' ((hp.cons _).trans (gJ hi))
end
end Mx
end
section
namespace MxTim
open PySem PySem.W PyProof.Rows
def BW:Bool->Keyed->Array Keyed->Nat->Nat->Nat->StateT SortSt Sem (Option Nat):=sortPriv% PySem.Builtin.gallop
def C7 (gf:Bool) (k:Keyed) (xs:Array Keyed) (b m h:Nat):BW gf k xs b m h=(do
 let past (i:Nat):StateT SortSt Sem (Option Bool):=do
  let y<-elem' xs (b + i)
  if gf then lt' y k else return (<-lt' k y).map (!·)
 let mut la:=0
 let mut st:=1
 let mut u:=0
 let mut v:=0
 let some c0<-past h | return none
 if c0 then
  let mx:=m - h
  for _ in [0:m] do
   if st>=mx then break
   let some c1<-past (h + st) | return none
   if !c1 then break
   la:=st
   st:=2 * st + 1
  u:=h + la + 1
  v:=h + min st mx
 else
  let mx:=h + 1
  for _ in [0:m] do
   if st>=mx then break
   let some c1<-past (h - st) | return none
   if c1 then break
   la:=st
   st:=2 * st + 1
  u:=h + 1 - min st mx
  v:=h - la
 for _ in [0:m] do
  if u>=v then break
  let mm:=u + (v - u) / 2
  let some c2<-past mm | return none
  if c2 then u:=mm + 1 else v:=mm
 return some v):=rfl
section
variable {prog:Program} {w:World} {A:Around} {E:Value->Shared->Prop} {κ:SortKind} {s:Shared} {O:KeyOrd} {ky:Keyed->O.α} {Mem:Keyed->Prop}
def Tells (prog:Program) (w:World) (A:Around) (κ:SortKind) (s:Shared) (O:KeyOrd) (ky:Keyed->O.α) (Mem:Keyed->Prop):Prop:=
 ∀x y,Mem x->Mem y->∀C:Bool->Shared->Prop,C (O.blt (ky x) (ky y)) s->wpAny (model prog w) A (keyLt' κ x.1 y.1) C (λ_ _=>False) s
def qi (T:Tells prog w A κ s O ky Mem) {x y:Keyed} (hx:Mem x) (hy:Mem y) {st:SortSt} (hk:kindOf st=κ) {Q:Option Bool->SortSt->Shared->Prop} (h:Q (some (O.blt (ky x) (ky y))) st s):kasC (model prog w) A E (lt' x y) Q st s:=by rw[lt'_eq];refine P3 (kasC_get ?_);rw[hk];refine P3 (kasC_lift (wpAny_attempt (wpAny_mono (T x y hx hy (λc s'=>Q (some c) st s') h) (λc s' hc=>?_) λ_ _ hF=>hF.elim)));exact P7 hc
def aS {xs:Array Keyed} {i:Nat} {x:Keyed} (hx:xs[i]?=some x) {st:SortSt} {Q:Keyed->SortSt->Shared->Prop} (h:Q x st s):kasC (model prog w) A E (elem' xs i) Q st s:=by rw[elem'_eq,hx];exact P7 h
def c7 {β:Type} {l:List Nat} {b0:β} {f:Nat->β->StateT SortSt Sem (ForInStep β)} {Q:β->SortSt->Shared->Prop} (Inv:Nat->β->SortSt->Prop) {df:SortSt} (h0:Inv 0 b0 df)
  (step:∀j b st x,j < l.length->Inv j b st->kasC (model prog w) A E (f x b) (λr ai s'=>s'=s/\match r with | .done b'=>Q b' ai s | .yield b'=>Inv (j + 1) b' ai) st s)
  (fin:∀b st,Inv l.length b st->Q b st s):kasC (model prog w) A E (forIn l b0 f) Q df s:=by
 have go:∀(l':List Nat) (j:Nat) (b:β) (st:SortSt),j + l'.length=l.length->Inv j b st->kasC (model prog w) A E (forIn l' b f) Q st s:=by
  intro l'
  induction l' with
  | nil=>intro j b st hj hI;simp only[List.length_nil,Nat.add_zero] at hj;subst hj;exact kasC_nil (fin b st hI)
  | cons x l' ih=>
   intro j b st hj hI;simp only[Qh] at hj;refine kasC_cons (wpAny_mono (step j b st x (by omega) hI) (λr s' h'=>?_) λ_ _ e=>e);obtain⟨r,ai⟩:=r;obtain⟨rfl,h'⟩:=h';cases r with
   | done b'=>exact h'
   | yield b'=>exact ih (j + 1) b' ai (by omega) h'
 exact go l 0 b0 df (by omega) h0
def bL {α:Type} {m:StateT SortSt Sem α} {Q Q':α->SortSt->Shared->Prop} {st:SortSt} (h:kasC (model prog w) A E m Q st s) (hq:∀a ai s',Q a ai s'->Q' a ai s'):kasC (model prog w) A E m Q' st s:=by unfold kasC at h ⊢;exact wpAny_mono h (λr s' h'=>hq _ _ _ h') λ_ _ e=>e
def dW (O:KeyOrd) (ky:Keyed->O.α) (gf:Bool) (k:Keyed) (g:Nat->Keyed) (i:Nat):Bool:=if gf=true then O.blt (ky (g i)) (ky k) else !O.blt (ky k) (ky (g i))
def iU (T:Tells prog w A κ s O ky Mem) {gf:Bool} {k:Keyed} {xs:Array Keyed} {b m h:Nat} (g:Nat->Keyed) (hg:∀i,i < m->xs[b + i]?=some (g i)) (hm:∀i,i < m->Mem (g i)) (hk:Mem k) (hh:h < m)
  (mono:∀i j,i<=j->j < m->dW O ky gf k g j=true->dW O ky gf k g i=true) {st:SortSt} (hs:kindOf st=κ) {Q:Option Nat->SortSt->Shared->Prop}
  (q:∀v,v<=m->(∀i,i < v->dW O ky gf k g i=true)->(∀i,v<=i->i < m->dW O ky gf k g i=false)->Q (some v) st s):kasC (model prog w) A E (BW gf k xs b m h) Q st s:=by
 have past:∀(i:Nat) {R:Option Bool->SortSt->Shared->Prop},i < m->R (some (dW O ky gf k g i)) st s->kasC (model prog w) A E (do
   let y<-elem' xs (b + i)
   if gf=true then lt' y k else do
    let r<-lt' k y
    pure (r.map (!·))) R st s:=λi R hi hR=>by
  refine P3 (aS (hg i hi) ?_);unfold dW at hR;cases gf with
  | true=>rw[if_pos rfl] at hR ⊢;exact qi T (hm i hi) hk hs hR
  | false=>rw[if_neg (by simp)] at hR ⊢;exact P3 (qi T hk (hm i hi) hs (P7 hR))
 have uH:∀i j,i<=j->j < m->dW O ky gf k g i=false->dW O ky gf k g j=false:=λi j gj hj hi=>by
  cases c:dW O ky gf k g j with
  | false=>rfl
  | true=>rw[mono i j gj hj c] at hi;cases hi
 rw[C7];dsimp only;refine P3 (past h hh ?_);dsimp only;cases c0:dW O ky gf k g h with
 | true=>
  rw[if_pos rfl];refine P3 (bL (Q:=λr ai s'=>st=ai/\s=s'/\∃la sp,r=(none,la,sp)/\h + la < m/\la < sp/\dW O ky gf k g (h + la)=true/\∀i,h + min sp (m - h)<=i->i < m->dW O ky gf k g i=false) (kasC_range (c7 (λj r ai=>st=ai/\∃la sp,r=(none,la,sp)/\h + la < m/\la < sp/\j + 1<=sp/\dW O ky gf k g (h + la)=true) ⟨rfl,0,1,rfl,by omega,by omega,by omega,c0⟩ (λj r ai x hj hI=>?_) (λr ai hI=>?_))) (λr ai s' hI=>?_))
  ·obtain⟨rfl,la,sp,rfl,tW,ml,Hr,hb⟩:=hI;dsimp only;by_cases c:sp>=m - h
   ·rw[if_pos c];exact P7 ⟨rfl,rfl,rfl,la,sp,rfl,tW,ml,hb,λi hi him=>by omega⟩
   ·rw[if_neg c];refine P3 (past _ (by omega) ?_);dsimp only;cases cb:dW O ky gf k g (h + sp) with
    | true=>rw[if_neg (by simp)];exact P7 ⟨rfl,rfl,_,_,rfl,by omega,by omega,by omega,cb⟩
    | false=>rw[if_pos (by simp)];exact P7 ⟨rfl,rfl,rfl,la,sp,rfl,tW,ml,hb,λi hi him=>uH (h + sp) i (by omega) him cb⟩
  ·obtain⟨rfl,la,sp,rfl,tW,ml,Hr,hb⟩:=hI;rw[List.length_range'] at Hr;exact⟨rfl,rfl,la,sp,rfl,tW,ml,hb,λi hi him=>by omega⟩
  obtain⟨rfl,rfl,la,sp,rfl,tW,ml,hb,zL⟩:=hI;have nr:∀i,i < h + la + 1->dW O ky gf k g i=true:=λi hi=>mono i _ (by omega) tW hb
  dsimp only;refine P3 (kasC_range (c7 (λj r ai=>st=ai/\∃u v,r=(none,u,v)/\v<=m/\u<=v/\v - u + j<=m/\(∀i,i < u->dW O ky gf k g i=true)/\(∀i,v<=i->i < m->dW O ky gf k g i=false)) ⟨rfl,_,_,rfl,by omega,by omega,by omega,nr,zL⟩ (λj r ai x hj hI=>?_) (λr ai hI=>?_)))
  ·obtain⟨rfl,u,v,rfl,hv,KD,G9,h1,h2⟩:=hI;dsimp only;by_cases c:u>=v
   ·rw[if_pos c];have e:u=v:=by omega
    subst e;exact P7 ⟨rfl,P7 (q u hv h1 h2)⟩
   ·rw[if_neg c];have yt:u + (v - u) / 2 < v:=by omega
    refine P3 (past _ (by omega) ?_);dsimp only;cases cb:dW O ky gf k g (u + (v - u) / 2) with
    | true=>rw[if_pos rfl];exact P7 ⟨rfl,rfl,_,_,rfl,hv,by omega,by omega,λi hi=>mono i _ (by omega) (by omega) cb,h2⟩
    | false=>rw[if_neg (by simp)];exact P7 ⟨rfl,rfl,_,_,rfl,by omega,by omega,by omega,h1,λi hi him=>uH _ i hi him cb⟩
  ·obtain⟨rfl,u,v,rfl,hv,KD,G9,h1,h2⟩:=hI;have e:u=v:=by rw[List.length_range'] at G9;omega
   subst e;exact P7 (q u hv h1 h2)
 | false=>
  rw[if_neg (by simp)];refine P3 (bL (Q:=λr ai s'=>st=ai/\s=s'/\∃la sp,r=(none,la,sp)/\la<=h/\la < sp/\dW O ky gf k g (h - la)=false/\∀i,i < h + 1 - min sp (h + 1)->dW O ky gf k g i=true) (kasC_range (c7 (λj r ai=>st=ai/\∃la sp,r=(none,la,sp)/\la<=h/\la < sp/\j + 1<=sp/\dW O ky gf k g (h - la)=false) ⟨rfl,0,1,rfl,by omega,by omega,by omega,c0⟩ (λj r ai x hj hI=>?_) (λr ai hI=>?_))) (λr ai s' hI=>?_))
  ·obtain⟨rfl,la,sp,rfl,tW,ml,Hr,hb⟩:=hI;dsimp only;by_cases c:sp>=h + 1
   ·rw[if_pos c];exact P7 ⟨rfl,rfl,rfl,la,sp,rfl,tW,ml,hb,λi hi=>by omega⟩
   ·rw[if_neg c];refine P3 (past _ (by omega) ?_);dsimp only;cases cb:dW O ky gf k g (h - sp) with
    | true=>rw[if_pos rfl];exact P7 ⟨rfl,rfl,rfl,la,sp,rfl,tW,ml,hb,λi hi=>mono i (h - sp) (by omega) (by omega) cb⟩
    | false=>rw[if_neg (by simp)];exact P7 ⟨rfl,rfl,_,_,rfl,by omega,by omega,by omega,cb⟩
  ·obtain⟨rfl,la,sp,rfl,tW,ml,Hr,hb⟩:=hI;rw[List.length_range'] at Hr;exact⟨rfl,rfl,la,sp,rfl,tW,ml,hb,λi hi=>by omega⟩
  obtain⟨rfl,rfl,la,sp,rfl,tW,ml,hb,nr⟩:=hI;have zL:∀i,h - la<=i->i < m->dW O ky gf k g i=false:=λi hi him=>uH (h - la) i (by omega) him hb
  dsimp only;refine P3 (kasC_range (c7 (λj r ai=>st=ai/\∃u v,r=(none,u,v)/\v<=m/\u<=v/\v - u + j<=m/\(∀i,i < u->dW O ky gf k g i=true)/\(∀i,v<=i->i < m->dW O ky gf k g i=false)) ⟨rfl,_,_,rfl,by omega,by omega,by omega,nr,zL⟩ (λj r ai x hj hI=>?_) (λr ai hI=>?_)))
  ·obtain⟨rfl,u,v,rfl,hv,KD,G9,h1,h2⟩:=hI;dsimp only;by_cases c:u>=v
   ·rw[if_pos c];have e:u=v:=by omega
    subst e;exact P7 ⟨rfl,P7 (q u hv h1 h2)⟩
   ·rw[if_neg c];have yt:u + (v - u) / 2 < v:=by omega
    refine P3 (past _ (by omega) ?_);dsimp only;cases cb:dW O ky gf k g (u + (v - u) / 2) with
    | true=>rw[if_pos rfl];exact P7 ⟨rfl,rfl,_,_,rfl,hv,by omega,by omega,λi hi=>mono i _ (by omega) (by omega) cb,h2⟩
    | false=>rw[if_neg (by simp)];exact P7 ⟨rfl,rfl,_,_,rfl,by omega,by omega,by omega,h1,λi hi him=>uH _ i hi him cb⟩
  ·obtain⟨rfl,u,v,rfl,hv,KD,G9,h1,h2⟩:=hI;have e:u=v:=by rw[List.length_range'] at G9;omega
   subst e;exact P7 (q u hv h1 h2)
end
section
variable {O:KeyOrd} {ky:Keyed->O.α}
def le (O:KeyOrd) (ky:Keyed->O.α) (x y:Keyed):Prop:=O.kle (ky x) (ky y)
def hU (O:KeyOrd) (ky:Keyed->O.α) (l:List Keyed):Prop:=l.Pairwise (le O ky)
structure MI (O:KeyOrd) (ky:Keyed->O.α) (la lb out:List Keyed) (i j:Nat):Prop where
 p:out.Perm (la.take i++lb.take j)
 s:hU O ky out
 a:∀x∈out,∀y∈la.drop i,le O ky x y
 b:∀x∈out,∀y∈lb.drop j,le O ky x y
theorem cZ {l:List Keyed} {i k:Nat}:l.drop i=(l.drop i).take k++l.drop (i + k):=by rw[<-List.drop_drop,List.take_append_drop]
def gG {l:List Keyed} {i k:Nat}:l.take (i + k)=l.take i++(l.drop i).take k:=by rw[List.take_add]
def MI.qd {la lb out:List Keyed} {i j k:Nat} (h:MI O ky la lb out i j) (sa:hU O ky la) (hk:∀x∈(la.drop i).take k,∀y∈lb.drop j,le O ky x y):MI O ky la lb (out++(la.drop i).take k) (i + k) j:=by
 have sd:hU O ky (la.drop i):=sa.sublist (List.drop_sublist _ _);rw[cZ (k:=k)] at sd;obtain⟨s1,s2,s3⟩:=List.pairwise_append.mp sd;have ET:∀y∈(la.drop i).take k,y∈la.drop i:=λy hy=>List.mem_of_mem_take hy
 have vh:∀y∈la.drop (i + k),y∈la.drop i:=λy hy=>by rw[cZ (k:=k)];exact Qv _ hy
 refine⟨?_,List.pairwise_append.mpr ⟨h.s,s1,λx hx y hy=>h.a x hx y (ET y hy)⟩,λx hx y hy=>?_,λx hx y hy=>?_⟩
 ·rw[gG];refine(h.p.append_right _).trans ?_;rw[Qd,Qd];exact List.Perm.append_left _ List.perm_append_comm
 ·rcases Ql.mp hx with hx | hx
  ·exact h.a x hx y (vh y hy)
  ·exact s3 x hx y hy
 ·rcases Ql.mp hx with hx | hx
  ·exact h.b x hx y hy
  ·exact hk x hx y hy
def MI.px {la lb out:List Keyed} {i j k:Nat} (h:MI O ky la lb out i j) (sb:hU O ky lb) (hk:∀x∈(lb.drop j).take k,∀y∈la.drop i,le O ky x y):MI O ky la lb (out++(lb.drop j).take k) i (j + k):=by
 have sd:hU O ky (lb.drop j):=sb.sublist (List.drop_sublist _ _);rw[cZ (k:=k)] at sd;obtain⟨s1,s2,s3⟩:=List.pairwise_append.mp sd;have ET:∀y∈(lb.drop j).take k,y∈lb.drop j:=λy hy=>List.mem_of_mem_take hy
 have vh:∀y∈lb.drop (j + k),y∈lb.drop j:=λy hy=>by rw[cZ (k:=k)];exact Qv _ hy
 refine⟨?_,List.pairwise_append.mpr ⟨h.s,s1,λx hx y hy=>h.b x hx y (ET y hy)⟩,λx hx y hy=>?_,λx hx y hy=>?_⟩
 ·rw[gG];refine(h.p.append_right _).trans ?_;rw[Qd]
 ·rcases Ql.mp hx with hx | hx
  ·exact h.a x hx y hy
  ·exact hk x hx y hy
 ·rcases Ql.mp hx with hx | hx
  ·exact h.b x hx y (vh y hy)
  ·exact s3 x hx y hy
def sO (O:KeyOrd) (ky:Keyed->O.α) (la lb out:List Keyed):Prop:=out.Perm (la++lb)/\hU O ky out
def MI.ue {la lb out:List Keyed} {i j:Nat} (h:MI O ky la lb out i j) (sa:hU O ky la) (hj:lb.length<=j):sO O ky la lb (out++la.drop i++lb.drop j):=by have e:lb.drop j=[]:=List.drop_of_length_le hj;have e2:lb.take j=lb:=List.take_of_length_le hj;rw[e,QC];refine⟨?_,List.pairwise_append.mpr ⟨h.s,sa.sublist (List.drop_sublist _ _),h.a⟩⟩;refine(h.p.append_right _).trans ?_;rw[e2,Qd];refine(List.Perm.append_left _ List.perm_append_comm).trans ?_;rw[<-Qd,List.take_append_drop]
def MI.GF {la lb out:List Keyed} {i j:Nat} (h:MI O ky la lb out i j) (sb:hU O ky lb) (hi:la.length<=i):sO O ky la lb (out++la.drop i++lb.drop j):=by have e:la.drop i=[]:=List.drop_of_length_le hi;have e2:la.take i=la:=List.take_of_length_le hi;rw[e,QC];refine⟨?_,List.pairwise_append.mpr ⟨h.s,sb.sublist (List.drop_sublist _ _),h.b⟩⟩;refine(h.p.append_right _).trans ?_;rw[e2,Qd,List.take_append_drop]
def MI.tR {la lb out:List Keyed} {i j:Nat} (h:MI O ky la lb out i j) (sa:hU O ky la) (sb:hU O ky lb) (hl:∀x∈lb.drop j,∀y∈la.drop i,le O ky x y):sO O ky la lb (out++lb.drop j++la.drop i):=by
 refine⟨?_,List.pairwise_append.mpr ⟨List.pairwise_append.mpr ⟨h.s,sb.sublist (List.drop_sublist _ _),h.b⟩,sa.sublist (List.drop_sublist _ _),λx hx y hy=>?_⟩⟩
 ·refine((h.p.append_right _).append_right _).trans ?_;rw[Qd (la.take i),List.take_append_drop];refine(List.perm_append_comm).trans ?_;rw[<-Qd];refine(List.Perm.append_right _ List.perm_append_comm).trans ?_;rw[List.take_append_drop]
 ·rcases Ql.mp hx with hx | hx
  ·exact h.a x hx y hy
  ·exact hl x hx y hy
def MI.start {la lb:List Keyed}:MI O ky la lb [] 0 0:=⟨by simp,List.Pairwise.nil,λx hx=>absurd hx (by simp),λx hx=>absurd hx (by simp)⟩
end
def CN:Array Keyed->Array Keyed->StateT SortSt Sem (Array Keyed):=sortPriv% PySem.Builtin.mergeLo
def setG:Nat->StateT SortSt Sem Unit:=sortPriv% PySem.Builtin.setMinGallop
abbrev GS:=Option (Array Keyed)×Array Keyed×Nat×Nat×Nat×Nat×Nat
abbrev SS:=Option (Array Keyed)×Array Keyed×Nat×Nat×Nat×Nat
abbrev OS:=Option (Array Keyed)×Array Keyed×Nat×Nat×Nat
def zS (x y o:Array Keyed) (i j:Nat):Array Keyed:=o++x.extract i x.size++y.extract j y.size
def vU (x y o:Array Keyed) (i j:Nat):Array Keyed:=o++y.extract j y.size++x.extract i x.size
def IV (x y o:Array Keyed) (i j mg ca cb:Nat):StateT SortSt Sem (ForInStep GS):=do
 let e<-elem' x i
 if (i + 1 + 1==x.size)=true then pure (.done (some (vU x y (o.push e) (i + 1) j),o.push e,i + 1,j,mg,ca,cb))
 else if (decide (ca < 7)&&decide (cb < 7))=true then pure (.done (none,o.push e,i + 1,j,mg,ca,cb))
 else pure (.yield (none,o.push e,i + 1,j,mg,ca,cb))
def Ju (x y o:Array Keyed) (i j mg ca qJ:Nat):StateT SortSt Sem (ForInStep GS):=do
 let e<-elem' y j
 if (j + 1==y.size)=true then pure (.done (some (zS x y (o.push e) i (j + 1)),o.push e,i,j + 1,mg,ca,qJ))
 else do
  let f<-elem' x i
  let r<-BW true f y (j + 1) (y.size - (j + 1)) 0
  match r with
  | some k=>
   if k > 0 then
    if (j + 1 + k==y.size)=true then pure (.done (some (zS x y (o.push e++y.extract (j + 1) (j + 1 + k)) i (j + 1 + k)),o.push e++y.extract (j + 1) (j + 1 + k),i,j + 1 + k,mg,ca,k))
    else IV x y (o.push e++y.extract (j + 1) (j + 1 + k)) i (j + 1 + k) mg ca k
   else IV x y (o.push e) i (j + 1) mg ca k
  | _=>pure (.done (some (zS x y (o.push e) i (j + 1)),o.push e,i,j + 1,mg,ca,qJ))
def Ji (x y o:Array Keyed) (i j mg JN qJ:Nat):StateT SortSt Sem (ForInStep GS):=do
 setG mg
 let e<-elem' y j
 let r<-BW false e x i (x.size - i) 0
 match r with
 | some k=>
  if k > 0 then
   if (i + k + 1==x.size)=true then pure (.done (some (vU x y (o++x.extract i (i + k)) (i + k) j),o++x.extract i (i + k),i + k,j,mg,k,qJ))
   else if (i + k==x.size)=true then pure (.done (some (zS x y (o++x.extract i (i + k)) (i + k) j),o++x.extract i (i + k),i + k,j,mg,k,qJ))
   else Ju x y (o++x.extract i (i + k)) (i + k) j mg k qJ
  else Ju x y o i j mg k qJ
 | _=>pure (.done (some (zS x y o i j),o,i,j,mg,JN,qJ))
def JM (x y:Array Keyed) (mg:Nat) (r:SS):StateT SortSt Sem (ForInStep SS):=do
 let e<-elem' y r.2.2.2.1
 let f<-elem' x r.2.2.1
 let c<-lt' e f
 match c with
 | some yw=>
  if yw=true then do
   let e<-elem' y r.2.2.2.1
   if (r.2.2.2.1 + 1==y.size)=true then pure (.done (some (zS x y (r.2.1.push e) r.2.2.1 (r.2.2.2.1 + 1)),r.2.1.push e,r.2.2.1,r.2.2.2.1 + 1,0,r.2.2.2.2.2 + 1))
   else if r.2.2.2.2.2 + 1>=mg then pure (.done (none,r.2.1.push e,r.2.2.1,r.2.2.2.1 + 1,0,r.2.2.2.2.2 + 1))
   else pure (.yield (none,r.2.1.push e,r.2.2.1,r.2.2.2.1 + 1,0,r.2.2.2.2.2 + 1))
  else do
   let f<-elem' x r.2.2.1
   if (r.2.2.1 + 1 + 1==x.size)=true then pure (.done (some (vU x y (r.2.1.push f) (r.2.2.1 + 1) r.2.2.2.1),r.2.1.push f,r.2.2.1 + 1,r.2.2.2.1,r.2.2.2.2.1 + 1,0))
   else if r.2.2.2.2.1 + 1>=mg then pure (.done (none,r.2.1.push f,r.2.2.1 + 1,r.2.2.2.1,r.2.2.2.2.1 + 1,0))
   else pure (.yield (none,r.2.1.push f,r.2.2.1 + 1,r.2.2.2.1,r.2.2.2.2.1 + 1,0))
 | _=>pure (.done (some (zS x y r.2.1 r.2.2.1 r.2.2.2.1),r.2.1,r.2.2.1,r.2.2.2.1,r.2.2.2.2.1,r.2.2.2.2.2))
def DK (x y:Array Keyed) (r:OS):StateT SortSt Sem (ForInStep OS):=do
 let a<-forIn [:x.size + y.size] ((none,r.2.1,r.2.2.1,r.2.2.2.1,0,0):SS) λ_ a=>JM x y r.2.2.2.2 a
 match a.1 with
 | some v=>pure (.done (some v,a.2.1,a.2.2.1,a.2.2.2.1,r.2.2.2.2))
 | none=>do
  rule "list.sort.gallop"
  let b<-forIn [:x.size + y.size] ((none,a.2.1,a.2.2.1,a.2.2.2.1,r.2.2.2.2 + 1,a.2.2.2.2.1,a.2.2.2.2.2):GS) λ_ b=>
   if b.2.2.2.2.1 > 1 then Ji x y b.2.1 b.2.2.1 b.2.2.2.1 (b.2.2.2.2.1 - 1) b.2.2.2.2.2.1 b.2.2.2.2.2.2 else Ji x y b.2.1 b.2.2.1 b.2.2.2.1 b.2.2.2.2.1 b.2.2.2.2.2.1 b.2.2.2.2.2.2
  match b.1 with
  | some v=>pure (.done (some v,b.2.1,b.2.2.1,b.2.2.2.1,b.2.2.2.2.1))
  | none=>do
   setG (b.2.2.2.2.1 + 1)
   pure (.yield (none,b.2.1,b.2.2.1,b.2.2.2.1,b.2.2.2.2.1 + 1))
def MA (x y:Array Keyed):StateT SortSt Sem (Array Keyed):=do
 rule "list.sort.merge-lo"
 let e<-elem' y 0
 if (1==y.size)=true then pure (zS x y #[e] 0 1)
 else if (0 + 1==x.size)=true then pure (vU x y #[e] 0 1)
 else do
  let st<-get
  let r<-forIn [:x.size + y.size] ((none,#[e],0,1,gallopOf st):OS) λ_ r=>DK x y r
  match r.1 with
  | some a=>pure a
  | none=>unsupported "internal:list.sort.merge-bound"
def Ak (x y:Array Keyed):CN x y=MA x y:=by kernel_rfl
def jC (x:Array Keyed) (i:Nat):(x.extract i x.size).toList=x.toList.drop i:=by rw[Array.toList_extract];show (x.toList.drop i).take (x.size - i)=_;exact List.take_of_length_le (by rw[List.length_drop];simp)
def kU (x:Array Keyed) (i k:Nat):(x.extract i (i + k)).toList=(x.toList.drop i).take k:=by simp_all
def fB (x y o:Array Keyed) (i j:Nat):(zS x y o i j).toList=o.toList++x.toList.drop i++y.toList.drop j:=by unfold zS;rw[Array.toList_append,Array.toList_append,jC,jC]
def fX (x y o:Array Keyed) (i j:Nat):(vU x y o i j).toList=o.toList++y.toList.drop j++x.toList.drop i:=by unfold vU;rw[Array.toList_append,Array.toList_append,jC,jC]
def aG {x:Array Keyed} {i:Nat} (h:i < x.size):x[i]?=some (kas_item x i):=by unfold kas_item;simp[Array.getD,h]
def take_one {x:Array Keyed} {i:Nat} (h:i < x.size):(x.toList.drop i).take 1=[kas_item x i]:=by have e:x.toList.drop i=x.toList[i]'(by simpa using h)::x.toList.drop (i + 1):=List.drop_eq_getElem_cons (by simpa using h);rw[e];unfold kas_item;simp[Array.getD,h]
def fW {x o:Array Keyed} {i:Nat} (h:i < x.size):(o.push (kas_item x i)).toList=o.toList++(x.toList.drop i).take 1:=by rw[take_one h];simp
section
variable {O:KeyOrd} {ky:Keyed->O.α} {Mem:Keyed->Prop}
def cK {x:Array Keyed} (sx:hU O ky x.toList) {i j:Nat} (gj:i<=j) (hj:j < x.size):le O ky (kas_item x i) (kas_item x j):=by
 have e:∀k,(h:k < x.size)->kas_item x k=x.toList[k]'(by simpa using h):=λk h=>by unfold kas_item;simp[Array.getD,h]
 rw[e i (by omega),e j hj];by_cases c:i=j
 ·subst c;exact KeyOrd.kle_refl _
 ·exact List.pairwise_iff_getElem.mp sx i j (by simpa using (show i < x.size by omega)) (by simpa using hj) (by omega)
def cv {x:Array Keyed} {i:Nat} {e:Keyed} (h:e∈x.toList.drop i):∃k,i<=k/\k < x.size/\e=kas_item x k:=by
 obtain⟨k,hk,rfl⟩:=List.getElem_of_mem h;rw[List.length_drop] at hk;have wo:i + k < x.size:=by simp at hk;omega
 refine⟨i + k,by omega,wo,?_⟩;rw[List.getElem_drop];unfold kas_item;simp[Array.getD,wo]
def aW {x:Array Keyed} {i n:Nat} {e:Keyed} (h:e∈(x.toList.drop i).take n):∃k,i<=k/\k < i + n/\k < x.size/\e=kas_item x k:=by
 obtain⟨k,hk,rfl⟩:=List.getElem_of_mem h;rw[List.length_take,List.length_drop] at hk;have wo:i + k < x.size:=by simp at hk;omega
 refine⟨i + k,by omega,by omega,wo,?_⟩;rw[List.getElem_take,List.getElem_drop];unfold kas_item;simp[Array.getD,wo]
structure MP (O:KeyOrd) (ky:Keyed->O.α) (Mem:Keyed->Prop) (x y:Array Keyed):Prop where
 sa:hU O ky x.toList
 sb:hU O ky y.toList
 ma:∀i,i < x.size->Mem (kas_item x i)
 mb:∀i,i < y.size->Mem (kas_item y i)
 pa:1<=x.size
 pb:1<=y.size
 first:O.blt (ky (kas_item y 0)) (ky (kas_item x 0))=true
 last:∀j,j < y.size->O.blt (ky (kas_item y j)) (ky (kas_item x (x.size - 1)))=true
def MP.lst {x y:Array Keyed} (h:MP O ky Mem x y) {i j:Nat} (hi:i + 1=x.size):∀e∈y.toList.drop j,∀f∈x.toList.drop i,le O ky e f:=λe he f hf=>by
 obtain⟨k,_,k2,rfl⟩:=cv he;obtain⟨l,l1,l2,rfl⟩:=cv hf;have:l=x.size - 1:=by omega
 subst this;exact KeyOrd.kle_of_klt (h.last k k2)
structure Be (O:KeyOrd) (ky:Keyed->O.α) (x y o:Array Keyed) (i j:Nat):Prop where
 m:MI O ky x.toList y.toList o.toList i j
 i1:i + 1 < x.size
 j1:j < y.size
def GP (O:KeyOrd) (ky:Keyed->O.α) (x y:Array Keyed) (n:Nat) (v:Option (Array Keyed)) (o:Array Keyed) (i j:Nat):Prop:=(∃a,v=some a/\sO O ky x.toList y.toList a.toList)\/(v=none/\Be O ky x y o i j/\n<=i + j)
def SI (df st:SortSt):Prop:=kindOf st=kindOf df/\arrOf st=arrOf df/\pendingOf st=pendingOf df/\failedOf st=failedOf df
def SI.refl (st:SortSt):SI st st:=⟨rfl,rfl,rfl,rfl⟩
def SI.trans {a b c:SortSt} (h:SI a b) (g:SI b c):SI a c:=⟨g.1.trans h.1,g.2.1.trans h.2.1,g.2.2.1.trans h.2.2.1,g.2.2.2.trans h.2.2.2⟩
variable {prog:Program} {w:World} {A:Around} {E:Value->Shared->Prop} {κ:SortKind} {s:Shared}
def jJ {g:Nat} {st:SortSt} {Q:Unit->SortSt->Shared->Prop} (h:∀ai,SI st ai->Q () ai s):kasC (model prog w) A E (setG g) Q st s:=by
 have e:setG g=modify λt=>SortSt.mk' (kindOf t) (arrOf t) (pendingOf t) g (failedOf t):=by kernel_rfl
 rw[e];exact kasC_modify (h _ ⟨rfl,rfl,rfl,rfl⟩)
def zB (O:KeyOrd) (ky:Keyed->O.α) (x y:Array Keyed) (n:Nat):ForInStep GS->Prop
 | .done r=>GP O ky x y n r.1 r.2.1 r.2.2.1 r.2.2.2.1
 | .yield r=>r.1=none/\GP O ky x y n r.1 r.2.1 r.2.2.1 r.2.2.2.1
def xU {x y o:Array Keyed} (M:MP O ky Mem x y) {i j mg ca cb n:Nat} (h:MI O ky x.toList y.toList o.toList i j) (hi:i + 1 < x.size) (hj:j < y.size) (hk:∀l,j<=l->l < y.size->le O ky (kas_item x i) (kas_item y l)) (hn:n<=i + 1 + j) {st:SortSt} {Q:ForInStep GS->SortSt->Shared->Prop}
  (q:∀r,zB O ky x y n r->Q r st s):kasC (model prog w) A E (IV x y o i j mg ca cb) Q st s:=by
 unfold IV;refine P3 (aS (aG (by omega)) ?_);have m1:=h.qd (k:=1) M.sa (λe he f hf=>by
  obtain⟨a,a1,a2,a3,rfl⟩:=aW he;obtain⟨b,b1,b2,rfl⟩:=cv hf;have:a=i:=by omega
  subst this;exact hk b b1 b2)
 rw[<-fW (x:=x) (by omega)] at m1;by_cases c:(i + 1 + 1==x.size)=true
 ·rw[if_pos c];have c':i + 1 + 1=x.size:=by simpa using c
  refine P7 (q _ (.inl ⟨_,rfl,?_⟩));rw[fX];exact m1.tR M.sa M.sb (M.lst c')
 ·rw[if_neg c];have c':¬i + 1 + 1=x.size:=by simpa using c
  have g:GP O ky x y n none (o.push (kas_item x i)) (i + 1) j:= .inr ⟨rfl,⟨m1,by omega,hj⟩,by omega⟩;by_cases d:(decide (ca < 7)&&decide (cb < 7))=true
  ·rw[if_pos d];exact P7 (q _ g)
  ·rw[if_neg d];exact P7 (q _ ⟨rfl,g⟩)
def yX (T:Tells prog w A κ s O ky Mem) {x y o:Array Keyed} (M:MP O ky Mem x y) {i j mg ca cb n:Nat} (h:MI O ky x.toList y.toList o.toList i j) (hi:i + 1 < x.size) (hj:j < y.size) (hk:∀l,i<=l->l < x.size->le O ky (kas_item y j) (kas_item x l)) (hn:n<=i + j + 1) {st:SortSt} (hs:kindOf st=κ)
  {Q:ForInStep GS->SortSt->Shared->Prop} (q:∀r,zB O ky x y n r->Q r st s):kasC (model prog w) A E (Ju x y o i j mg ca cb) Q st s:=by
 unfold Ju;refine P3 (aS (aG hj) ?_);have m1:=h.px (k:=1) M.sb (λe he f hf=>by
  obtain⟨a,a1,a2,a3,rfl⟩:=aW he;obtain⟨b,b1,b2,rfl⟩:=cv hf;have:a=j:=by omega
  subst this;exact hk b b1 b2)
 rw[<-fW (x:=y) hj] at m1;by_cases c:(j + 1==y.size)=true
 ·rw[if_pos c];have c':j + 1=y.size:=by simpa using c
  refine P7 (q _ (.inl ⟨_,rfl,?_⟩));rw[fB];exact m1.ue M.sa (by simp;omega)
 ·rw[if_neg c];have c':¬j + 1=y.size:=by simpa using c
  refine P3 (aS (aG (by omega)) (P3 ?_));refine iU T (λt=>kas_item y (j + 1 + t)) (λt ht=>aG (by omega)) (λt ht=>M.mb _ (by omega)) (M.ma i (by omega)) (by omega) (λa b gI hb qH=>?_) hs (λk hk1 cQ iP=>?_)
  ·unfold dW at qH ⊢;rw[if_pos rfl] at qH ⊢;have:=cK M.sb (show j + 1 + a<=j + 1 + b by omega) (by omega);exact KeyOrd.klt_of_kle_of_klt this qH
  ·have lo:∀t,t < k->O.blt (ky (kas_item y (j + 1 + t))) (ky (kas_item x i))=true:=λt ht=>by have:=cQ t ht;unfold dW at this;rw[if_pos rfl] at this;exact this
   have vG:∀l,j + 1 + k<=l->l < y.size->le O ky (kas_item x i) (kas_item y l):=λl cO dh=>by have z:=iP (l - (j + 1)) (by omega) (by omega);unfold dW at z;rw[if_pos rfl] at z;have z2:O.blt (ky (kas_item y (j + 1 + (l - (j + 1))))) (ky (kas_item x i))=false:=z;rw[show j + 1 + (l - (j + 1))=l by omega] at z2;exact z2
   dsimp only;by_cases k0:k > 0
   ·rw[if_pos k0];have m2:=m1.px (k:=k) M.sb (λe he f hf=>by
     obtain⟨a,a1,a2,a3,rfl⟩:=aW he;obtain⟨b,b1,b2,rfl⟩:=cv hf;have h1:=lo (a - (j + 1)) (by omega);rw[show j + 1 + (a - (j + 1))=a by omega] at h1;exact Qq (KeyOrd.kle_of_klt h1) (cK M.sa b1 b2))
    rw[<-kU,<-Array.toList_append] at m2;by_cases d:(j + 1 + k==y.size)=true
    ·rw[if_pos d];have d':j + 1 + k=y.size:=by simpa using d
     refine P7 (q _ (.inl ⟨_,rfl,?_⟩));rw[fB];exact m2.ue M.sa (by simp;omega)
    ·rw[if_neg d];have d':¬j + 1 + k=y.size:=by simpa using d
     exact xU M m2 hi (by omega) vG (by omega) q
   ·rw[if_neg k0];have:k=0:=by omega
    subst this;exact xU M m1 hi (by omega) vG (by omega) q
def wG (T:Tells prog w A κ s O ky Mem) {x y o:Array Keyed} (M:MP O ky Mem x y) {i j mg ca cb n:Nat} (h:Be O ky x y o i j) (hn:n<=i + j) {df st:SortSt} (hs:kindOf st=κ) (lF:SI df st)
  {Q:ForInStep GS->SortSt->Shared->Prop} (q:∀r ai,SI df ai->zB O ky x y n r->Q r ai s):kasC (model prog w) A E (Ji x y o i j mg ca cb) Q st s:=by
 unfold Ji;have hi:=h.i1;have hj:=h.j1;refine P3 (jJ λnK h1=>?_);have zT:kindOf nK=κ:=h1.1.trans hs;have q':=λr=>q r nK (lF.trans h1)
 refine P3 (aS (aG hj) (P3 ?_));refine iU T (λt=>kas_item x (i + t)) (λt ht=>aG (by omega)) (λt ht=>M.ma _ (by omega)) (M.mb j hj) (by omega) (λa b gI hb qH=>?_) zT (λk hk1 cQ iP=>?_)
 ·unfold dW at qH ⊢;rw[if_neg (by simp)] at qH ⊢;have:=cK M.sa (show i + a<=i + b by omega) (by omega);cases z:O.blt (ky (kas_item y j)) (ky (kas_item x (i + a))) with
  | false=>rfl
  | true=>have z2:O.blt (ky (kas_item y j)) (ky (kas_item x (i + b)))=true:=KeyOrd.klt_of_klt_of_kle z this;have yU:(!O.blt (ky (kas_item y j)) (ky (kas_item x (i + b))))=true:=qH;rw[z2] at yU;cases yU
 ·have lo:∀t,t < k->le O ky (kas_item x (i + t)) (kas_item y j):=λt ht=>by have z:=cQ t ht;unfold dW at z;rw[if_neg (by simp)] at z;have z2:(!O.blt (ky (kas_item y j)) (ky (kas_item x (i + t))))=true:=z;show O.blt (ky (kas_item y j)) (ky (kas_item x (i + t)))=false;simpa using z2
  have vG:∀l,i + k<=l->l < x.size->le O ky (kas_item y j) (kas_item x l):=λl cO dh=>by
   have z:=iP (l - i) (by omega) (by omega);unfold dW at z;rw[if_neg (by simp)] at z;have z2:(!O.blt (ky (kas_item y j)) (ky (kas_item x (i + (l - i)))))=false:=z;rw[show i + (l - i)=l by omega] at z2;have z3:O.blt (ky (kas_item y j)) (ky (kas_item x l))=true:=by simpa using z2
   exact KeyOrd.kle_of_klt z3
  dsimp only;by_cases k0:k > 0
  ·rw[if_pos k0];have m2:=h.m.qd (k:=k) M.sa (λe he f hf=>by
    obtain⟨a,a1,a2,a3,rfl⟩:=aW he;obtain⟨b,b1,b2,rfl⟩:=cv hf;have h1:=lo (a - i) (by omega);rw[show i + (a - i)=a by omega] at h1;exact Qq h1 (cK M.sb b1 b2))
   rw[<-kU,<-Array.toList_append] at m2;by_cases c:(i + k + 1==x.size)=true
   ·rw[if_pos c];have c':i + k + 1=x.size:=by simpa using c
    refine P7 (q' _ (.inl ⟨_,rfl,?_⟩));rw[fX];exact m2.tR M.sa M.sb (M.lst c')
   ·rw[if_neg c];have c':¬i + k + 1=x.size:=by simpa using c
    by_cases d:(i + k==x.size)=true
    ·rw[if_pos d];have d':i + k=x.size:=by simpa using d
     refine P7 (q' _ (.inl ⟨_,rfl,?_⟩));rw[fB];exact m2.GF M.sb (by simp;omega)
    ·rw[if_neg d];have d':¬i + k=x.size:=by simpa using d
     exact yX T M m2 (by omega) hj vG (by omega) zT q'
  ·rw[if_neg k0];have:k=0:=by omega
   subst this;exact yX T M h.m hi hj vG (by omega) zT q'
end
section
variable {O:KeyOrd} {ky:Keyed->O.α} {Mem:Keyed->Prop}
variable {prog:Program} {w:World} {A:Around} {E:Value->Shared->Prop} {κ:SortKind} {s:Shared}
def SStep (O:KeyOrd) (ky:Keyed->O.α) (x y:Array Keyed) (n:Nat):ForInStep SS->Prop
 | .done r=>GP O ky x y n r.1 r.2.1 r.2.2.1 r.2.2.2.1
 | .yield r=>r.1=none/\GP O ky x y n r.1 r.2.1 r.2.2.1 r.2.2.2.1
def GP.none {x y:Array Keyed} {n:Nat} {v:Option (Array Keyed)} {o:Array Keyed} {i j:Nat} (h:GP O ky x y n v o i j) (hv:v=none):Be O ky x y o i j/\n<=i + j:=by
 rcases h with ⟨a,e,_⟩ | ⟨_,h⟩
 ·rw[hv] at e;cases e
 ·exact h
def DI (T:Tells prog w A κ s O ky Mem) {x y:Array Keyed} (M:MP O ky Mem x y) {mg:Nat} {r:SS} (h:Be O ky x y r.2.1 r.2.2.1 r.2.2.2.1) {n:Nat} (hn:n<=r.2.2.1 + r.2.2.2.1 + 1) {st:SortSt} (hs:kindOf st=κ)
  {Q:ForInStep SS->SortSt->Shared->Prop} (q:∀r',SStep O ky x y n r'->Q r' st s):kasC (model prog w) A E (JM x y mg r) Q st s:=by
 obtain⟨v,o,i,j,ca,cb⟩:=r;have hi:i + 1 < x.size:=h.i1;have hj:j < y.size:=h.j1;have hm:MI O ky x.toList y.toList o.toList i j:=h.m;dsimp only at hn;unfold JM;dsimp only;refine P3 (aS (aG hj) (P3 (aS (aG (by omega)) (P3 (qi T (M.mb j hj) (M.ma i (by omega)) hs ?_)))));dsimp only;cases c:O.blt (ky (kas_item y j)) (ky (kas_item x i)) with
 | true=>
  rw[if_pos rfl];refine P3 (aS (aG hj) ?_);have m1:=hm.px (k:=1) M.sb (λe he f hf=>by
   obtain⟨a,a1,a2,a3,rfl⟩:=aW he;obtain⟨b,b1,b2,rfl⟩:=cv hf;have:a=j:=by omega
   subst this;exact Qq (KeyOrd.kle_of_klt c) (cK M.sa b1 b2))
  rw[<-fW (x:=y) hj] at m1;by_cases d:(j + 1==y.size)=true
  ·rw[if_pos d];have d':j + 1=y.size:=by simpa using d
   refine P7 (q _ (.inl ⟨_,rfl,?_⟩));rw[fB];exact m1.ue M.sa (by simp;omega)
  ·rw[if_neg d];have d':¬j + 1=y.size:=by simpa using d
   have g:GP O ky x y n none (o.push (kas_item y j)) i (j + 1):= .inr ⟨rfl,⟨m1,hi,by omega⟩,by omega⟩;by_cases e:cb + 1>=mg
   ·rw[if_pos e];exact P7 (q _ g)
   ·rw[if_neg e];exact P7 (q _ ⟨rfl,g⟩)
 | false=>
  rw[if_neg (by simp)];refine P3 (aS (aG (by omega)) ?_);have m1:=hm.qd (k:=1) M.sa (λe he f hf=>by
   obtain⟨a,a1,a2,a3,rfl⟩:=aW he;obtain⟨b,b1,b2,rfl⟩:=cv hf;have:a=i:=by omega
   subst this;exact Qq (show O.kle (ky (kas_item x a)) (ky (kas_item y j)) from c) (cK M.sb b1 b2))
  rw[<-fW (x:=x) (by omega)] at m1;by_cases d:(i + 1 + 1==x.size)=true
  ·rw[if_pos d];have d':i + 1 + 1=x.size:=by simpa using d
   refine P7 (q _ (.inl ⟨_,rfl,?_⟩));rw[fX];exact m1.tR M.sa M.sb (M.lst d')
  ·rw[if_neg d];have d':¬i + 1 + 1=x.size:=by simpa using d
   have g:GP O ky x y n none (o.push (kas_item x i)) (i + 1) j:= .inr ⟨rfl,⟨m1,by omega,hj⟩,by omega⟩;by_cases e:ca + 1>=mg
   ·rw[if_pos e];exact P7 (q _ g)
   ·rw[if_neg e];exact P7 (q _ ⟨rfl,g⟩)
def Gr (O:KeyOrd) (ky:Keyed->O.α) (x y:Array Keyed) (n:Nat):ForInStep OS->Prop
 | .done r=>∃a,r.1=some a/\sO O ky x.toList y.toList a.toList
 | .yield r=>r.1=none/\Be O ky x y r.2.1 r.2.2.1 r.2.2.2.1/\n<=r.2.2.1 + r.2.2.2.1
def Au (T:Tells prog w A κ s O ky Mem) {x y:Array Keyed} (M:MP O ky Mem x y) {r:OS} (h:Be O ky x y r.2.1 r.2.2.1 r.2.2.2.1) {n:Nat} (hn:n<=r.2.2.1 + r.2.2.2.1) {df st:SortSt} (hs:kindOf st=κ) (lF:SI df st)
  {Q:ForInStep OS->SortSt->Shared->Prop} (q:∀r' ai,SI df ai->Gr O ky x y (n + 1) r'->Q r' ai s):kasC (model prog w) A E (DK x y r) Q st s:=by
 unfold DK;have hp:=M.pa;refine P3 (bL (Q:=λa ai s'=>st=ai/\s=s'/\GP O ky x y (n + 1) a.1 a.2.1 a.2.2.1 a.2.2.2.1) (kasC_range (c7 (λjj a ai=>st=ai/\a.1=none/\Be O ky x y a.2.1 a.2.2.1 a.2.2.2.1/\n + jj<=a.2.2.1 + a.2.2.2.1) ⟨rfl,rfl,h,by simpa using hn⟩ (λjj a ai z hj hI=>?_) (λa ai hI=>?_))) (λa ai s' hI=>?_))
 ·obtain⟨rfl,a0,Et,an⟩:=hI;refine DI T M Et (n:=n + jj + 1) (by omega) hs (λr' cX=>⟨rfl,?_⟩);cases r' with
  | done b=>
   refine⟨rfl,rfl,?_⟩;rcases cX with ⟨v,e,m⟩ | ⟨e,ok,l⟩
   ·exact .inl ⟨v,e,m⟩
   ·exact .inr ⟨e,ok,by omega⟩
  | yield b=>obtain⟨b0,gb⟩:=cX;obtain⟨ok,l⟩:=gb.none b0;exact⟨rfl,b0,ok,by omega⟩
 ·obtain⟨rfl,a0,Et,an⟩:=hI;rw[List.length_range'] at an;exact⟨rfl,rfl,.inr ⟨a0,Et,by omega⟩⟩
 obtain⟨rfl,rfl,ga⟩:=hI;rcases ga with ⟨v,e,m⟩ | ⟨e,ok,l⟩
 ·rw[e];exact P7 (q _ _ lF ⟨v,rfl,m⟩)
 ·rw[e];refine P3 (kasC_lift (wpAny_rule ?_));refine P3 (bL (Q:=λb ai s'=>SI df ai/\s=s'/\GP O ky x y (n + 1) b.1 b.2.1 b.2.2.1 b.2.2.2.1) (kasC_range (c7 (λjj b ai=>SI df ai/\kindOf ai=κ/\b.1=none/\Be O ky x y b.2.1 b.2.2.1 b.2.2.2.1/\n + 1<=b.2.2.1 + b.2.2.2.1) ⟨lF,hs,rfl,ok,l⟩ (λjj b ai z hj hI=>?_) (λb ai hI=>?_))) (λb ai s' hI=>?_))
  ·obtain⟨si,ks,b0,Bf,bn⟩:=hI;have kk:∀dQ,SI df dQ->kindOf dQ=κ:=λdQ h2=>(h2.1.trans si.1.symm).trans ks
   by_cases c:b.2.2.2.2.1 > 1
   ·rw[if_pos c];refine wG T M Bf bn ks si (λr' dQ h2 cX=>⟨rfl,?_⟩);cases r' with
    | done b'=>exact⟨h2,rfl,cX⟩
    | yield b'=>obtain⟨c0,gc⟩:=cX;obtain⟨Ep,l'⟩:=gc.none c0;exact⟨h2,kk dQ h2,c0,Ep,l'⟩
   ·rw[if_neg c];refine wG T M Bf bn ks si (λr' dQ h2 cX=>⟨rfl,?_⟩);cases r' with
    | done b'=>exact⟨h2,rfl,cX⟩
    | yield b'=>obtain⟨c0,gc⟩:=cX;obtain⟨Ep,l'⟩:=gc.none c0;exact⟨h2,kk dQ h2,c0,Ep,l'⟩
  ·obtain⟨si,ks,b0,Bf,bn⟩:=hI;exact⟨si,rfl,.inr ⟨b0,Bf,bn⟩⟩
  obtain⟨si,rfl,gb⟩:=hI;rcases gb with ⟨v,e2,m⟩ | ⟨e2,LN,l2⟩
  ·rw[e2];exact P7 (q _ _ si ⟨v,rfl,m⟩)
  ·rw[e2];exact P3 (jJ λdQ h2=>P7 (q _ _ (si.trans h2) ⟨rfl,LN,l2⟩))
def zZ (T:Tells prog w A κ s O ky Mem) {x y:Array Keyed} (M:MP O ky Mem x y) {st:SortSt} (hs:kindOf st=κ) {Q:Array Keyed->SortSt->Shared->Prop} (q:∀v ai,SI st ai->sO O ky x.toList y.toList v.toList->Q v ai s):kasC (model prog w) A E (CN x y) Q st s:=by
 rw[Ak];unfold MA;have hp:=M.pa;have hq:=M.pb;refine P3 (kasC_lift (wpAny_rule ?_));refine P3 (aS (aG (by omega)) ?_);have m1:=(MI.start (O:=O) (ky:=ky) (la:=x.toList) (lb:=y.toList)).px (k:=1) M.sb (λe he f hf=>by
  obtain⟨a,a1,a2,a3,rfl⟩:=aW he;obtain⟨b,b1,b2,rfl⟩:=cv hf;have:a=0:=by omega
  subst this;exact Qq (KeyOrd.kle_of_klt M.first) (cK M.sa (Nat.zero_le b) b2))
 have e0:(#[kas_item y 0]:Array Keyed).toList=[]++(y.toList.drop 0).take 1:=by rw[take_one (by omega)];rfl
 rw[<-e0,Nat.zero_add] at m1;by_cases c:(1==y.size)=true
 ·rw[if_pos c];have c':1=y.size:=by simpa using c
  refine P7 (q _ _ (SI.refl _) ?_);rw[fB];exact m1.ue M.sa (by simp;omega)
 ·rw[if_neg c];have c':¬1=y.size:=by simpa using c
  by_cases d:(0 + 1==x.size)=true
  ·rw[if_pos d];have d':0 + 1=x.size:=by simpa using d
   refine P7 (q _ _ (SI.refl _) ?_);rw[fX];exact m1.tR M.sa M.sb (M.lst d')
  ·rw[if_neg d];have d':¬0 + 1=x.size:=by simpa using d
   refine P3 (kasC_get ?_);refine P3 (bL (Q:=λr ai s'=>SI st ai/\s=s'/\∃a,r.1=some a/\sO O ky x.toList y.toList a.toList) (kasC_range (c7 (λjj r ai=>SI st ai/\r.1=none/\Be O ky x y r.2.1 r.2.2.1 r.2.2.2.1/\jj + 1<=r.2.2.1 + r.2.2.2.1) ⟨SI.refl _,rfl,⟨m1,(show 0 + 1 < x.size by omega),(show 1 < y.size by omega)⟩,by simp⟩ (λjj r ai z hj hI=>?_) (λr ai hI=>?_))) (λr ai s' hI=>?_))
   ·obtain⟨si,r0,BE,rn⟩:=hI;refine Au T M BE rn (si.1.trans hs) si (λr' dQ h2 cX=>⟨rfl,?_⟩);cases r' with
    | done b=>exact⟨h2,rfl,cX⟩
    | yield b=>exact⟨h2,cX.1,cX.2.1,cX.2.2⟩
   ·obtain⟨si,r0,BE,rn⟩:=hI;rw[List.length_range'] at rn;have h1:=BE.i1;have h2:=BE.j1;omega
   obtain⟨si,rfl,a,e,m⟩:=hI;rw[e];exact P7 (q _ _ si m)
end
section
variable {O:KeyOrd} {ky:Keyed->O.α}
structure HI (O:KeyOrd) (ky:Keyed->O.α) (la lb R:List Keyed) (i j:Nat):Prop where
 p:R.Perm (la.drop i++lb.drop j)
 s:hU O ky R
 a:∀x∈la.take i,∀y∈R,le O ky x y
 b:∀x∈lb.take j,∀y∈R,le O ky x y
def f6 {l:List Keyed} {i k:Nat} (h:k<=i):l.take i=l.take k++(l.drop k).take (i - k):=by have:=gG (l:=l) (i:=k) (k:=i - k);rw[show k + (i - k)=i by omega] at this;exact this
def lp {l:List Keyed} {i k:Nat} (h:k<=i):l.drop k=(l.drop k).take (i - k)++l.drop i:=by grind [cZ]
def HI.qd {la lb R:List Keyed} {i k j:Nat} (h:HI O ky la lb R i j) (hk:k<=i) (sa:hU O ky la) (hb:∀e∈(la.drop k).take (i - k),∀y∈lb.take j,le O ky y e):HI O ky la lb ((la.drop k).take (i - k)++R) k j:=by
 have st:hU O ky (la.take i):=sa.sublist (List.take_sublist _ _);rw[f6 hk] at st;obtain⟨s1,s2,s3⟩:=List.pairwise_append.mp st;have m1:∀y∈(la.drop k).take (i - k),y∈la.take i:=λy hy=>by rw[f6 hk];exact Qv _ hy
 have m2:∀y∈la.take k,y∈la.take i:=λy hy=>by rw[f6 hk];exact List.mem_append_left _ hy
 refine⟨?_,List.pairwise_append.mpr ⟨s2,h.s,λx hx y hy=>h.a x (m1 x hx) y hy⟩,λx hx y hy=>?_,λx hx y hy=>?_⟩
 ·refine(h.p.append_left _).trans ?_;rw[<-Qd,<-lp (l:=la) hk]
 ·rcases Ql.mp hy with hy | hy
  ·exact s3 x hx y hy
  ·exact h.a x (m2 x hx) y hy
 ·rcases Ql.mp hy with hy | hy
  ·exact hb y hy x hx
  ·exact h.b x hx y hy
def HI.px {la lb R:List Keyed} {i k j:Nat} (h:HI O ky la lb R i j) (hk:k<=j) (sb:hU O ky lb) (hb:∀e∈(lb.drop k).take (j - k),∀y∈la.take i,le O ky y e):HI O ky la lb ((lb.drop k).take (j - k)++R) i k:=by
 have st:hU O ky (lb.take j):=sb.sublist (List.take_sublist _ _);rw[f6 hk] at st;obtain⟨s1,s2,s3⟩:=List.pairwise_append.mp st;have m1:∀y∈(lb.drop k).take (j - k),y∈lb.take j:=λy hy=>by rw[f6 hk];exact Qv _ hy
 have m2:∀y∈lb.take k,y∈lb.take j:=λy hy=>by rw[f6 hk];exact List.mem_append_left _ hy
 refine⟨?_,List.pairwise_append.mpr ⟨s2,h.s,λx hx y hy=>h.b x (m1 x hx) y hy⟩,λx hx y hy=>?_,λx hx y hy=>?_⟩
 ·refine(h.p.append_left _).trans ?_;rw[<-Qd];refine(List.Perm.append_right _ List.perm_append_comm).trans ?_;rw[Qd,<-lp (l:=lb) hk]
 ·rcases Ql.mp hy with hy | hy
  ·exact hb y hy x hx
  ·exact h.a x hx y hy
 ·rcases Ql.mp hy with hy | hy
  ·exact s3 x hx y hy
  ·exact h.b x (m2 x hx) y hy
def HI.iY {la lb R:List Keyed} {i j:Nat} (h:HI O ky la lb R i j) (sa:hU O ky la) (sb:hU O ky lb) (hf:∀x∈lb.take j,∀y∈la.take i,le O ky x y):sO O ky la lb (lb.take j++la.take i++R):=by
 refine⟨?_,?_⟩
 ·refine(h.p.append_left _).trans ?_;rw[Qd,<-Qd (la.take i),List.take_append_drop];refine(List.perm_append_comm).trans ?_;rw[Qd];refine List.Perm.append_left _ ((List.perm_append_comm).trans ?_);rw[List.take_append_drop]
 ·refine List.pairwise_append.mpr ⟨List.pairwise_append.mpr ⟨sb.sublist (List.take_sublist _ _),sa.sublist (List.take_sublist _ _),hf⟩,h.s,λx hx y hy=>?_⟩;rcases Ql.mp hx with hx | hx
  ·exact h.b x hx y hy
  ·exact h.a x hx y hy
def HI.uc {la lb R:List Keyed} {j:Nat} (h:HI O ky la lb R 0 j) (sa:hU O ky la) (sb:hU O ky lb):sO O ky la lb (la.take 0++lb.take j++R):=by have:=h.iY sa sb (λx hx y hy=>absurd hy (by simp));simpa using this
def HI.Ey {la lb R:List Keyed} {i:Nat} (h:HI O ky la lb R i 0) (sa:hU O ky la) (sb:hU O ky lb):sO O ky la lb (la.take i++lb.take 0++R):=by have:=h.iY sa sb (λx hx y hy=>absurd hx (by simp));simpa using this
def HI.start {la lb:List Keyed}:HI O ky la lb [] la.length lb.length:=⟨by simp,List.Pairwise.nil,λx _ y hy=>absurd hy (by simp),λx _ y hy=>absurd hy (by simp)⟩
end
def EY:Array Keyed->Array Keyed->StateT SortSt Sem (Array Keyed):=sortPriv% PySem.Builtin.mergeHi
abbrev GH:=Option (Array Keyed)×Nat×Nat×Array Keyed×Nat×Nat×Nat
abbrev SH:=Option (Array Keyed)×Nat×Nat×Array Keyed×Nat×Nat
abbrev OH:=Option (Array Keyed)×Nat×Nat×Array Keyed×Nat
def lR (x y o:Array Keyed) (i j:Nat):Array Keyed:=x.extract 0 i++y.extract 0 j++o.reverse
def vE (x y o:Array Keyed) (i j:Nat):Array Keyed:=y.extract 0 j++x.extract 0 i++o.reverse
def Jz (x y o:Array Keyed) (i j mg ca cb:Nat):StateT SortSt Sem (ForInStep GH):=do
 let e<-elem' x (i - 1)
 if (i - 1==0)=true then pure (.done (some (lR x y (o.push e) (i - 1) j),i - 1,j,o.push e,mg,ca,cb))
 else if (decide (ca < 7)&&decide (cb < 7))=true then pure (.done (none,i - 1,j,o.push e,mg,ca,cb))
 else pure (.yield (none,i - 1,j,o.push e,mg,ca,cb))
def dh (x y o:Array Keyed) (i j mg ca qJ:Nat):StateT SortSt Sem (ForInStep GH):=do
 let e<-elem' y (j - 1)
 if (j - 1==1)=true then pure (.done (some (vE x y (o.push e) i (j - 1)),i,j - 1,o.push e,mg,ca,qJ))
 else do
  let f<-elem' x (i - 1)
  let r<-BW true f y 0 (j - 1) (j - 1 - 1)
  match r with
  | some k=>
   if j - 1 - k > 0 then
    if (k==1)=true then pure (.done (some (vE x y (o.push e++(y.extract k (j - 1)).reverse) i k),i,k,o.push e++(y.extract k (j - 1)).reverse,mg,ca,j - 1 - k))
    else if (k==0)=true then pure (.done (some (lR x y (o.push e++(y.extract k (j - 1)).reverse) i k),i,k,o.push e++(y.extract k (j - 1)).reverse,mg,ca,j - 1 - k))
    else Jz x y (o.push e++(y.extract k (j - 1)).reverse) i k mg ca (j - 1 - k)
   else Jz x y (o.push e) i (j - 1) mg ca (j - 1 - k)
  | _=>pure (.done (some (lR x y (o.push e) i (j - 1)),i,j - 1,o.push e,mg,ca,qJ))
def cO (x y o:Array Keyed) (i j mg JN qJ:Nat):StateT SortSt Sem (ForInStep GH):=do
 setG mg
 let e<-elem' y (j - 1)
 let r<-BW false e x 0 i (i - 1)
 match r with
 | some k=>
  if i - k > 0 then
   if (k==0)=true then pure (.done (some (lR x y (o++(x.extract k i).reverse) k j),k,j,o++(x.extract k i).reverse,mg,i - k,qJ))
   else dh x y (o++(x.extract k i).reverse) k j mg (i - k) qJ
  else dh x y o i j mg (i - k) qJ
 | _=>pure (.done (some (lR x y o i j),i,j,o,mg,JN,qJ))
def Kx (x y:Array Keyed) (mg:Nat) (r:SH):StateT SortSt Sem (ForInStep SH):=do
 let e<-elem' y (r.2.2.1 - 1)
 let f<-elem' x (r.2.1 - 1)
 let c<-lt' e f
 match c with
 | some xw=>
  if xw=true then do
   let f<-elem' x (r.2.1 - 1)
   if (r.2.1 - 1==0)=true then pure (.done (some (lR x y (r.2.2.2.1.push f) (r.2.1 - 1) r.2.2.1),r.2.1 - 1,r.2.2.1,r.2.2.2.1.push f,r.2.2.2.2.1 + 1,0))
   else if r.2.2.2.2.1 + 1>=mg then pure (.done (none,r.2.1 - 1,r.2.2.1,r.2.2.2.1.push f,r.2.2.2.2.1 + 1,0))
   else pure (.yield (none,r.2.1 - 1,r.2.2.1,r.2.2.2.1.push f,r.2.2.2.2.1 + 1,0))
  else do
   let e<-elem' y (r.2.2.1 - 1)
   if (r.2.2.1 - 1==1)=true then pure (.done (some (vE x y (r.2.2.2.1.push e) r.2.1 (r.2.2.1 - 1)),r.2.1,r.2.2.1 - 1,r.2.2.2.1.push e,0,r.2.2.2.2.2 + 1))
   else if r.2.2.2.2.2 + 1>=mg then pure (.done (none,r.2.1,r.2.2.1 - 1,r.2.2.2.1.push e,0,r.2.2.2.2.2 + 1))
   else pure (.yield (none,r.2.1,r.2.2.1 - 1,r.2.2.2.1.push e,0,r.2.2.2.2.2 + 1))
 | _=>pure (.done (some (lR x y r.2.2.2.1 r.2.1 r.2.2.1),r.2.1,r.2.2.1,r.2.2.2.1,r.2.2.2.2.1,r.2.2.2.2.2))
def Da (x y:Array Keyed) (r:OH):StateT SortSt Sem (ForInStep OH):=do
 let a<-forIn [:x.size + y.size] ((none,r.2.1,r.2.2.1,r.2.2.2.1,0,0):SH) λ_ a=>Kx x y r.2.2.2.2 a
 match a.1 with
 | some v=>pure (.done (some v,a.2.1,a.2.2.1,a.2.2.2.1,r.2.2.2.2))
 | none=>do
  rule "list.sort.gallop"
  let b<-forIn [:x.size + y.size] ((none,a.2.1,a.2.2.1,a.2.2.2.1,r.2.2.2.2 + 1,a.2.2.2.2.1,a.2.2.2.2.2):GH) λ_ b=>
   if b.2.2.2.2.1 > 1 then cO x y b.2.2.2.1 b.2.1 b.2.2.1 (b.2.2.2.2.1 - 1) b.2.2.2.2.2.1 b.2.2.2.2.2.2 else cO x y b.2.2.2.1 b.2.1 b.2.2.1 b.2.2.2.2.1 b.2.2.2.2.2.1 b.2.2.2.2.2.2
  match b.1 with
  | some v=>pure (.done (some v,b.2.1,b.2.2.1,b.2.2.2.1,b.2.2.2.2.1))
  | none=>do
   setG (b.2.2.2.2.1 + 1)
   pure (.yield (none,b.2.1,b.2.2.1,b.2.2.2.1,b.2.2.2.2.1 + 1))
def Ft (x y:Array Keyed):StateT SortSt Sem (Array Keyed):=do
 rule "list.sort.merge-hi"
 let e<-elem' x (x.size - 1)
 if (x.size - 1==0)=true then pure (lR x y #[e] (x.size - 1) y.size)
 else if (y.size==1)=true then pure (vE x y #[e] (x.size - 1) y.size)
 else do
  let st<-get
  let r<-forIn [:x.size + y.size] ((none,x.size - 1,y.size,#[e],gallopOf st):OH) λ_ r=>Da x y r
  match r.1 with
  | some a=>pure a
  | none=>unsupported "internal:list.sort.merge-bound"
def As (x y:Array Keyed):EY x y=Ft x y:=by kernel_rfl
def zp (x:Array Keyed) (i:Nat):(x.extract 0 i).toList=x.toList.take i:=by rw[Array.toList_extract];show (x.toList.drop 0).take (i - 0)=_;simp
def BA (x:Array Keyed) {k i:Nat}:(x.extract k i).toList=(x.toList.drop k).take (i - k):=by rw[Array.toList_extract]
def ez (x y o:Array Keyed) (i j:Nat):(lR x y o i j).toList=x.toList.take i++y.toList.take j++o.toList.reverse:=by simp_all [lR,zp]
def fS (x y o:Array Keyed) (i j:Nat):(vE x y o i j).toList=y.toList.take j++x.toList.take i++o.toList.reverse:=by simp_all [vE,zp]
def uo (x o:Array Keyed) (k i:Nat):(o++(x.extract k i).reverse).toList.reverse=(x.toList.drop k).take (i - k)++o.toList.reverse:=by simp_all
def iI {x o:Array Keyed} {i:Nat} (h1:1<=i) (h2:i<=x.size):(o.push (kas_item x (i - 1))).toList.reverse=(x.toList.drop (i - 1)).take (i - (i - 1))++o.toList.reverse:=by rw[show i - (i - 1)=1 by omega,take_one (by omega)];simp
section
variable {O:KeyOrd} {ky:Keyed->O.α} {Mem:Keyed->Prop}
variable {prog:Program} {w:World} {A:Around} {E:Value->Shared->Prop} {κ:SortKind} {s:Shared}
def eO {x:Array Keyed} {i:Nat} {e:Keyed} (h:e∈x.toList.take i):∃k,k < i/\k < x.size/\e=kas_item x k:=by
 have h':e∈(x.toList.drop 0).take i:=by simpa using h
 obtain⟨k,_,k1,k2,e⟩:=aW h';exact⟨k,by omega,k2,e⟩
structure BF (O:KeyOrd) (ky:Keyed->O.α) (x y o:Array Keyed) (i j:Nat):Prop where
 m:HI O ky x.toList y.toList o.toList.reverse i j
 i1:1<=i
 i2:i < x.size
 j1:2<=j
 j2:j<=y.size
def MP.fst {x y:Array Keyed} (h:MP O ky Mem x y) {i:Nat} (hi:i<=x.size):∀e∈y.toList.take 1,∀f∈x.toList.take i,le O ky e f:=λe he f hf=>by
 obtain⟨k,k1,k2,rfl⟩:=eO he;obtain⟨l,l1,l2,rfl⟩:=eO hf;have:k=0:=by omega
 subst this;exact Qq (KeyOrd.kle_of_klt h.first) (cK h.sa (Nat.zero_le l) l2)
def HP (O:KeyOrd) (ky:Keyed->O.α) (x y:Array Keyed) (n:Nat) (v:Option (Array Keyed)) (o:Array Keyed) (i j:Nat):Prop:=(∃a,v=some a/\sO O ky x.toList y.toList a.toList)\/(v=none/\BF O ky x y o i j/\i + j + n<=x.size + y.size)
def HP.none {x y:Array Keyed} {n:Nat} {v:Option (Array Keyed)} {o:Array Keyed} {i j:Nat} (h:HP O ky x y n v o i j) (hv:v=none):BF O ky x y o i j/\i + j + n<=x.size + y.size:=by
 rcases h with ⟨a,e,_⟩ | ⟨_,h⟩
 ·rw[hv] at e;cases e
 ·exact h
def wJ (O:KeyOrd) (ky:Keyed->O.α) (x y:Array Keyed) (n:Nat):ForInStep GH->Prop
 | .done r=>HP O ky x y n r.1 r.2.2.2.1 r.2.1 r.2.2.1
 | .yield r=>r.1=none/\HP O ky x y n r.1 r.2.2.2.1 r.2.1 r.2.2.1
def xa {x y o:Array Keyed} (M:MP O ky Mem x y) {i j mg ca cb n:Nat} (h:HI O ky x.toList y.toList o.toList.reverse i j) (hi:1<=i) (vG:i < x.size) (hj:2<=j) (wD:j<=y.size) (hk:∀l,l < j->le O ky (kas_item y l) (kas_item x (i - 1))) (hn:i - 1 + j + n<=x.size + y.size) {st:SortSt} {Q:ForInStep GH->SortSt->Shared->Prop}
  (q:∀r,wJ O ky x y n r->Q r st s):kasC (model prog w) A E (Jz x y o i j mg ca cb) Q st s:=by
 unfold Jz;refine P3 (aS (aG (by omega)) ?_);have m1:=h.qd (k:=i - 1) (by omega) M.sa (λe he f hf=>by
  obtain⟨a,a1,a2,a3,rfl⟩:=aW he;obtain⟨b,b1,b2,rfl⟩:=eO hf;have:a=i - 1:=by omega
  subst this;exact hk b b1)
 rw[<-iI (x:=x) hi (by omega)] at m1;by_cases c:(i - 1==0)=true
 ·rw[if_pos c];have c':i - 1=0:=by simpa using c
  refine P7 (q _ (.inl ⟨_,rfl,?_⟩));rw[ez];rw[c'] at m1 ⊢;exact m1.uc M.sa M.sb
 ·rw[if_neg c];have c':¬i - 1=0:=by simpa using c
  have g:HP O ky x y n none (o.push (kas_item x (i - 1))) (i - 1) j:= .inr ⟨rfl,⟨m1,by omega,by omega,hj,wD⟩,by omega⟩;by_cases d:(decide (ca < 7)&&decide (cb < 7))=true
  ·rw[if_pos d];exact P7 (q _ g)
  ·rw[if_neg d];exact P7 (q _ ⟨rfl,g⟩)
def wA (T:Tells prog w A κ s O ky Mem) {x y o:Array Keyed} (M:MP O ky Mem x y) {i j mg ca cb n:Nat} (h:HI O ky x.toList y.toList o.toList.reverse i j) (hi:1<=i) (vG:i < x.size) (hj:2<=j) (wD:j<=y.size) (hk:∀l,l < i->le O ky (kas_item x l) (kas_item y (j - 1))) (hn:i + (j - 1) + n<=x.size + y.size) {st:SortSt} (hs:kindOf st=κ)
  {Q:ForInStep GH->SortSt->Shared->Prop} (q:∀r,wJ O ky x y n r->Q r st s):kasC (model prog w) A E (dh x y o i j mg ca cb) Q st s:=by
 unfold dh;refine P3 (aS (aG (by omega)) ?_);have m1:=h.px (k:=j - 1) (by omega) M.sb (λe he f hf=>by
  obtain⟨a,a1,a2,a3,rfl⟩:=aW he;obtain⟨b,b1,b2,rfl⟩:=eO hf;have:a=j - 1:=by omega
  subst this;exact hk b b1)
 rw[<-iI (x:=y) (by omega) wD] at m1;by_cases c:(j - 1==1)=true
 ·rw[if_pos c];have c':j - 1=1:=by simpa using c
  refine P7 (q _ (.inl ⟨_,rfl,?_⟩));rw[fS];rw[c'] at m1 ⊢;exact m1.iY M.sa M.sb (M.fst (by omega))
 ·rw[if_neg c];have c':¬j - 1=1:=by simpa using c
  refine P3 (aS (aG (by omega)) (P3 ?_));refine iU T (λt=>kas_item y t) (λt ht=>by rw[Nat.zero_add];exact aG (by omega)) (λt ht=>M.mb _ (by omega)) (M.ma (i - 1) (by omega)) (by omega) (λa b gI hb qH=>?_) hs (λk hk1 cQ iP=>?_)
  ·unfold dW at qH ⊢;rw[if_pos rfl] at qH ⊢;have:=cK M.sb gI (by omega);exact KeyOrd.klt_of_kle_of_klt this qH
  ·have lo:∀t,t < k->le O ky (kas_item y t) (kas_item x (i - 1)):=λt ht=>by have z:=cQ t ht;unfold dW at z;rw[if_pos rfl] at z;exact KeyOrd.kle_of_klt z
   have up:∀t,k<=t->t < j - 1->le O ky (kas_item x (i - 1)) (kas_item y t):=λt h1 h2=>by have z:=iP t h1 h2;unfold dW at z;rw[if_pos rfl] at z;exact z
   dsimp only;by_cases k0:j - 1 - k > 0
   ·rw[if_pos k0];have m2:=m1.px (k:=k) (by omega) M.sb (λe he f hf=>by
     obtain⟨a,a1,a2,a3,rfl⟩:=aW he;obtain⟨b,b1,b2,rfl⟩:=eO hf;exact Qq (cK M.sa (show b<=i - 1 by omega) (by omega)) (up a a1 (by omega)))
    rw[<-uo] at m2;by_cases d:(k==1)=true
    ·rw[if_pos d];have d':k=1:=by simpa using d
     subst d';refine P7 (q _ (.inl ⟨_,rfl,?_⟩));rw[fS];exact m2.iY M.sa M.sb (M.fst (by omega))
    ·rw[if_neg d];have d':¬k=1:=by simpa using d
     by_cases e:(k==0)=true
     ·rw[if_pos e];have e':k=0:=by simpa using e
      subst e';refine P7 (q _ (.inl ⟨_,rfl,?_⟩));rw[ez];exact m2.Ey M.sa M.sb
     ·rw[if_neg e];have e':¬k=0:=by simpa using e
      exact xa M m2 hi vG (by omega) (by omega) lo (by omega) q
   ·rw[if_neg k0];exact xa M m1 hi vG (by omega) (by omega) (λl hl=>lo l (by omega)) (by omega) q
def yK (T:Tells prog w A κ s O ky Mem) {x y o:Array Keyed} (M:MP O ky Mem x y) {i j mg ca cb n:Nat} (h:BF O ky x y o i j) (hn:i + j + n<=x.size + y.size) {df st:SortSt} (hs:kindOf st=κ) (lF:SI df st)
  {Q:ForInStep GH->SortSt->Shared->Prop} (q:∀r ai,SI df ai->wJ O ky x y n r->Q r ai s):kasC (model prog w) A E (cO x y o i j mg ca cb) Q st s:=by
 unfold cO;have hi:=h.i1;have vG:=h.i2;have hj:=h.j1;have wD:=h.j2;refine P3 (jJ λnK h1=>?_);have zT:kindOf nK=κ:=h1.1.trans hs;have q':=λr=>q r nK (lF.trans h1)
 refine P3 (aS (aG (by omega)) (P3 ?_));refine iU T (λt=>kas_item x t) (λt ht=>by rw[Nat.zero_add];exact aG (by omega)) (λt ht=>M.ma _ (by omega)) (M.mb (j - 1) (by omega)) (by omega) (λa b gI hb qH=>?_) zT (λk hk1 cQ iP=>?_)
 ·unfold dW at qH ⊢;rw[if_neg (by simp)] at qH ⊢;have:=cK M.sa gI (by omega);cases z:O.blt (ky (kas_item y (j - 1))) (ky (kas_item x a)) with
  | false=>rfl
  | true=>have z2:O.blt (ky (kas_item y (j - 1))) (ky (kas_item x b))=true:=KeyOrd.klt_of_klt_of_kle z this;have yU:(!O.blt (ky (kas_item y (j - 1))) (ky (kas_item x b)))=true:=qH;rw[z2] at yU;cases yU
 ·have lo:∀t,t < k->le O ky (kas_item x t) (kas_item y (j - 1)):=λt ht=>by have z:=cQ t ht;unfold dW at z;rw[if_neg (by simp)] at z;have z2:(!O.blt (ky (kas_item y (j - 1))) (ky (kas_item x t)))=true:=z;show O.blt (ky (kas_item y (j - 1))) (ky (kas_item x t))=false;simpa using z2
  have up:∀t,k<=t->t < i->le O ky (kas_item y (j - 1)) (kas_item x t):=λt h1 h2=>by
   have z:=iP t h1 h2;unfold dW at z;rw[if_neg (by simp)] at z;have z2:(!O.blt (ky (kas_item y (j - 1))) (ky (kas_item x t)))=false:=z;have z3:O.blt (ky (kas_item y (j - 1))) (ky (kas_item x t))=true:=by simpa using z2
   exact KeyOrd.kle_of_klt z3
  dsimp only;by_cases k0:i - k > 0
  ·rw[if_pos k0];have m2:=h.m.qd (k:=k) (by omega) M.sa (λe he f hf=>by
    obtain⟨a,a1,a2,a3,rfl⟩:=aW he;obtain⟨b,b1,b2,rfl⟩:=eO hf;exact Qq (cK M.sb (show b<=j - 1 by omega) (by omega)) (up a a1 (by omega)))
   rw[<-uo] at m2;by_cases e:(k==0)=true
   ·rw[if_pos e];have e':k=0:=by simpa using e
    subst e';refine P7 (q' _ (.inl ⟨_,rfl,?_⟩));rw[ez];exact m2.uc M.sa M.sb
   ·rw[if_neg e];have e':¬k=0:=by simpa using e
    exact wA T M m2 (by omega) (by omega) hj wD lo (by omega) zT q'
  ·rw[if_neg k0];exact wA T M h.m hi vG hj wD (λl hl=>lo l (by omega)) (by omega) zT q'
def N3 (O:KeyOrd) (ky:Keyed->O.α) (x y:Array Keyed) (n:Nat):ForInStep SH->Prop
 | .done r=>HP O ky x y n r.1 r.2.2.2.1 r.2.1 r.2.2.1
 | .yield r=>r.1=none/\HP O ky x y n r.1 r.2.2.2.1 r.2.1 r.2.2.1
def ES (T:Tells prog w A κ s O ky Mem) {x y:Array Keyed} (M:MP O ky Mem x y) {mg:Nat} {r:SH} (h:BF O ky x y r.2.2.2.1 r.2.1 r.2.2.1) {n:Nat} (hn:r.2.1 + r.2.2.1 + n<=x.size + y.size + 1) {st:SortSt} (hs:kindOf st=κ)
  {Q:ForInStep SH->SortSt->Shared->Prop} (q:∀r',N3 O ky x y n r'->Q r' st s):kasC (model prog w) A E (Kx x y mg r) Q st s:=by
 obtain⟨v,i,j,o,ca,cb⟩:=r;have hi:1<=i:=h.i1;have vG:i < x.size:=h.i2;have hj:2<=j:=h.j1;have wD:j<=y.size:=h.j2;have hm:HI O ky x.toList y.toList o.toList.reverse i j:=h.m;dsimp only at hn;unfold Kx;dsimp only;refine P3 (aS (aG (by omega)) (P3 (aS (aG (by omega)) (P3 (qi T (M.mb (j - 1) (by omega)) (M.ma (i - 1) (by omega)) hs ?_)))));dsimp only;cases c:O.blt (ky (kas_item y (j - 1))) (ky (kas_item x (i - 1))) with
 | true=>
  rw[if_pos rfl];refine P3 (aS (aG (by omega)) ?_);have m1:=hm.qd (k:=i - 1) (by omega) M.sa (λe he f hf=>by
   obtain⟨a,a1,a2,a3,rfl⟩:=aW he;obtain⟨b,b1,b2,rfl⟩:=eO hf;have:a=i - 1:=by omega
   subst this;exact Qq (cK M.sb (show b<=j - 1 by omega) (by omega)) (KeyOrd.kle_of_klt c))
  rw[<-iI (x:=x) hi (by omega)] at m1;by_cases d:(i - 1==0)=true
  ·rw[if_pos d];have d':i - 1=0:=by simpa using d
   refine P7 (q _ (.inl ⟨_,rfl,?_⟩));rw[ez];rw[d'] at m1 ⊢;exact m1.uc M.sa M.sb
  ·rw[if_neg d];have d':¬i - 1=0:=by simpa using d
   have g:HP O ky x y n none (o.push (kas_item x (i - 1))) (i - 1) j:= .inr ⟨rfl,⟨m1,by omega,by omega,hj,wD⟩,by omega⟩;by_cases e:ca + 1>=mg
   ·rw[if_pos e];exact P7 (q _ g)
   ·rw[if_neg e];exact P7 (q _ ⟨rfl,g⟩)
 | false=>
  rw[if_neg (by simp)];refine P3 (aS (aG (by omega)) ?_);have m1:=hm.px (k:=j - 1) (by omega) M.sb (λe he f hf=>by
   obtain⟨a,a1,a2,a3,rfl⟩:=aW he;obtain⟨b,b1,b2,rfl⟩:=eO hf;have:a=j - 1:=by omega
   subst this;exact Qq (cK M.sa (show b<=i - 1 by omega) (by omega)) c)
  rw[<-iI (x:=y) (by omega) wD] at m1;by_cases d:(j - 1==1)=true
  ·rw[if_pos d];have d':j - 1=1:=by simpa using d
   refine P7 (q _ (.inl ⟨_,rfl,?_⟩));rw[fS];rw[d'] at m1 ⊢;exact m1.iY M.sa M.sb (M.fst (by omega))
  ·rw[if_neg d];have d':¬j - 1=1:=by simpa using d
   have g:HP O ky x y n none (o.push (kas_item y (j - 1))) i (j - 1):= .inr ⟨rfl,⟨m1,hi,vG,by omega,by omega⟩,by omega⟩;by_cases e:cb + 1>=mg
   ·rw[if_pos e];exact P7 (q _ g)
   ·rw[if_neg e];exact P7 (q _ ⟨rfl,g⟩)
def OU (O:KeyOrd) (ky:Keyed->O.α) (x y:Array Keyed) (n:Nat):ForInStep OH->Prop
 | .done r=>∃a,r.1=some a/\sO O ky x.toList y.toList a.toList
 | .yield r=>r.1=none/\BF O ky x y r.2.2.2.1 r.2.1 r.2.2.1/\r.2.1 + r.2.2.1 + n<=x.size + y.size
def AZ (T:Tells prog w A κ s O ky Mem) {x y:Array Keyed} (M:MP O ky Mem x y) {r:OH} (h:BF O ky x y r.2.2.2.1 r.2.1 r.2.2.1) {n:Nat} (hn:r.2.1 + r.2.2.1 + n<=x.size + y.size) {df st:SortSt} (hs:kindOf st=κ) (lF:SI df st)
  {Q:ForInStep OH->SortSt->Shared->Prop} (q:∀r' ai,SI df ai->OU O ky x y (n + 1) r'->Q r' ai s):kasC (model prog w) A E (Da x y r) Q st s:=by
 unfold Da;have hp:=M.pa;refine P3 (bL (Q:=λa ai s'=>st=ai/\s=s'/\HP O ky x y (n + 1) a.1 a.2.2.2.1 a.2.1 a.2.2.1) (kasC_range (c7 (λjj a ai=>st=ai/\a.1=none/\BF O ky x y a.2.2.2.1 a.2.1 a.2.2.1/\a.2.1 + a.2.2.1 + n + jj<=x.size + y.size) ⟨rfl,rfl,h,by simpa using hn⟩ (λjj a ai z hj hI=>?_) (λa ai hI=>?_))) (λa ai s' hI=>?_))
 ·obtain⟨rfl,a0,Et,an⟩:=hI;refine ES T M Et (n:=n + jj + 1) (by omega) hs (λr' cX=>⟨rfl,?_⟩);cases r' with
  | done b=>
   refine⟨rfl,rfl,?_⟩;rcases cX with ⟨v,e,m⟩ | ⟨e,ok,l⟩
   ·exact .inl ⟨v,e,m⟩
   ·exact .inr ⟨e,ok,by omega⟩
  | yield b=>obtain⟨b0,gb⟩:=cX;obtain⟨ok,l⟩:=gb.none b0;exact⟨rfl,b0,ok,by omega⟩
 ·obtain⟨rfl,a0,Et,an⟩:=hI;rw[List.length_range'] at an;exact⟨rfl,rfl,.inr ⟨a0,Et,by omega⟩⟩
 obtain⟨rfl,rfl,ga⟩:=hI;rcases ga with ⟨v,e,m⟩ | ⟨e,ok,l⟩
 ·rw[e];exact P7 (q _ _ lF ⟨v,rfl,m⟩)
 ·rw[e];refine P3 (kasC_lift (wpAny_rule ?_));refine P3 (bL (Q:=λb ai s'=>SI df ai/\s=s'/\HP O ky x y (n + 1) b.1 b.2.2.2.1 b.2.1 b.2.2.1) (kasC_range (c7 (λjj b ai=>SI df ai/\kindOf ai=κ/\b.1=none/\BF O ky x y b.2.2.2.1 b.2.1 b.2.2.1/\b.2.1 + b.2.2.1 + (n + 1)<=x.size + y.size) ⟨lF,hs,rfl,ok,l⟩ (λjj b ai z hj hI=>?_) (λb ai hI=>?_))) (λb ai s' hI=>?_))
  ·obtain⟨si,ks,b0,Bf,bn⟩:=hI;have kk:∀dQ,SI df dQ->kindOf dQ=κ:=λdQ h2=>(h2.1.trans si.1.symm).trans ks
   by_cases c:b.2.2.2.2.1 > 1
   ·rw[if_pos c];refine yK T M Bf bn ks si (λr' dQ h2 cX=>⟨rfl,?_⟩);cases r' with
    | done b'=>exact⟨h2,rfl,cX⟩
    | yield b'=>obtain⟨c0,gc⟩:=cX;obtain⟨Ep,l'⟩:=gc.none c0;exact⟨h2,kk dQ h2,c0,Ep,l'⟩
   ·rw[if_neg c];refine yK T M Bf bn ks si (λr' dQ h2 cX=>⟨rfl,?_⟩);cases r' with
    | done b'=>exact⟨h2,rfl,cX⟩
    | yield b'=>obtain⟨c0,gc⟩:=cX;obtain⟨Ep,l'⟩:=gc.none c0;exact⟨h2,kk dQ h2,c0,Ep,l'⟩
  ·obtain⟨si,ks,b0,Bf,bn⟩:=hI;exact⟨si,rfl,.inr ⟨b0,Bf,bn⟩⟩
  obtain⟨si,rfl,gb⟩:=hI;rcases gb with ⟨v,e2,m⟩ | ⟨e2,LN,l2⟩
  ·rw[e2];exact P7 (q _ _ si ⟨v,rfl,m⟩)
  ·rw[e2];exact P3 (jJ λdQ h2=>P7 (q _ _ (si.trans h2) ⟨rfl,LN,l2⟩))
def Bj (T:Tells prog w A κ s O ky Mem) {x y:Array Keyed} (M:MP O ky Mem x y) {st:SortSt} (hs:kindOf st=κ) {Q:Array Keyed->SortSt->Shared->Prop} (q:∀v ai,SI st ai->sO O ky x.toList y.toList v.toList->Q v ai s):kasC (model prog w) A E (EY x y) Q st s:=by
 rw[As];unfold Ft;have hp:=M.pa;have hq:=M.pb;refine P3 (kasC_lift (wpAny_rule ?_));refine P3 (aS (aG (by omega)) ?_);have m0:=HI.start (O:=O) (ky:=ky) (la:=x.toList) (lb:=y.toList);have lx:x.toList.length=x.size:=by simp
 have ly:y.toList.length=y.size:=by simp
 rw[lx,ly] at m0;have m1:=m0.qd (k:=x.size - 1) (by omega) M.sa (λe he f hf=>by
  obtain⟨a,a1,a2,a3,rfl⟩:=aW he;obtain⟨b,b1,b2,rfl⟩:=eO hf;have:a=x.size - 1:=by omega
  subst this;exact KeyOrd.kle_of_klt (M.last b b2))
 have e0:(#[kas_item x (x.size - 1)]:Array Keyed).toList.reverse=(x.toList.drop (x.size - 1)).take (x.size - (x.size - 1))++[]:=by rw[show x.size - (x.size - 1)=1 by omega,take_one (by omega)];rfl
 rw[<-e0] at m1;by_cases c:(x.size - 1==0)=true
 ·rw[if_pos c];have c':x.size - 1=0:=by simpa using c
  refine P7 (q _ _ (SI.refl _) ?_);rw[ez];rw[c'] at m1 ⊢;exact m1.uc M.sa M.sb
 ·rw[if_neg c];have c':¬x.size - 1=0:=by simpa using c
  by_cases d:(y.size==1)=true
  ·rw[if_pos d];have d':y.size=1:=by simpa using d
   refine P7 (q _ _ (SI.refl _) ?_);rw[fS];rw[d'] at m1 ⊢;exact m1.iY M.sa M.sb (M.fst (by omega))
  ·rw[if_neg d];have d':¬y.size=1:=by simpa using d
   refine P3 (kasC_get ?_);refine P3 (bL (Q:=λr ai s'=>SI st ai/\s=s'/\∃a,r.1=some a/\sO O ky x.toList y.toList a.toList) (kasC_range (c7 (λjj r ai=>SI st ai/\r.1=none/\BF O ky x y r.2.2.2.1 r.2.1 r.2.2.1/\r.2.1 + r.2.2.1 + (jj + 1)<=x.size + y.size) ⟨SI.refl _,rfl,⟨m1,(show 1<=x.size - 1 by omega),(show x.size - 1 < x.size by omega),(show 2<=y.size by omega),P4 _⟩,(show x.size - 1 + y.size + (0 + 1)<=x.size + y.size by omega)⟩ (λjj r ai z hj hI=>?_) (λr ai hI=>?_))) (λr ai s' hI=>?_))
   ·obtain⟨si,r0,BE,rn⟩:=hI;refine AZ T M BE rn (si.1.trans hs) si (λr' dQ h2 cX=>⟨rfl,?_⟩);cases r' with
    | done b=>exact⟨h2,rfl,cX⟩
    | yield b=>exact⟨h2,cX.1,cX.2.1,cX.2.2⟩
   ·obtain⟨si,r0,BE,rn⟩:=hI;rw[List.length_range'] at rn;have h1:=BE.i1;have h2:=BE.j1;omega
   obtain⟨si,rfl,a,e,m⟩:=hI;rw[e];exact P7 (q _ _ si m)
end
def GG:Nat->StateT SortSt Sem Bool:=sortPriv% PySem.Builtin.mergeAt
def back (M:Array Keyed) (p:Nat) (a:Array Keyed):Array Keyed:=M.toList.zipIdx.foldl (λb (q,j)=>b.setIfInBounds (p + j) q) a
def E4 (i:Nat):GG i=(do
 let t<-get
 let (some (p,n,pw),some (q,m,_)):=((pendingOf t)[i]?,(pendingOf t)[i + 1]?) | unsupported "internal:list.sort.pending"
 set (SortSt.mk' (kindOf t) (arrOf t) (((pendingOf t).setIfInBounds i (p,n + m,pw)).eraseIdxIfInBounds (i + 1)) (gallopOf t) (failedOf t))
 let some k<-BW false (<-elem' (arrOf t) q) (arrOf t) p n 0 | return false
 let (p,n):=(p + k,n - k)
 if n==0 then return true
 let some m<-BW true (<-elem' (arrOf t) (p + n - 1)) (arrOf t) q m (m - 1) | return false
 if m==0 then return true
 let x:=(arrOf t).extract p q
 let y:=(arrOf t).extract q (q + m)
 let M<-if n<=m then CN x y else EY x y
 modify λt=>SortSt.mk' (kindOf t) (back M p (arrOf t)) (pendingOf t) (gallopOf t) (failedOf t)
 return (failedOf (<-get)).isNone):=by kernel_rfl
def mC:∀(M:List Keyed) (p c:Nat) (a:Array Keyed),p + c + M.length<=a.size->((M.zipIdx c).foldl (λb (q:Keyed×Nat)=>b.setIfInBounds (p + q.2) q.1) a).toList=a.toList.take (p + c)++M++a.toList.drop (p + c + M.length)
 | [],p,c,a,h=>by simp
 | e::M,p,c,a,h=>by
  rw[List.zipIdx_cons,List.foldl_cons];simp only[Qh] at h;have ih:=mC M p (c + 1) (a.setIfInBounds (p + c) e) (by rw[Array.size_setIfInBounds];omega);rw[ih];have hs:(a.setIfInBounds (p + c) e).toList=a.toList.take (p + c)++[e]++a.toList.drop (p + c + 1):=by rw[Array.toList_setIfInBounds];rw[List.set_eq_take_append_cons_drop];rw[if_pos (by simp;omega)];simp
  have hl:(a.toList.take (p + c)++[e]).length=p + c + 1:=by simp;omega
  rw[hs];have e1:(a.toList.take (p + c)++[e]++a.toList.drop (p + c + 1)).take (p + (c + 1))=a.toList.take (p + c)++[e]:=by rw[show p + (c + 1)=(a.toList.take (p + c)++[e]).length by omega,List.take_left]
  have e2:(a.toList.take (p + c)++[e]++a.toList.drop (p + c + 1)).drop (p + (c + 1) + M.length)=a.toList.drop (p + c + (e::M).length):=by rw[show p + (c + 1) + M.length=(a.toList.take (p + c)++[e]).length + M.length by omega,List.drop_append,List.drop_of_length_le (Nat.le_add_right _ _),List.nil_append,Nat.add_sub_cancel_left,List.drop_drop];congr 1;simp only[Qh];omega
  rw[e1,e2];simp
section
variable {O:KeyOrd} {ky:Keyed->O.α} {Mem:Keyed->Prop}
variable {prog:Program} {w:World} {A:Around} {E:Value->Shared->Prop} {κ:SortKind} {s:Shared}
def yE {t st:SortSt} {Q:PUnit->SortSt->Shared->Prop} (h:Q ⟨⟩ t s):kasC (model prog w) A E (set t:StateT SortSt Sem PUnit) Q st s:=by unfold kasC;rw[StateT.run_set];exact PV h
def er (n1 n2 pw z:Nat):((#[(0,n1,pw),(n1,n2,z)]:Array (Nat×Nat×Nat)).setIfInBounds 0 (0,n1 + n2,pw)).eraseIdxIfInBounds (0 + 1)=#[(0,n1 + n2,pw)]:=by simp[Array.eraseIdxIfInBounds]
end
def aL (lo n m:Nat):StateT SortSt Sem AscSt:=
 forIn [n:m] ((none,n):AscSt) λ_ r=>do
  let x<-ltAt' (lo + r.2) (lo + r.2 - 1)
  match x with
  | some c=>if c=true then pure (.done (none,r.2)) else pure (.yield (none,r.2 + 1))
  | _=>pure (.done (some none,r.2))
def t3 (lo n m:Nat):StateT SortSt Sem (Option Nat):=do
 reverseSlice' lo (lo + n)
 let r<-aL lo n m
 match r.1 with
 | some v=>pure v
 | none=>pure (some r.2)
def dL (lo n m:Nat):StateT SortSt Sem DescSt:=
 forIn [n:m] ((none,n,0):DescSt) λ_ r=>do
  let x<-ltAt' (lo + r.2.1) (lo + r.2.1 - 1)
  match x with
  | some c=>
   if c=true then
    if r.2.2 > 0 then do
     reverseSlice' (lo + r.2.1 - (r.2.2 + 1)) (lo + r.2.1)
     pure (.yield (none,r.2.1 + 1,0))
    else pure (.yield (none,r.2.1 + 1,0))
   else do
    let y<-ltAt' (lo + r.2.1 - 1) (lo + r.2.1)
    match y with
    | some d=>if d=true then pure (.done (none,r.2.1,r.2.2)) else pure (.yield (none,r.2.1 + 1,r.2.2 + 1))
    | _=>pure (.done (some none,r.2.1,r.2.2))
  | _=>pure (.done (some none,r.2.1,r.2.2))
def dP (lo n m:Nat):StateT SortSt Sem (Option Nat):=do
 rule "list.sort.descending-run"
 let r<-dL lo (n + 1) m
 match r.1 with
 | some v=>pure v
 | none=>
  if r.2.2 > 0 then do
   reverseSlice' (lo + r.2.1 - (r.2.2 + 1)) (lo + r.2.1)
   t3 lo r.2.1 m
  else t3 lo r.2.1 m
def cR (lo m:Nat):StateT SortSt Sem (Option Nat):=do
 let r<-aL lo 1 m
 match r.1 with
 | some v=>pure v
 | none=>
  if (r.2==m)=true then pure (some r.2)
  else if r.2 > 1 then do
   let x<-ltAt' lo (lo + r.2 - 1)
   match x with
   | some c=>if c=true then pure (some r.2) else do
     reverseSlice' lo (lo + r.2)
     dP lo r.2 m
   | _=>pure none
  else dP lo r.2 m
def Ht (lo m:Nat):countRun' lo m=cR lo m:=by kernel_rfl
def pL (lo k:Nat):StateT SortSt Sem (Option Bool×Nat×Nat):=
 forIn [:k] ((none,0,k):Option Bool×Nat×Nat) λ_ r=>
  if r.2.1>=r.2.2 then pure (.done (none,r.2.1,r.2.2)) else do
   let x<-ltAt' (lo + k) (lo + (r.2.1 + r.2.2) / 2)
   match x with
   | some c=>if c=true then pure (.yield (none,r.2.1,(r.2.1 + r.2.2) / 2)) else pure (.yield (none,(r.2.1 + r.2.2) / 2 + 1,r.2.2))
   | _=>pure (.done (some false,r.2.1,r.2.2))
def bS (lo n ok:Nat):StateT SortSt Sem Bool:=do
 let r<-forIn [max ok 1:n] ((none,()):Option Bool×Unit) λk _=>do
  let r<-pL lo k
  match r.1 with
  | some v=>pure (.done (some v,()))
  | none=>do
   moveDown' (lo + k) (lo + r.2.1)
   pure (.yield (none,()))
 match r.1 with
 | some v=>pure v
 | none=>pure true
def GO (lo n ok:Nat):binarySort' lo n ok=bS lo n ok:=by kernel_rfl
section
variable {O:KeyOrd} {ky:Keyed->O.α} {Mem:Keyed->Prop}
variable {prog:Program} {w:World} {A:Around} {E:Value->Shared->Prop} {κ:SortKind} {s:Shared}
def dF {β:Type} {a b:Nat} {b0:β} {f:Nat->β->StateT SortSt Sem (ForInStep β)} {Q:β->SortSt->Shared->Prop} (Inv:Nat->β->SortSt->Prop) {df:SortSt} (h0:Inv a b0 df)
  (step:∀x c st,a<=x->x < b->Inv x c st->kasC (model prog w) A E (f x c) (λr ai s'=>s'=s/\match r with | .done b'=>Q b' ai s | .yield b'=>Inv (x + 1) b' ai) st s)
  (fin:∀c st,Inv (max a b) c st->Q c st s):kasC (model prog w) A E (forIn [a:b] b0 f) Q df s:=by
 have go:∀(n x:Nat) (c:β) (st:SortSt),x + n=max a b->a<=x->Inv x c st->kasC (model prog w) A E (forIn (List.range' x n) c f) Q st s:=by
  intro n
  induction n with
  | zero=>
   intro x c st hx hax hI;have e:x=max a b:=by omega
   subst e;exact kasC_nil (fin c st hI)
  | succ n ih=>
   intro x c st hx hax hI;rw[List.range'_succ];refine kasC_cons (wpAny_mono (step x c st hax (by omega) hI) (λr s' h'=>?_) λ_ _ e=>e);obtain⟨r,ai⟩:=r;obtain⟨rfl,h'⟩:=h';cases r with
   | done b'=>exact h'
   | yield b'=>exact ih (x + 1) b' ai (by omega) (by omega) h'
 exact kasC_range (go (b - a) a b0 df (by omega) (P4 _) h0)
structure Bs (κ:SortKind) (P:Array (Nat×Nat×Nat)) (lo:Nat) (b:Array Keyed) (st:SortSt):Prop where
 k:kindOf st=κ
 f:failedOf st=none
 p:pendingOf st=P
 pm:(arrOf st).toList.Perm b.toList
 lw:∀i,i < lo->kas_item (arrOf st) i=kas_item b i
variable {P:Array (Nat×Nat×Nat)} {lo:Nat} {b:Array Keyed}
def Bs.size {st:SortSt} (h:Bs κ P lo b st):(arrOf st).size=b.size:=by have:=h.pm.length_eq;simpa using this
def Bs.mem {st:SortSt} (h:Bs κ P lo b st) (hb:∀x∈b.toList,Mem x) {i:Nat} (hi:i < b.size):Mem (kas_item (arrOf st) i):=by
 have BU:i < (arrOf st).size:=by rw[h.size];exact hi
 refine hb _ (h.pm.mem_iff.mp ?_);have e:kas_item (arrOf st) i=(arrOf st)[i]:=by unfold kas_item;simp[Array.getD,BU]
 rw[e];simp
def gV {p q:Array Keyed} {i j:Nat} (h:p[i]?=q[j]?):kas_item p i=kas_item q j:=by unfold kas_item;rw[Array.getD_eq_getD_getElem?,Array.getD_eq_getD_getElem?,h]
theorem kM {a:Array Keyed} {i j:Nat} (hj:j<=a.size) (k:Nat):kas_item (mirror a i j ((j - i) / 2)) k=if i<=k/\k < j then kas_item a (i + j - 1 - k) else kas_item a k:=by
 have e:=getElem?_mirror_all (i:=i) hj k;by_cases h1:i<=k/\k < j
 ·rw[if_pos h1] at e ⊢;exact gV e
 ·rw[if_neg h1] at e ⊢;exact gV e
def kZ {a:Array Keyed} {src d:Nat} (hs:src < a.size) (hd:d<=src) (k:Nat):
  kas_item (bubble a src d) k=if k=src - d then kas_item a src else if src - d < k/\k<=src then kas_item a (k - 1) else kas_item a k:=by
 have e:=getElem?_bubble hs d hd k;by_cases h1:k=src - d
 ·rw[if_pos h1] at e ⊢;exact gV e
 ·rw[if_neg h1] at e ⊢;by_cases h2:src - d < k/\k<=src
  ·rw[if_pos h2] at e ⊢;exact gV e
  ·rw[if_neg h2] at e ⊢;exact gV e
def Bs.rev {st:SortSt} (h:Bs κ P lo b st) {i j:Nat} (hi:lo<=i) (hj:j<=b.size):Bs κ P lo b (setArr st (mirror (arrOf st) i j ((j - i) / 2))):=
 ⟨h.k,h.f,h.p,(Array.perm_iff_toList_perm.mp (mirror_perm _ _ _ _)).trans h.pm,λk hk=>by
  have:=kM (a:=arrOf st) (i:=i) (j:=j) (by rw[h.size];exact hj) k;rw[if_neg (by omega)] at this;exact this.trans (h.lw k hk)⟩
def Bs.Ov {st:SortSt} (h:Bs κ P lo b st) {c d:Nat} (hs:c < b.size) (hd:lo + d<=c):Bs κ P lo b (setArr st (bubble (arrOf st) c d)):=
 ⟨h.k,h.f,h.p,(Array.perm_iff_toList_perm.mp (bubble_perm _ _ _)).trans h.pm,λk hk=>by
  have:=kZ (a:=arrOf st) (src:=c) (d:=d) (by rw[h.size];exact hs) (by omega) k;rw[if_neg (by omega),if_neg (by omega)] at this;exact this.trans (h.lw k hk)⟩
def iw (T:Tells prog w A κ s O ky Mem) (hb:∀x∈b.toList,Mem x) {st:SortSt} (h:Bs κ P lo b st) {i j:Nat} (hi:i < b.size) (hj:j < b.size) {Q:Option Bool->SortSt->Shared->Prop}
  (q:Q (some (O.blt (ky (kas_item (arrOf st) i)) (ky (kas_item (arrOf st) j)))) st s):kasC (model prog w) A E (ltAt' i j) Q st s:=by
 rw[ltAt'_eq];refine P3 (kasC_get ?_);dsimp only;exact P3 (aS (aG (by rw[h.size];exact hi)) (P3 (aS (aG (by rw[h.size];exact hj)) (qi T (h.mem hb hi) (h.mem hb hj) h.k q))))
def Up (O:KeyOrd) (ky:Keyed->O.α) (lo:Nat) (a:Array Keyed) (n:Nat):Prop:=∀i j,lo<=i->i<=j->j < lo + n->O.kle (ky (kas_item a i)) (ky (kas_item a j))
def Dn (O:KeyOrd) (ky:Keyed->O.α) (lo:Nat) (a:Array Keyed) (n:Nat):Prop:=∀i j,lo<=i->i<=j->j < lo + n->O.kle (ky (kas_item a j)) (ky (kas_item a i))
def JI (O:KeyOrd) (ky:Keyed->O.α) (lo:Nat) (a:Array Keyed) (n q:Nat):Prop:=∀k,lo + n - (q + 1)<=k->k < lo + n->ky (kas_item a k)=ky (kas_item a (lo + n - 1))
def Up.succ {a:Array Keyed} {n:Nat} (h:Up O ky lo a n) (h1:1<=n) (h2:O.kle (ky (kas_item a (lo + n - 1))) (ky (kas_item a (lo + n)))):Up O ky lo a (n + 1):=λi j hi gj hj=>by
 by_cases e:j=lo + n
 ·subst e;by_cases e2:i=lo + n
  ·subst e2;exact KeyOrd.kle_refl _
  ·exact Qq (h i (lo + n - 1) hi (by omega) (by omega)) h2
 ·exact h i j hi gj (by omega)
def Dn.succ {a:Array Keyed} {n:Nat} (h:Dn O ky lo a n) (h1:1<=n) (h2:O.kle (ky (kas_item a (lo + n))) (ky (kas_item a (lo + n - 1)))):Dn O ky lo a (n + 1):=λi j hi gj hj=>by
 by_cases e:j=lo + n
 ·subst e;by_cases e2:i=lo + n
  ·subst e2;exact KeyOrd.kle_refl _
  ·exact Qq h2 (h i (lo + n - 1) hi (by omega) (by omega))
 ·exact h i j hi gj (by omega)
def Dn.of {a c:Array Keyed} {n:Nat} (e:∀k,ky (kas_item c k)=ky (kas_item a k)) (h:Dn O ky lo a n):Dn O ky lo c n:=λi j x y z=>by rw[e,e];exact h i j x y z
def Up.one (a:Array Keyed):Up O ky lo a 1:=λi j x y z=>by rw[show i=j by omega];exact KeyOrd.kle_refl _
def Dn.one (a:Array Keyed):Dn O ky lo a 1:=λi j x y z=>by rw[show i=j by omega];exact KeyOrd.kle_refl _
def xO {a:Array Keyed} {i j:Nat} (hj:j<=a.size) (he:∀k,i<=k->k < j->ky (kas_item a k)=ky (kas_item a (j - 1))) (k:Nat):ky (kas_item (mirror a i j ((j - i) / 2)) k)=ky (kas_item a k):=by grind [kM]
def xm {a:Array Keyed} {n:Nat} (hn:lo + n<=a.size) (h:Dn O ky lo a n):Up O ky lo (mirror a lo (lo + n) ((lo + n - lo) / 2)) n:=by grind [kM,Dn,Up]
def B5 (T:Tells prog w A κ s O ky Mem) (hb:∀x∈b.toList,Mem x) {st:SortSt} (h:Bs κ P lo b st) {n m:Nat} (hz:lo + m<=b.size) (h1:1<=n) (hn:n<=m) (hu:Up O ky lo (arrOf st) n) {Q:AscSt->SortSt->Shared->Prop}
  (q:∀k,n<=k->k<=m->Up O ky lo (arrOf st) k->(k < m->O.blt (ky (kas_item (arrOf st) (lo + k))) (ky (kas_item (arrOf st) (lo + k - 1)))=true)->Q (none,k) st s):kasC (model prog w) A E (aL lo n m) Q st s:=by
 unfold aL;refine dF (λx r ai=>st=ai/\r=(none,x)/\Up O ky lo (arrOf st) x) ⟨rfl,rfl,hu⟩ (λx r ai hx1 AV hI=>?_) (λr ai hI=>?_)
 ·obtain⟨rfl,rfl,hu⟩:=hI;dsimp only;refine P3 (iw T hb h (by omega) (by omega) ?_);dsimp only;cases c:O.blt (ky (kas_item (arrOf st) (lo + x))) (ky (kas_item (arrOf st) (lo + x - 1))) with
  | true=>rw[if_pos rfl];exact P7 ⟨rfl,q x hx1 (by omega) hu λ_=>c⟩
  | false=>rw[if_neg (by simp)];exact P7 ⟨rfl,rfl,rfl,hu.succ (by omega) c⟩
 ·obtain⟨rfl,rfl,hu⟩:=hI;rw[show max n m=m by omega] at hu ⊢;exact q m hn (P4 _) hu λz=>absurd z (by omega)
def nR {i j:Nat} {st:SortSt} {Q:Unit->SortSt->Shared->Prop} (q:Q () (setArr st (mirror (arrOf st) i j ((j - i) / 2))) s):kasC (model prog w) A E (reverseSlice' i j) Q st s:=by rw[reverseSlice'_eq];exact kasC_modify q
def Hb (T:Tells prog w A κ s O ky Mem) (hb:∀x∈b.toList,Mem x) {st:SortSt} (h:Bs κ P lo b st) {n m:Nat} (hz:lo + m<=b.size) (h1:1<=n) (hn:n<=m) (hd:Dn O ky lo (arrOf st) n) {Q:DescSt->SortSt->Shared->Prop}
  (q:∀ai k e,Bs κ P lo b ai->n<=k->k<=m->e + 1<=k->Dn O ky lo (arrOf ai) k->JI O ky lo (arrOf ai) k e->Q (none,k,e) ai s):kasC (model prog w) A E (dL lo n m) Q st s:=by
 unfold dL;have one:∀(a:Array Keyed) (k:Nat),1<=k->JI O ky lo a k 0:=λa k hk j x y=>by rw[show j=lo + k - 1 by omega]
 refine dF (λx r ai=>∃e,r=(none,x,e)/\Bs κ P lo b ai/\e + 1<=x/\Dn O ky lo (arrOf ai) x/\JI O ky lo (arrOf ai) x e) ⟨0,rfl,h,by omega,hd,one _ _ h1⟩ (λx r ai hx1 AV hI=>?_) (λr ai hI=>?_)
 ·obtain⟨e,rfl,h,he,hd,hq⟩:=hI;have gY:=h.size;dsimp only;refine P3 (iw T hb h (by omega) (by omega) ?_);dsimp only;cases c:O.blt (ky (kas_item (arrOf ai) (lo + x))) (ky (kas_item (arrOf ai) (lo + x - 1))) with
  | true=>
   rw[if_pos rfl];have qT:=hd.succ (by omega) (KeyOrd.kle_of_klt c);by_cases d:e > 0
   ·rw[if_pos d];refine P3 (nR (P7 ⟨rfl,0,rfl,h.rev (by omega) (by omega),by omega,?_,one _ _ (by omega)⟩));exact Dn.of (xO (by omega) hq) qT
   ·rw[if_neg d];exact P7 ⟨rfl,0,rfl,h,by omega,qT,one _ _ (by omega)⟩
  | false=>
   rw[if_neg (by simp)];refine P3 (iw T hb h (by omega) (by omega) ?_);dsimp only;cases d:O.blt (ky (kas_item (arrOf ai) (lo + x - 1))) (ky (kas_item (arrOf ai) (lo + x))) with
   | true=>rw[if_pos rfl];exact P7 ⟨rfl,q ai x e h hx1 (by omega) he hd hq⟩
   | false=>
    rw[if_neg (by simp)];have heq:ky (kas_item (arrOf ai) (lo + x))=ky (kas_item (arrOf ai) (lo + x - 1)):=O.total _ _ c d;refine P7 ⟨rfl,e + 1,rfl,h,by omega,hd.succ (by omega) (by rw[heq];exact KeyOrd.kle_refl _),λk k1 k2=>?_⟩;rw[show lo + (x + 1) - 1=lo + x by omega];by_cases z:k=lo + x
    ·rw[z]
    ·rw[hq k (by omega) (by omega),heq]
 ·obtain⟨e,rfl,h,he,hd,hq⟩:=hI;rw[show max n m=m by omega] at hd hq he ⊢;exact q ai m e h hn (P4 _) he hd hq
def Co (T:Tells prog w A κ s O ky Mem) (hb:∀x∈b.toList,Mem x) {st:SortSt} (h:Bs κ P lo b st) {n m:Nat} (hz:lo + m<=b.size) (h1:1<=n) (hn:n<=m) (hd:Dn O ky lo (arrOf st) n) {Q:Option Nat->SortSt->Shared->Prop}
  (q:∀ai k,Bs κ P lo b ai->1<=k->k<=m->Up O ky lo (arrOf ai) k->Q (some k) ai s):kasC (model prog w) A E (t3 lo n m) Q st s:=by
 unfold t3;have gY:=h.size;refine P3 (nR (P3 (B5 T hb (h.rev (P4 _) (by omega)) hz h1 hn (xm (by omega) hd) λk k1 k2 ku _=>?_)));exact P7 (q _ k (h.rev (P4 _) (by omega)) (by omega) k2 ku)
def Cm (T:Tells prog w A κ s O ky Mem) (hb:∀x∈b.toList,Mem x) {st:SortSt} (h:Bs κ P lo b st) {n m:Nat} (hz:lo + m<=b.size) (h1:1<=n) (hn:n + 1<=m) (hd:Dn O ky lo (arrOf st) (n + 1)) {Q:Option Nat->SortSt->Shared->Prop}
  (q:∀ai k,Bs κ P lo b ai->1<=k->k<=m->Up O ky lo (arrOf ai) k->Q (some k) ai s):kasC (model prog w) A E (dP lo n m) Q st s:=by
 unfold dP;refine P3 (kasC_lift (wpAny_rule ?_));refine P3 (Hb T hb h hz (by omega) hn hd λai k e h' k1 k2 ke kd kq=>?_);dsimp only;have gY:=h'.size;by_cases d:e > 0
 ·rw[if_pos d];exact P3 (nR (Co T hb (h'.rev (by omega) (by omega)) hz (by omega) k2 (Dn.of (xO (by omega) kq) kd) q))
 ·rw[if_neg d];exact Co T hb h' hz (by omega) k2 kd q
def Ib (T:Tells prog w A κ s O ky Mem) (hb:∀x∈b.toList,Mem x) {st:SortSt} (h:Bs κ P lo b st) {m:Nat} (hz:lo + m<=b.size) (h1:1<=m) {Q:Option Nat->SortSt->Shared->Prop}
  (q:∀ai k,Bs κ P lo b ai->1<=k->k<=m->Up O ky lo (arrOf ai) k->Q (some k) ai s):kasC (model prog w) A E (countRun' lo m) Q st s:=by
 rw[Ht];unfold cR;have gY:=h.size;refine P3 (B5 T hb h hz (P4 _) h1 (Up.one _) λn n1 n2 nu nl=>?_);dsimp only;by_cases e:(n==m)=true
 ·rw[if_pos e];exact P7 (q _ n h n1 n2 nu)
 ·rw[if_neg e];have e':n≠m:=by simpa using e
  have cQ:=nl (by omega);by_cases hn:n > 1
  ·rw[if_pos hn];refine P3 (iw T hb h (by omega) (by omega) ?_);dsimp only;cases c:O.blt (ky (kas_item (arrOf st) lo)) (ky (kas_item (arrOf st) (lo + n - 1))) with
   | true=>rw[if_pos rfl];exact P7 (q _ n h n1 n2 nu)
   | false=>
    rw[if_neg (by simp)];have all:∀k,lo<=k->k < lo + n->ky (kas_item (arrOf st) k)=ky (kas_item (arrOf st) (lo + n - 1)):=λk k1 k2=>by refine KeyOrd.kle_antisymm (nu k (lo + n - 1) k1 (by omega) (by omega)) (Qq (show O.kle (ky (kas_item (arrOf st) (lo + n - 1))) (ky (kas_item (arrOf st) lo)) from c) (nu lo k (P4 _) k1 k2))
    refine P3 (nR (Cm T hb (h.rev (P4 _) (by omega)) hz n1 (by omega) (Dn.of (xO (by omega) all) (Dn.succ (λi j hi gj hj=>?_) n1 (KeyOrd.kle_of_klt cQ))) q));rw[all i hi (by omega),all j (by omega) hj];exact KeyOrd.kle_refl _
  ·rw[if_neg hn];have e1:n=1:=by omega
   subst e1;exact Cm T hb h hz n1 (by omega) (Dn.succ (Dn.one _) n1 (KeyOrd.kle_of_klt cQ)) q
def FP (T:Tells prog w A κ s O ky Mem) (hb:∀x∈b.toList,Mem x) {st:SortSt} (h:Bs κ P lo b st) {k:Nat} (hz:lo + k < b.size) (hu:Up O ky lo (arrOf st) k) {Q:Option Bool×Nat×Nat->SortSt->Shared->Prop}
  (q:∀l r,l<=k->(∀i,lo<=i->i < lo + l->O.kle (ky (kas_item (arrOf st) i)) (ky (kas_item (arrOf st) (lo + k))))->(∀i,lo + l<=i->i < lo + k->O.klt (ky (kas_item (arrOf st) (lo + k))) (ky (kas_item (arrOf st) i)))->Q (none,l,r) st s):kasC (model prog w) A E (pL lo k) Q st s:=by
 unfold pL;refine dF (λx c ai=>st=ai/\∃l r,c=(none,l,r)/\l<=r/\r<=k/\r - l<=k - x/\(∀i,lo<=i->i < lo + l->O.kle (ky (kas_item (arrOf st) i)) (ky (kas_item (arrOf st) (lo + k))))/\(∀i,lo + r<=i->i < lo + k->O.klt (ky (kas_item (arrOf st) (lo + k))) (ky (kas_item (arrOf st) i))))
  ⟨rfl,0,k,rfl,by omega,by omega,by omega,λi a c=>absurd a (by omega),λi a c=>absurd a (by omega)⟩ (λx r ai hx1 AV hI=>?_) (λr ai hI=>?_)
 ·obtain⟨rfl,l,r,rfl,lr,rk,rl,nr,zL⟩:=hI;dsimp only;by_cases c:l>=r
  ·rw[if_pos c];have e:l=r:=by omega
   subst e;exact P7 ⟨rfl,q l l rk nr zL⟩
  ·rw[if_neg c];refine P3 (iw T hb h (by omega) (by omega) ?_);dsimp only;cases d:O.blt (ky (kas_item (arrOf st) (lo + k))) (ky (kas_item (arrOf st) (lo + (l + r) / 2))) with
   | true=>rw[if_pos rfl];exact P7 ⟨rfl,rfl,l,(l + r) / 2,rfl,by omega,by omega,by omega,nr,λi i1 i2=>KeyOrd.klt_of_klt_of_kle d (hu _ _ (by omega) i1 i2)⟩
   | false=>rw[if_neg (by simp)];exact P7 ⟨rfl,rfl,(l + r) / 2 + 1,r,rfl,by omega,by omega,by omega,λi i1 i2=>Qq (hu i (lo + (l + r) / 2) i1 (by omega) (by omega)) d,zL⟩
 ·obtain⟨rfl,l,r,rfl,lr,rk,rl,nr,zL⟩:=hI;have e:l=r:=by omega
  subst e;exact q l l rk nr zL
def Ik (T:Tells prog w A κ s O ky Mem) (hb:∀x∈b.toList,Mem x) {st:SortSt} (h:Bs κ P lo b st) {n k:Nat} (hz:lo + n<=b.size) (h1:1<=k) (hk:k<=n) (hu:Up O ky lo (arrOf st) k) {Q:Bool->SortSt->Shared->Prop}
  (q:∀ai,Bs κ P lo b ai->Up O ky lo (arrOf ai) n->Q true ai s):kasC (model prog w) A E (binarySort' lo n k) Q st s:=by
 rw[GO];unfold bS;refine P3 (dF (λx c ai=>c=(none,())/\Bs κ P lo b ai/\Up O ky lo (arrOf ai) x) ⟨rfl,h,by rw[show max k 1=k by omega];exact hu⟩ (λx r ai hx1 AV hI=>?_) (λr ai hI=>?_))
 ·obtain⟨rfl,h,hu⟩:=hI;have gY:=h.size;refine P3 (FP T hb h (by omega) hu λl r hl nr zL=>?_);dsimp only;rw[moveDown'_eq];refine P3 (kasC_modify (P7 ⟨rfl,rfl,h.Ov (by omega) (by omega),λi j hi gj hj=>?_⟩));show O.kle (ky (kas_item (bubble (arrOf ai) (lo + x) (lo + x - (lo + l))) i)) (ky (kas_item (bubble (arrOf ai) (lo + x) (lo + x - (lo + l))) j));rw[kZ (by omega) (by omega),kZ (by omega) (by omega),show lo + x - (lo + x - (lo + l))=lo + l by omega]
  repeat' split
  all_goals first
   | (exfalso;omega)
   | exact KeyOrd.kle_refl _
   | exact nr _ (by omega) (by omega)
   | exact KeyOrd.kle_of_klt (zL _ (by omega) (by omega))
   | exact hu _ _ (by omega) (by omega) (by omega)
 ·obtain⟨rfl,h,hu⟩:=hI;rw[show max (max k 1) n=n by omega] at hu;exact P7 (q _ h hu)
end
def L3 (size pw:Nat):StateT SortSt Sem (Option Unit×Unit):=
 forIn [:size] ((none,()):Option Unit×Unit) λ_ _=>do
  let st<-get
  match (if (pendingOf st).size > 1 then(pendingOf st)[(pendingOf st).size - 2]? else none) with
  | some (_,_,older)=>
   if older<=pw then pure (.done (none,())) else do
    let ok<-GG ((pendingOf st).size - 2)
    if (!ok)=true then pure (.done (some (),())) else pure (.yield (none,()))
  | _=>pure (.done (none,()))
def Jv (size lo n:Nat):StateT SortSt Sem (ForInStep (Option Unit×Nat)):=do
 let st<-get
 match (pendingOf st).back? with
 | some (s1,n1,_)=>do
  let r<-L3 size (power' size (2 * s1 + n1) (2 * s1 + n1 + n1 + n) size)
  match r.1 with
  | some v=>pure (.done (some v,lo))
  | none=>do
   modify λs=>setPending s ((pendingOf s).modify ((pendingOf s).size - 1) λ(st,len,_)=>(st,len,power' size (2 * s1 + n1) (2 * s1 + n1 + n1 + n) size))
   modify λs=>setPending s ((pendingOf s).push (lo,n,0))
   pure (.yield (none,lo + n))
 | _=>do
  modify λs=>setPending s ((pendingOf s).push (lo,n,0))
  pure (.yield (none,lo + n))
def Hq (size mr lo:Nat):StateT SortSt Sem (ForInStep (Option Unit×Nat)):=
 if lo>=size then pure (.done (none,lo)) else do
  let f<-countRun' lo (size - lo)
  match f with
  | some n=>
   if n < mr then do
    rule "list.sort.binary-insertion"
    let ok<-binarySort' lo (min (size - lo) mr) n
    if (!ok)=true then pure (.done (some (),lo)) else Jv size lo (min (size - lo) mr)
   else Jv size lo n
  | _=>pure (.done (some (),lo))
def ix (p:Array (Nat×Nat×Nat)):Nat:=if (if p.size - 2 > 0 then p[p.size - 2 - 1]?.map (·.2.1) else none).any (· < (p[p.size - 2 + 1]?.elim 0 (·.2.1))) then p.size - 2 - 1 else p.size - 2
def IC (size:Nat):StateT SortSt Sem (Option Unit×Unit):=
 forIn [:size] ((none,()):Option Unit×Unit) λ_ _=>do
  let st<-get
  if (pendingOf st).size<=1 then pure (.done (none,())) else do
   let ok<-GG (ix (pendingOf st))
   if (!ok)=true then pure (.done (some (),())) else pure (.yield (none,()))
def sR:StateT SortSt Sem Unit:=do
 let st<-get
 let r<-forIn [:(arrOf st).size] ((none,0):Option Unit×Nat) λ_ r=>Hq (arrOf st).size (minRun' (arrOf st).size (arrOf st).size 0) r.2
 match r.1 with
 | some v=>pure v
 | none=>do
  let r<-IC (arrOf st).size
  match r.1 with
  | some v=>pure v
  | none=>pure ()
def FJ:sortRuns'=sR:=by kernel_rfl
section
variable {O:KeyOrd} {ky:Keyed->O.α} {Mem:Keyed->Prop}
variable {prog:Program} {w:World} {A:Around} {E:Value->Shared->Prop} {κ:SortKind} {s:Shared} {a:Array Keyed}
def Up.jf {b:Array Keyed} {n:Nat} (hn:b.size=n) (h:Up O ky 0 b n):hU O ky b.toList:=by
 refine List.pairwise_iff_getElem.mpr λi j hi hj gj=>?_
 have e:∀k,(h:k < b.size)->kas_item b k=b.toList[k]'(by simpa using h):=λk h=>by unfold kas_item;simp[Array.getD,h]
 have vR:j < b.size:=by simpa using hj
 rw[<-e i (by omega),<-e j vR];exact h i j (by omega) (by omega) (by omega)
end
section
variable {O:KeyOrd} {ky:Keyed->O.α} {Mem:Keyed->Prop}
variable {prog:Program} {w:World} {A:Around} {E:Value->Shared->Prop} {κ:SortKind} {s:Shared}
def item_list (b:Array Keyed) (t:Nat):kas_item b t=b.toList.getD t (Value.none,Value.none):=by unfold kas_item;simp[Array.getD,List.getD];split <;> simp_all
def CO {l:List Keyed} (h:hU O ky l) {i j:Nat} (gj:i<=j) (hj:j < l.length):le O ky (l.getD i (Value.none,Value.none)) (l.getD j (Value.none,Value.none)):=by
 rcases Nat.lt_or_ge i j with c | c
 ·have:=List.pairwise_iff_getElem.mp h i j (by omega) hj c;rw[List.getD_eq_getElem?_getD,List.getD_eq_getElem?_getD,Qn hj,Qn (by omega)];exact this
 ·have e:i=j:=by omega
  subst e;exact KeyOrd.kle_refl _
def zu {l m:List Keyed} {d:Keyed} {i:Nat} (h:i < l.length):(l++m).getD i d=l.getD i d:=by grind
def yk {l m:List Keyed} {d:Keyed} {i:Nat} (h:l.length<=i):(l++m).getD i d=m.getD (i - l.length) d:=by grind
def Lf (T:Tells prog w A κ s O ky Mem) {a:Array Keyed} {P:Array (Nat×Nat×Nat)} {i p n1 n2 pw z g:Nat} (NJ:P[i]?=some (p,n1,pw)) (HN:P[i + 1]?=some (p + n1,n2,z)) (gY:p + n1 + n2<=a.size) (h1:1<=n1) (h2:1<=n2) (hm:∀i,i < a.size->Mem (kas_item a i))
  (sA:∀i j,p<=i->i<=j->j < p + n1->le O ky (kas_item a i) (kas_item a j)) (sB:∀i j,p + n1<=i->i<=j->j < p + n1 + n2->le O ky (kas_item a i) (kas_item a j))
  {Q:Bool->SortSt->Shared->Prop} (q:∀ai:SortSt,kindOf ai=κ->pendingOf ai=(P.setIfInBounds i (p,n1 + n2,pw)).eraseIdxIfInBounds (i + 1)->failedOf ai=none->(arrOf ai).toList.Perm a.toList->Up O ky p (arrOf ai) (n1 + n2)->
   (∀t,t < p\/p + n1 + n2<=t->kas_item (arrOf ai) t=kas_item a t)->Q true ai s):
  kasC (model prog w) A E (GG i) Q (SortSt.mk' κ a P g none) s:=by
 rw[E4];refine P3 (kasC_get ?_);dsimp only;have e0:(pendingOf (SortSt.mk' κ a P g none))[i]?=some (p,n1,pw):=NJ;have e1:(pendingOf (SortSt.mk' κ a P g none))[i + 1]?=some (p + n1,n2,z):=HN;rw[e0,e1];dsimp only;refine P3 (yE ?_);refine P3 (aS (aG (x:=a) (show p + n1 < a.size by omega)) (P3 ?_));refine iU T (λt=>kas_item a (p + t)) (λt ht=>aG (x:=a) (by omega)) (λt ht=>hm _ (by omega)) (hm (p + n1) (by omega)) (by omega) (λi j gj hj hb=>?_) rfl (λk hk1 cQ iP=>?_)
 ·unfold dW at hb ⊢;rw[if_neg (by simp)] at hb ⊢;have:=sA (p + i) (p + j) (by omega) (by omega) (by omega);cases zz:O.blt (ky (kas_item a (p + n1))) (ky (kas_item a (p + i))) with
  | false=>rfl
  | true=>have z2:O.blt (ky (kas_item a (p + n1))) (ky (kas_item a (p + j)))=true:=KeyOrd.klt_of_klt_of_kle zz this;have jA:(!O.blt (ky (kas_item a (p + n1))) (ky (kas_item a (p + j))))=true:=hb;rw[z2] at jA;cases jA
 have lo:∀t,p<=t->t < p + k->le O ky (kas_item a t) (kas_item a (p + n1)):=λt h0 ht=>by have zz:=cQ (t - p) (by omega);unfold dW at zz;rw[if_neg (by simp)] at zz;have z2:(!O.blt (ky (kas_item a (p + n1))) (ky (kas_item a (p + (t - p)))))=true:=zz;rw[show p + (t - p)=t by omega] at z2;show O.blt (ky (kas_item a (p + n1))) (ky (kas_item a t))=false;simpa using z2
 have up:∀t,p + k<=t->t < p + n1->O.blt (ky (kas_item a (p + n1))) (ky (kas_item a t))=true:=λt h1 h2=>by have zz:=iP (t - p) (by omega) (by omega);unfold dW at zz;rw[if_neg (by simp)] at zz;have z2:(!O.blt (ky (kas_item a (p + n1))) (ky (kas_item a (p + (t - p)))))=false:=zz;rw[show p + (t - p)=t by omega] at z2;simpa using z2
 have xx:∀b:Array Keyed,(∀i j,i < j->j < b.size->le O ky (kas_item b i) (kas_item b j))->hU O ky b.toList:=λb hb=>by
  refine List.pairwise_iff_getElem.mpr λi j hi hj gj=>?_
  have e:∀k,(h:k < b.size)->kas_item b k=b.toList[k]'(by simpa using h):=λk h=>by unfold kas_item;simp[Array.getD,h]
  rw[<-e i (by simpa using hi),<-e j (by simpa using hj)];exact hb i j gj (by simpa using hj)
 dsimp only;by_cases c:(n1 - k==0)=true
 ·rw[if_pos c];have c':n1 - k=0:=by simpa using c
  refine P7 (q _ rfl rfl rfl (List.Perm.refl _) (λi j hi gj hj=>?_) λt _=>rfl);by_cases ci:j < p + n1
  ·exact sA i j hi gj ci
  ·by_cases cj:i < p + n1
   ·exact Qq (lo i hi (by omega)) (sB (p + n1) j (P4 _) (by omega) (by omega))
   ·exact sB i j (by omega) (by omega) (by omega)
 ·rw[if_neg c];have c':¬n1 - k=0:=by simpa using c
  refine P3 (aS (aG (x:=a) (show p + k + (n1 - k) - 1 < a.size by omega)) (P3 ?_));have el:p + k + (n1 - k) - 1=p + n1 - 1:=by omega
  refine iU T (λt=>kas_item a (p + n1 + t)) (λt ht=>aG (x:=a) (by omega)) (λt ht=>hm _ (by omega)) (hm _ (by omega)) (by omega) (λi j gj hj hb=>?_) rfl (λm Kg hmlt hmge=>?_)
  ·unfold dW at hb ⊢;rw[if_pos rfl] at hb ⊢;exact KeyOrd.klt_of_kle_of_klt (sB (p + n1 + i) (p + n1 + j) (by omega) (by omega) (by omega)) hb
  have O6:∀t,p + n1<=t->t < p + n1 + m->O.blt (ky (kas_item a t)) (ky (kas_item a (p + n1 - 1)))=true:=λt h1 h2=>by have zz:=hmlt (t - (p + n1)) (by omega);unfold dW at zz;rw[if_pos rfl,el] at zz;have z2:O.blt (ky (kas_item a (p + n1 + (t - (p + n1))))) (ky (kas_item a (p + n1 - 1)))=true:=zz;rw[show p + n1 + (t - (p + n1))=t by omega] at z2;exact z2
  have Mk:∀t,p + n1 + m<=t->t < p + n1 + n2->le O ky (kas_item a (p + n1 - 1)) (kas_item a t):=λt h1 h2=>by have zz:=hmge (t - (p + n1)) (by omega) (by omega);unfold dW at zz;rw[if_pos rfl,el] at zz;have z2:O.blt (ky (kas_item a (p + n1 + (t - (p + n1))))) (ky (kas_item a (p + n1 - 1)))=false:=zz;rw[show p + n1 + (t - (p + n1))=t by omega] at z2;exact z2
  have m0:m≠0:=λe=>by have z1:=Mk (p + n1) (by omega) (by omega);have z2:=up (p + n1 - 1) (by omega) (by omega);exact KeyOrd.not_klt_of_kle z1 z2
  dsimp only;rw[if_neg (by simpa using m0)];have gx:∀t,t < n1 - k->kas_item (a.extract (p + k) (p + n1)) t=kas_item a (p + k + t):=λt ht=>by unfold kas_item;simp[Array.getD,show t < p + n1 - (p + k) by omega,show p + k + t < a.size by omega,show min (p + n1) a.size=p + n1 by omega]
  have gy:∀t,t < m->kas_item (a.extract (p + n1) (p + n1 + m)) t=kas_item a (p + n1 + t):=λt ht=>by unfold kas_item;simp[Array.getD,show p + n1 + t < a.size by omega,show min (p + n1 + m) a.size=p + n1 + m by omega,ht]
  have sx:(a.extract (p + k) (p + n1)).size=n1 - k:=by simp;omega
  have sy:(a.extract (p + n1) (p + n1 + m)).size=m:=by simp;omega
  have MM:MP O ky Mem (a.extract (p + k) (p + n1)) (a.extract (p + n1) (p + n1 + m)):=by
   refine⟨xx _ λi j gj hj=>?_,xx _ λi j gj hj=>?_,λi hi=>?_,λi hi=>?_,by omega,by omega,?_,λj hj=>?_⟩
   ·rw[gx i (by omega),gx j (by omega)];exact sA _ _ (by omega) (by omega) (by omega)
   ·rw[gy i (by omega),gy j (by omega)];exact sB _ _ (by omega) (by omega) (by omega)
   ·rw[gx i (by omega)];exact hm _ (by omega)
   ·rw[gy i (by omega)];exact hm _ (by omega)
   ·rw[gx 0 (by omega),gy 0 (by omega)];exact up (p + k) (P4 _) (by omega)
   ·rw[sx,gx (n1 - k - 1) (by omega),gy j (by omega),show p + k + (n1 - k - 1)=p + n1 - 1 by omega];exact O6 _ (by omega) (by omega)
  have lx:(a.extract (p + k) (p + n1)).toList=(a.toList.drop (p + k)).take (n1 - k):=by have:=BA a (k:=p + k) (i:=p + n1);rw[show p + n1 - (p + k)=n1 - k by omega] at this;exact this
  have ly:(a.extract (p + n1) (p + n1 + m)).toList=(a.toList.drop (p + n1)).take m:=kU a (p + n1) m;have fin:∀(v:Array Keyed) (ai:SortSt),kindOf ai=κ->arrOf ai=a->pendingOf ai=(P.setIfInBounds i (p,n1 + n2,pw)).eraseIdxIfInBounds (i + 1)->failedOf ai=none->sO O ky (a.extract (p + k) (p + n1)).toList (a.extract (p + n1) (p + n1 + m)).toList v.toList->
    kasC (model prog w) A E (do
     modify λt=>SortSt.mk' (kindOf t) (back v (p + k) (arrOf t)) (pendingOf t) (gallopOf t) (failedOf t)
     let t<-get
     pure (failedOf t).isNone) Q ai s:=λv ai k1 k2 k3 k4 hv=>by
   refine P3 (kasC_modify (P3 (kasC_get (P7 ?_))));obtain⟨vp,vs⟩:=hv;have vl:v.toList.length=n1 - k + m:=by rw[vp.length_eq,Qf];simp only[Qj];omega
   have bl:(back v (p + k) a).toList=a.toList.take (p + k)++v.toList++a.toList.drop (p + n1 + m):=by
    have:=mC v.toList (p + k) 0 a (by omega);unfold back;refine Eq.trans ?_ (this.trans ?_)
    ·rfl
    ·rw[Nat.add_zero,vl,show p + k + (n1 - k + m)=p + n1 + m by omega]
   have al:a.toList.length=a.size:=Qj;have NX:a.toList=a.toList.take (p + k)++((a.toList.drop (p + k)).take (n1 - k)++(a.toList.drop (p + n1)).take m)++a.toList.drop (p + n1 + m):=by have b1:=lp (l:=a.toList) (i:=p + n1) (k:=p + k) (by omega);rw[show p + n1 - (p + k)=n1 - k by omega] at b1;rw[Qd,Qd,<-cZ (l:=a.toList) (i:=p + n1) (k:=m),<-b1,List.take_append_drop]
   have pm:(back v (p + k) a).toList.Perm a.toList:=by
    rw[bl]
    conv=>rhs;rw[NX]
    rw[lx,ly] at vp;exact((List.Perm.refl _).append vp).append (List.Perm.refl _)
   have Lb:∀e∈v.toList,(∃t,p + k<=t/\t < p + n1/\e=kas_item a t)\/(∃t,p + n1<=t/\t < p + n1 + m/\e=kas_item a t):=λe he=>by
    rw[lx,ly] at vp;rcases Ql.mp (vp.mem_iff.mp he) with he | he
    ·obtain⟨t,t1,t2,t3,rfl⟩:=aW he;exact .inl ⟨t,t1,by omega,rfl⟩
    ·obtain⟨t,t1,t2,t3,rfl⟩:=aW he;exact .inr ⟨t,t1,by omega,rfl⟩
   have zP:∀t,t < p + k->kas_item (back v (p + k) a) t=kas_item a t:=λt ht=>by rw[item_list,item_list,bl,Qd,zu (by rw[List.length_take];omega)];rw[List.getD_eq_getElem?_getD,List.getD_eq_getElem?_getD,List.getElem?_take_of_lt ht]
   have at2:∀t,p + k<=t->t < p + n1 + m->kas_item (back v (p + k) a) t=v.toList.getD (t - (p + k)) (Value.none,Value.none):=λt h1 h2=>by
    have hl:(a.toList.take (p + k)).length=p + k:=by rw[List.length_take];omega
    rw[item_list,bl,Qd,yk (by omega),hl,zu (by omega)]
   have GN:∀t,p + n1 + m<=t->kas_item (back v (p + k) a) t=kas_item a t:=λt h1=>by
    have hl:(a.toList.take (p + k)++v.toList).length=p + n1 + m:=by rw[Qf,List.length_take];omega
    rw[item_list,item_list,bl,yk (by omega),hl];rw[List.getD_eq_getElem?_getD,List.getD_eq_getElem?_getD,List.getElem?_drop];congr 2;omega
   have vh:∀t,p + k<=t->t < p + n1 + m->(∃u,p + k<=u/\u < p + n1/\kas_item (back v (p + k) a) t=kas_item a u)\/(∃u,p + n1<=u/\u < p + n1 + m/\kas_item (back v (p + k) a) t=kas_item a u):=λt h1 h2=>by rw[at2 t h1 h2];refine Lb _ ?_;rw[List.getD_eq_getElem?_getD,Qn (by omega)];exact List.getElem_mem _
   have ss:Up O ky p (back v (p + k) a) (n1 + n2):=λi j hi gj hj=>by
    show le O ky (kas_item (back v (p + k) a) i) (kas_item (back v (p + k) a) j);by_cases c1:j < p + k
    ·rw[zP i (by omega),zP j c1];exact sA i j hi gj (by omega)
    by_cases c2:j < p + n1 + m
    ·by_cases c3:i < p + k
     ·rw[zP i c3];rcases vh j (by omega) c2 with ⟨u,u1,u2,e⟩ | ⟨u,u1,u2,e⟩
      ·rw[e];exact sA i u hi (by omega) u2
      ·rw[e];exact Qq (lo i hi c3) (sB (p + n1) u (P4 _) u1 (by omega))
     ·rw[at2 i (by omega) (by omega),at2 j (by omega) c2];exact CO vs (by omega) (by omega)
    ·rw[GN j (by omega)];by_cases c3:i < p + k
     ·rw[zP i c3];exact Qq (lo i hi c3) (sB (p + n1) j (P4 _) (by omega) (by omega))
     by_cases c4:i < p + n1 + m
     ·rcases vh i (by omega) c4 with ⟨u,u1,u2,e⟩ | ⟨u,u1,u2,e⟩
      ·rw[e];exact Qq (sA u (p + n1 - 1) (by omega) (by omega) (by omega)) (Mk j (by omega) (by omega))
      ·rw[e];exact sB u j u1 (by omega) (by omega)
     ·rw[GN i (by omega)];exact sB i j (by omega) gj (by omega)
   have qq:=q (SortSt.mk' (kindOf ai) (back v (p + k) (arrOf ai)) (pendingOf ai) (gallopOf ai) (failedOf ai)) k1 k3 k4 (by rw[k2];exact pm) (by rw[k2];exact ss) (λt ht=>by
    show kas_item (back v (p + k) (arrOf ai)) t=_;rw[k2];rcases ht with ht | ht
    ·exact zP t (by omega)
    ·exact GN t (by omega))
   have e:(failedOf ai).isNone=true:=by rw[k4];rfl
   show Q (failedOf ai).isNone _ s;rw[e];exact qq
  by_cases d:n1 - k<=m
  ·rw[if_pos d];refine P3 (zZ T MM rfl λv ai si hv=>?_);exact fin v ai si.1 si.2.1 si.2.2.1 si.2.2.2 hv
  ·rw[if_neg d];refine P3 (Bj T MM rfl λv ai si hv=>?_);exact fin v ai si.1 si.2.1 si.2.2.1 si.2.2.2 hv
end
section
variable {O:KeyOrd} {ky:Keyed->O.α} {Mem:Keyed->Prop}
variable {prog:Program} {w:World} {A:Around} {E:Value->Shared->Prop} {κ:SortKind} {s:Shared} {a:Array Keyed}
def Rn (O:KeyOrd) (ky:Keyed->O.α) (b:Array Keyed):List (Nat×Nat×Nat)->Nat->Nat->Prop
 | [],lo,hi=>lo=hi
 | x::r,lo,hi=>x.1=lo/\1<=x.2.1/\Up O ky lo b x.2.1/\Rn O ky b r (lo + x.2.1) hi
def Rn.le {b:Array Keyed}:∀{l:List (Nat×Nat×Nat)} {lo hi:Nat},Rn O ky b l lo hi->lo + l.length<=hi
 | [],lo,hi,h=>by have h:lo=hi:=h;simp;omega
 | x::r,lo,hi,h=>by obtain⟨_,h2,_,h4⟩:=h;have:=Rn.le h4;simp only[Qh];omega
def Rn.app {b:Array Keyed}:∀{l m:List (Nat×Nat×Nat)} {lo hi:Nat},Rn O ky b (l++m) lo hi↔∃k,Rn O ky b l lo k/\Rn O ky b m k hi
 | [],m,lo,hi=>⟨λh=>⟨lo,rfl,h⟩,λ⟨k,h1,h2⟩=>by have h1:lo=k:=h1;subst h1;exact h2⟩
 | x::r,m,lo,hi=>by
  constructor
  ·rintro⟨h1,h2,h3,h4⟩;obtain⟨k,k1,k2⟩:=Rn.app.mp h4;exact⟨k,⟨h1,h2,h3,k1⟩,k2⟩
  ·rintro⟨k,⟨h1,h2,h3,h4⟩,k2⟩;exact⟨h1,h2,h3,Rn.app.mpr ⟨k,h4,k2⟩⟩
def Rn.congr {b c:Array Keyed}:∀{l:List (Nat×Nat×Nat)} {lo hi:Nat},Rn O ky b l lo hi->(∀t,lo<=t->t < hi->kas_item c t=kas_item b t)->Rn O ky c l lo hi
 | [],lo,hi,h,_=>h
 | x::r,lo,hi,⟨h1,h2,h3,h4⟩,e=>by have hl:=Rn.le h4;refine⟨h1,h2,λi j hi gj hj=>?_,Rn.congr h4 λt a b=>e t (by omega) b⟩;rw[e i (by omega) (by omega),e j (by omega) (by omega)];exact h3 i j hi gj hj
structure Ru (O:KeyOrd) (ky:Keyed->O.α) (κ:SortKind) (a:Array Keyed) (lo:Nat) (st:SortSt):Prop where
 k:kindOf st=κ
 f:failedOf st=none
 pm:(arrOf st).toList.Perm a.toList
 rn:Rn O ky (arrOf st) (pendingOf st).toList 0 lo
def Ru.size {lo:Nat} {st:SortSt} (h:Ru O ky κ a lo st):(arrOf st).size=a.size:=by have:=h.pm.length_eq;simpa using this
def Ru.mem {lo:Nat} {st:SortSt} (h:Ru O ky κ a lo st) (hb:∀x∈a.toList,Mem x) {i:Nat} (hi:i < (arrOf st).size):Mem (kas_item (arrOf st) i):=by refine hb _ (h.pm.mem_iff.mp ?_);unfold kas_item;simp[Array.getD,hi]
def EF {α:Type} {l:List α} {i:Nat} (h:i + 1 < l.length):∃l1 x y l2,l=l1++x::y::l2/\l1.length=i:=by refine⟨l.take i,l[i],l[i + 1],l.drop (i + 2),?_,by rw[List.length_take];omega⟩;rw[<-List.drop_eq_getElem_cons h,<-List.drop_eq_getElem_cons (by omega),List.take_append_drop]
def rR {P:Array (Nat×Nat×Nat)} {l1 l2:List (Nat×Nat×Nat)} {x y v:Nat×Nat×Nat} {i:Nat} (h:P.toList=l1++x::y::l2) (hi:l1.length=i):((P.setIfInBounds i v).eraseIdxIfInBounds (i + 1)).toList=l1++v::l2:=by
 have gY:P.size=l1.length + (l2.length + 2):=by have:=congrArg List.length h;simp at this;omega
 have e1:(P.setIfInBounds i v).toList=l1++v::y::l2:=by rw[Array.toList_setIfInBounds,h,<-hi,List.set_append_right _ _ (P4 _)];simp
 unfold Array.eraseIdxIfInBounds;rw[dif_pos (by rw[Array.size_setIfInBounds];omega),Array.toList_eraseIdx,e1,<-hi];rw[List.eraseIdx_append_of_length_le (by omega)];simp
def qB (T:Tells prog w A κ s O ky Mem) (hb:∀x∈a.toList,Mem x) {lo i:Nat} {st:SortSt} (h:Ru O ky κ a lo st) (nr:lo<=a.size) (hi:i + 1 < (pendingOf st).size) {Q:Bool->SortSt->Shared->Prop}
  (q:∀ai,Ru O ky κ a lo ai->(pendingOf ai).size + 1=(pendingOf st).size->(∀t,lo<=t->kas_item (arrOf ai) t=kas_item (arrOf st) t)->Q true ai s):kasC (model prog w) A E (GG i) Q st s:=by
 obtain⟨l1,x,y,l2,hl,hlen⟩:=EF (l:=(pendingOf st).toList) (i:=i) (by simpa using hi);have gY:=h.size;have rn:=h.rn;rw[hl] at rn;obtain⟨p,r1,r2⟩:=Rn.app.mp rn;obtain⟨xp,xn,xw⟩:=x;obtain⟨yp,yn,yw⟩:=y;obtain⟨e1,x1,x2,e2,y1,y2,r3⟩:=r2;have e1:xp=p:=e1;have e2:yp=p + xn:=e2;subst e1 e2;have h3:=r3.le;simp only at x1 x2 y1 y2 r3 h3;have eP:∀j,(pendingOf st)[j]?=(l1++(xp,xn,xw)::(xp + xn,yn,yw)::l2)[j]?:=λj=>by rw[<-hl,Array.getElem?_toList]
 have g1:(pendingOf st)[i]?=some (xp,xn,xw):=by rw[eP,QF (by omega),show i - l1.length=0 by omega];rfl
 have g2:(pendingOf st)[i + 1]?=some (xp + xn,yn,yw):=by rw[eP,QF (by omega),show i + 1 - l1.length=1 by omega];rfl
 have NZ:st=SortSt.mk' κ (arrOf st) (pendingOf st) (gallopOf st) none:=by have e:st=SortSt.mk' (kindOf st) (arrOf st) (pendingOf st) (gallopOf st) (failedOf st):=rfl;rw[h.k,h.f] at e;exact e
 have z:=Lf (E:=E) T (a:=arrOf st) (P:=pendingOf st) (g:=gallopOf st) g1 g2 (by omega) x1 y1 (λi hi=>h.mem hb hi) (λi j a b c=>x2 i j a b c) (λi j a b c=>y2 i j a b c) (Q:=Q) λai k1 k2 k3 k4 k5 k6=>?_
 ·rw[<-NZ] at z;exact z
 ·have ee:=rR (v:=(xp,xn + yn,xw)) hl hlen;refine q ai ⟨k1,k3,k4.trans h.pm,?_⟩ ?_ λt ht=>k6 t (.inr (by omega))
  ·rw[k2,ee];refine Rn.app.mpr ⟨xp,r1.congr λt _ ht=>k6 t (.inl ht),rfl,by show 1<=xn + yn;omega,k5,?_⟩;have:Rn O ky (arrOf ai) l2 (xp + xn + yn) lo:=r3.congr λt ht _=>k6 t (.inr ht)
   rw[Nat.add_assoc] at this;exact this
  ·rw[k2,<-Qj,ee,<-Qj,hl];simp;omega
def D6 (T:Tells prog w A κ s O ky Mem) (hb:∀x∈a.toList,Mem x) {lo size pw:Nat} {st:SortSt} (h:Ru O ky κ a lo st) (nr:lo<=a.size) (hp:1<=(pendingOf st).size) {Q:Option Unit×Unit->SortSt->Shared->Prop}
  (q:∀ai,Ru O ky κ a lo ai->1<=(pendingOf ai).size->(∀t,lo<=t->kas_item (arrOf ai) t=kas_item (arrOf st) t)->Q (none,()) ai s):kasC (model prog w) A E (L3 size pw) Q st s:=by
 unfold L3;refine dF (λ_ c ai=>c=(none,())/\Ru O ky κ a lo ai/\1<=(pendingOf ai).size/\∀t,lo<=t->kas_item (arrOf ai) t=kas_item (arrOf st) t) ⟨rfl,h,hp,λ_ _=>rfl⟩ (λx c ai _ _ hI=>?_) (λc ai hI=>?_)
 ·obtain⟨rfl,h',kB,he⟩:=hI;refine P3 (kasC_get ?_);by_cases c1:(pendingOf ai).size > 1
  ·rw[if_pos c1];have:(pendingOf ai)[(pendingOf ai).size - 2]?=some (pendingOf ai)[(pendingOf ai).size - 2]:=by simp
   rw[this];dsimp only;by_cases c2:(pendingOf ai)[(pendingOf ai).size - 2].2.2<=pw
   ·rw[if_pos c2];exact P7 ⟨rfl,q _ h' kB he⟩
   ·rw[if_neg c2];refine P3 (qB T hb h' nr (by omega) λdQ h2 s2 e2=>?_);rw[if_neg (by simp)];exact P7 ⟨rfl,rfl,h2,by omega,λt ht=>(e2 t ht).trans (he t ht)⟩
  ·rw[if_neg c1];exact P7 ⟨rfl,q _ h' kB he⟩
 ·obtain⟨rfl,h',kB,he⟩:=hI;exact q _ h' kB he
def Rn.Li {b:Array Keyed} {l:List (Nat×Nat×Nat)} {x y:Nat×Nat×Nat} {lo hi:Nat} (h:Rn O ky b (l++[x]) lo hi) (e1:y.1=x.1) (e2:y.2.1=x.2.1):Rn O ky b (l++[y]) lo hi:=by obtain⟨k,k1,h1,h2,h3,h4⟩:=Rn.app.mp h;exact Rn.app.mpr ⟨k,k1,e1.trans h1,by rw[e2];exact h2,by rw[e2];exact h3,by rw[e2];exact h4⟩
def snoc {α:Type} {P:Array α} (h:1<=P.size):∃l x,P.toList=l++[x]/\P.back?=some x:=by
 have oU:P.toList≠[]:=λz=>by have:=congrArg List.length z;simp at this;rw[this] at h;simp at h
 refine⟨P.toList.dropLast,P.toList.getLast oU,(List.dropLast_concat_getLast oU).symm,?_⟩;rw[<-Array.getLast?_toList,List.getLast?_eq_some_getLast oU]
def jl {α:Type} (f:α->α):∀(l:List α) (x:α),(l++[x]).modify l.length f=l++[f x]
 | [],x=>rfl
 | y::l,x=>by show y::(l++[x]).modify l.length f=y::(l++[f x]);rw[jl f l x]
def wF (T:Tells prog w A κ s O ky Mem) (hb:∀x∈a.toList,Mem x) {size lo n:Nat} {st:SortSt} (h:Ru O ky κ a lo st) (nr:lo<=a.size) (hn:1<=n) (hu:Up O ky lo (arrOf st) n) (h0:1<=(pendingOf st).size\/lo=0) {Q:ForInStep (Option Unit×Nat)->SortSt->Shared->Prop}
  (q:∀ai,Ru O ky κ a (lo + n) ai->1<=(pendingOf ai).size->Q (.yield (none,lo + n)) ai s):kasC (model prog w) A E (Jv size lo n) Q st s:=by
 unfold Jv;refine P3 (kasC_get ?_);by_cases hp:1<=(pendingOf st).size
 ·obtain⟨l,x,hl,Pb⟩:=snoc hp;rw[Pb];obtain⟨s1,n1,w1⟩:=x;dsimp only;refine P3 (D6 T hb h nr hp λdQ h2 p2 e2=>?_);dsimp only;obtain⟨l2,x2,dh,OQ⟩:=snoc p2;have Oq:(pendingOf dQ).size=l2.length + 1:=by have:=congrArg List.length dh;simp at this;omega
  refine P3 (kasC_modify (P3 (kasC_modify (P7 (q _ ⟨h2.k,h2.f,h2.pm,?_⟩ ?_)))))
  ·show Rn O ky (arrOf dQ) (((pendingOf dQ).modify ((pendingOf dQ).size - 1) _).push (lo,n,0)).toList 0 (lo + n);rw[Array.toList_push,Array.toList_modify,dh,Oq];have em:(l2++[x2]).modify (l2.length + 1 - 1) (λ(x:Nat×Nat×Nat)=>(x.1,x.2.1,power' size (2 * s1 + n1) (2 * s1 + n1 + n1 + n) size))=l2++[(x2.1,x2.2.1,power' size (2 * s1 + n1) (2 * s1 + n1 + n1 + n) size)]:=by rw[Nat.add_sub_cancel];exact jl _ _ _
   rw[show (λ(x:Nat×Nat×Nat)=>match x with | (st,len,_)=>(st,len,power' size (2 * s1 + n1) (2 * s1 + n1 + n1 + n) size))=λ(x:Nat×Nat×Nat)=>(x.1,x.2.1,power' size (2 * s1 + n1) (2 * s1 + n1 + n1 + n) size) from rfl,em];have rn:=h2.rn;rw[dh] at rn;refine Rn.app.mpr ⟨lo,rn.Li rfl rfl,rfl,hn,λi j hi gj hj=>?_,rfl⟩;rw[e2 i hi,e2 j (by omega)];exact hu i j hi gj hj
  ·show 1<=(((pendingOf dQ).modify ((pendingOf dQ).size - 1) _).push (lo,n,0)).size;rw[QK];omega
 ·have hz:(pendingOf st).size=0:=by omega
  have e:(pendingOf st).back?=none:=by rw[Array.back?_eq_none_iff];exact Array.eq_empty_of_size_eq_zero hz
  rw[e];have JO:lo=0:=h0.resolve_left hp;subst JO;refine P3 (kasC_modify (P7 (q _ ⟨h.k,h.f,h.pm,?_⟩ ?_)))
  ·show Rn O ky (arrOf st) ((pendingOf st).push (0,n,0)).toList 0 (0 + n);rw[Array.toList_push,Array.eq_empty_of_size_eq_zero hz];exact⟨rfl,hn,hu,rfl⟩
  ·show 1<=((pendingOf st).push (0,n,0)).size;rw[QK];omega
def D4 (T:Tells prog w A κ s O ky Mem) (hb:∀x∈a.toList,Mem x) {mr lo:Nat} {st:SortSt} (h:Ru O ky κ a lo st) (nr:lo < a.size) (hm:1<=mr) (h0:1<=(pendingOf st).size\/lo=0) {Q:ForInStep (Option Unit×Nat)->SortSt->Shared->Prop}
  (q:∀ai n,1<=n->lo + n<=a.size->Ru O ky κ a (lo + n) ai->1<=(pendingOf ai).size->Q (.yield (none,lo + n)) ai s):kasC (model prog w) A E (Hq a.size mr lo) Q st s:=by
 unfold Hq;rw[if_neg (by omega)];have gY:=h.size;have jA:∀x∈(arrOf st).toList,Mem x:=λx hx=>hb x (h.pm.mem_iff.mp hx)
 have b0:Bs κ (pendingOf st) lo (arrOf st) st:=⟨h.k,h.f,rfl,List.Perm.refl _,λ_ _=>rfl⟩;have Mq:∀{ai:SortSt},Bs κ (pendingOf st) lo (arrOf st) ai->Ru O ky κ a lo ai:=λb=>⟨b.k,b.f,b.pm.trans h.pm,by rw[b.p];exact h.rn.congr λt _ ht=>b.lw t ht⟩
 refine P3 (Ib T jA b0 (m:=a.size - lo) (by omega) (by omega) λai k b' k1 k2 ku=>?_);dsimp only;by_cases c:k < mr
 ·rw[if_pos c];refine P3 (kasC_lift (wpAny_rule ?_));refine P3 (Ik T jA b' (n:=min (a.size - lo) mr) (by omega) k1 (by omega) ku λdQ b2 u2=>?_);rw[if_neg (by simp)];exact wF T hb (Mq b2) (by omega) (by omega) u2 (by rw[b2.p];exact h0) λFA h3 p3=>q FA _ (by omega) (by omega) h3 p3
 ·rw[if_neg c];exact wF T hb (Mq b') (by omega) (by omega) ku (by rw[b'.p];exact h0) λFA h3 p3=>q FA _ (by omega) (by omega) h3 p3
def Ic {P:Array (Nat×Nat×Nat)} (h:1 < P.size):ix P + 1 < P.size:=by grind [ix]
def Eg (T:Tells prog w A κ s O ky Mem) (hb:∀x∈a.toList,Mem x) {st:SortSt} (h:Ru O ky κ a a.size st) {Q:Option Unit×Unit->SortSt->Shared->Prop}
  (q:∀ai,Ru O ky κ a a.size ai->(pendingOf ai).size<=1->Q (none,()) ai s):kasC (model prog w) A E (IC a.size) Q st s:=by
 unfold IC;have hle:=h.rn.le;simp at hle;refine dF (λx c ai=>c=(none,())/\Ru O ky κ a a.size ai/\(pendingOf ai).size<=max 1 (a.size - x)) ⟨rfl,h,by omega⟩ (λx c ai _ hx hI=>?_) (λc ai hI=>?_)
 ·obtain⟨rfl,h',hp⟩:=hI;refine P3 (kasC_get ?_);by_cases c1:(pendingOf ai).size<=1
  ·rw[if_pos c1];exact P7 ⟨rfl,q _ h' c1⟩
  ·rw[if_neg c1];refine P3 (qB T hb h' (P4 _) (Ic (by omega)) λdQ h2 s2 _=>?_);rw[if_neg (by simp)];exact P7 ⟨rfl,rfl,h2,by omega⟩
 ·obtain⟨rfl,h',hp⟩:=hI;exact q _ h' (by omega)
def kG:∀(f n r:Nat),1<=n->1<=minRun' f n r
 | 0,n,r,h=>by
  have e:minRun' 0 n r=n + r:=by kernel_rfl
  rw[e];omega
 | f + 1,n,r,h=>by
  rw[minRun'_succ];split
  ·omega
  ·exact kG f (n / 2) _ (by omega)
def Eu (T:Tells prog w A κ s O ky Mem) (hb:∀x∈a.toList,Mem x) (h2:2<=a.size) {g:Nat} {Q:Unit->SortSt->Shared->Prop}
  (q:∀ai:SortSt,failedOf ai=none->(arrOf ai).toList.Perm a.toList->hU O ky (arrOf ai).toList->Q () ai s):kasC (model prog w) A E sortRuns' Q (SortSt.mk' κ a #[] g none) s:=by
 rw[FJ];unfold sR;refine P3 (kasC_get ?_);have MK:=kG a.size a.size 0 (by omega);show kasC _ _ _ (do
  let r<-forIn [:a.size] ((none,0):Option Unit×Nat) λ_ r=>Hq a.size (minRun' a.size a.size 0) r.2
  match r.1 with
  | some v=>pure v
  | none=>do
   let r<-IC a.size
   match r.1 with
   | some v=>pure v
   | none=>pure ()) _ _ _
 generalize minRun' a.size a.size 0=mr at MK ⊢;refine P3 (bL (Q:=λr ai s'=>s=s'/\r.1=none/\Ru O ky κ a a.size ai) (dF (λx c ai=>∃lo,c=(none,lo)/\x<=lo/\lo<=a.size/\Ru O ky κ a lo ai/\(1<=(pendingOf ai).size\/lo=0)) ⟨0,rfl,P4 _,by omega,⟨rfl,rfl,List.Perm.refl _,rfl⟩,.inr rfl⟩ (λx c ai _ hx hI=>?_) (λc ai hI=>?_)) (λr ai s' hI=>?_))
 ·obtain⟨lo,rfl,O5,nr,h,h0⟩:=hI;by_cases c:lo < a.size
  ·exact D4 T hb h c MK h0 λdQ n n1 n2 h2 p2=>⟨rfl,lo + n,rfl,by omega,n2,h2,.inl p2⟩
  ·have e:lo=a.size:=by omega
   subst e;unfold Hq;rw[if_pos (P4 _)];exact P7 ⟨rfl,rfl,rfl,h⟩
 ·obtain⟨lo,rfl,O5,nr,h,h0⟩:=hI;have e:lo=a.size:=by omega
  subst e;exact⟨rfl,rfl,h⟩
 ·obtain⟨rfl,e,h⟩:=hI;obtain⟨r1,r2⟩:=r;cases e;refine P3 (Eg T hb h λdQ g1 g2=>P7 (q dQ g1.f g1.pm ?_));have rn:=g1.rn
  match hl:(pendingOf dQ).toList,rn with
  | [],rn=>have rn:0=a.size:=rn;omega
  | [x],rn=>obtain⟨_,_,u,e⟩:=rn;have e:0 + x.2.1=a.size:=e;exact Up.jf (g1.size.trans (by omega)) u
  | x::y::r,_=>exfalso;have:=congrArg List.length hl;simp at this;omega
end
end MxTim
end
section
namespace Mx
open PySem PySem.W PySem.Spec PyProof.Rows L2 PySem.SeqAt MxSort
def pF {α β:Type} {f:α->β} {l l':List β} (h:l.Perm l'):∀r:List α,l=r.map f->∃p:List α,p.Perm r/\l'=p.map f:=by
 induction h with
 | nil=>intro r e;exact⟨r,List.Perm.refl _,e⟩
 | cons x h ih=>
  intro r e;cases r with
  | nil=>cases e
  | cons y r=>rw[QG] at e;injection e with e1 e2;obtain⟨p,p1,p2⟩:=ih r e2;exact⟨y::p,p1.cons y,by rw[QG,e1,p2]⟩
 | swap x y l=>
  intro r e;cases r with
  | nil=>cases e
  | cons a r=>
   cases r with
   | nil=>rw[QG] at e;injection e with e1 e2;cases e2
   | cons b r=>rw[QG,QG] at e;injection e with e1 e2;injection e2 with e3 e4;exact⟨b::a::r,List.Perm.swap a b r,by rw[QG,QG,e1,e3,e4]⟩
 | trans h1 h2 ih1 ih2=>intro r e;obtain⟨p,p1,p2⟩:=ih1 r e;obtain⟨q,q1,q2⟩:=ih2 p p2;exact⟨q,q1.trans p1,q2⟩
section
variable {prog:Program} {w:World} {A:Around} {E:Value->Shared->Prop} {s:Shared}
def CL {O:KeyOrd} (vs:List Value) (key:Nat->O.α):Prop:=∀i j,i < vs.length->j < vs.length->vs.getD i Value.none=vs.getD j Value.none->key i=key j
open Classical in
noncomputable def DG {O:KeyOrd} (vs:List Value) (key:Nat->O.α) (k:Keyed):O.α:=if h:∃i,i < vs.length/\vs.getD i Value.none=k.1 then key (Classical.choose h) else key 0
def jZ {O:KeyOrd} {vs:List Value} {key:Nat->O.α} (hi:CL vs key) {i:Nat} (h:i < vs.length) (v:Value):DG vs key (vs.getD i Value.none,v)=key i:=by unfold DG;have ex:∃j,j < vs.length/\vs.getD j Value.none=((vs.getD i Value.none,v):Keyed).1:=⟨i,h,rfl⟩;rw[dif_pos ex];have z:=Classical.choose_spec ex;exact hi _ _ z.1 h z.2
def qE (vs:List Value):(vs.toArray.zip vs.toArray).toList=(List.range vs.length).map λi=>(vs.getD i Value.none,vs.getD i Value.none):=by
 refine List.ext_getElem (by simp) λi h1 h2=>?_
 simp at h1;simp[h1]
def Ew {κ:SortKind} {vs:List Value} {O:KeyOrd} {key:Nat->O.α} (T:Tells O key (kas_ask prog w A κ vs) vs.length s) (hi:CL vs key) (h2:2<=vs.length) (OR:vs.length < 1000000) {Q:SortSt->Shared->Prop}
  (hG:∀(p:Array Nat) (ai:SortSt),Ord vs.length p->Up key p vs.length->(arrOf ai).map (·.2)=(p.toList.map λi=>vs.getD i Value.none).toArray->failedOf ai=none->Q ai s):
  wpAny (model prog w) A ((sortRuns').run (SortSt.mk' κ (vs.toArray.zip vs.toArray) #[] 7 none)) (λr s'=>Q r.2 s') E s:=by
 have hz:(vs.toArray.zip vs.toArray).size=vs.length:=by simp
 have T':MxTim.Tells prog w A κ s O (DG vs key) (λk=>∃i,i < vs.length/\k=(vs.getD i Value.none,vs.getD i Value.none)):=by rintro x y ⟨i,BU,rfl⟩ ⟨j,vR,rfl⟩ C hC;rw[jZ hi BU,jZ hi vR] at hC;exact T i j BU vR C hC
 have run:=MxTim.Eu (E:=E) T' (a:=vs.toArray.zip vs.toArray) (λx hx=>by
   rw[qE] at hx;obtain⟨i,i1,i2⟩:=Qy.mp hx;exact⟨i,QJ.mp i1,i2.symm⟩) (by omega) (g:=7) (Q:=λ_ ai s'=>Q ai s') (λai f pm jf=>?_)
 ·exact run
 ·rw[qE] at pm;obtain⟨p,p1,p2⟩:=pF pm.symm (List.range vs.length) rfl;have hl:p.length=vs.length:=by rw[p1.length_eq,List.length_range]
  have cQ:∀i∈p,i < vs.length:=λi hi=>QJ.mp (p1.mem_iff.mp hi)
  refine hG p.toArray ai (by unfold MxSort.Ord;exact p1) (λi j gj hj=>?_) ?_ f
  ·by_cases e:i=j
   ·subst e;exact KeyOrd.kle_refl _
   ·unfold MxTim.hU at jf;rw[p2,List.pairwise_map,List.pairwise_iff_getElem] at jf;have z:=jf i j (by omega) (by omega) (by omega);unfold MxTim.le at z;rw[jZ hi (cQ _ (List.getElem_mem _)),jZ hi (cQ _ (List.getElem_mem _))] at z;unfold qS;rw[show p.toArray.getD i 0=p[i] by simp[Array.getD,show i < p.length by omega],show p.toArray.getD j 0=p[j] by simp[Array.getD,show j < p.length by omega]];exact z
  ·apply Array.toList_inj.mp;rw[Array.toList_map,p2,List.map_map];rfl
def xT {a:Addr} {vs:List Value} {n:Nat} {P:PySem.Fin->Shared->Prop} (ho:s.heap.get? a=some (seqObj "list" vs.toArray n)) (Oa:vs.length < 1000000) {O:KeyOrd} {key:Nat->O.α}
  (hk:2<=vs.length->∀h',(∀b o,b≠a->s.heap.get? b=some o->h'.get? b=some o)->∃κ:SortKind,(∀(Q:SortKind->Shared->Prop) (E:Value->Shared->Prop),Q κ {s with heap:=h'}->wpAny (model prog w) A (keyKind' vs.toArray) Q E {s with heap:=h'})/\
   Tells O key (kas_ask prog w A κ vs) vs.length {s with heap:=h'}/\CL vs key)
  (h:∀(p:Array Nat) (h':Heap) (e:Nat),Ord vs.length p->Up key p vs.length->(∀b o,b≠a->s.heap.get? b=some o->h'.get? b=some o)->h'.get? a=some (seqObj "list" (p.toList.map λi=>vs.getD i Value.none).toArray e)->
   P (.done (.ret .none)) {s with heap:=h'}):wpAny (model prog w) A (Builtin.«list.sort» ⟨[.ref a],[]⟩) P E s:=by
 have ha:a < s.heap.objs.size:=P9 ho;have sS:vs.length<=sizeLine:=by rw[sizeLine_eq];omega
 rw[list_sort_plain];refine PP (listItems_at ho rfl (PP (listUpdate_at ho rfl ?_ (by rw[PY];exact sS) (Nat.zero_le _))));obtain⟨e1,zU⟩:∃e1,(s.heap.update a (Obj.mapSeq λ_=>(#[]:Array Value))).get? a=some (seqObj "list" #[] e1):=⟨_,get?_update_seq ho λ_=>#[]⟩;refine PP (seqEpoch_at zU rfl (PP (wpAny_newTuple ?_ sS)));refine PP (wpAny_newList (wpAny_holding ?_) (Nat.zero_le _));show wpAny (model prog w) A _ P E {s with heap:=((s.heap.update a (Obj.mapSeq λ_=>(#[]:Array Value))).push (seqObj "tuple" vs.toArray 0)).push (seqObj "list" #[] 0)};generalize hh:((s.heap.update a (Obj.mapSeq λ_=>(#[]:Array Value))).push (seqObj "tuple" vs.toArray 0)).push (seqObj "list" #[] 0)=h1;have k1:∀b o,b≠a->s.heap.get? b=some o->h1.get? b=some o:=λb o hb e=>by rw[<-hh];exact PU _ (PU _ ((Qr s.heap _ (Ne.symm hb)).trans e))
 have Kd:h1.get? a=some (seqObj "list" #[] e1):=by rw[<-hh];exact PU _ (PU _ zU)
 dsimp only;have fin:∀(ai:SortSt) (p:Array Nat),Ord vs.length p->Up key p vs.length->(arrOf ai).map (·.2)=(p.toList.map λi=>vs.getD i Value.none).toArray->failedOf ai=none->
   wpAny (model prog w) A (do
    let touched:=(<-seqEpoch a) != e1
    Builtin.List.listUpdate (.ref a) λ_=>(arrOf ai).map (·.2)
    if let some e:=failedOf ai then rule "list.sort.comparison-raised";throw e
    if touched then rule "list.sort.modified";raiseError "ValueError" "list modified during sort"
    ret .none) P E {s with heap:=h1}:=λai p hp hu Eh hf=>by
  refine PP (seqEpoch_at (s:={s with heap:=h1}) Kd rfl ?_);have gY:(p.toList.map λi=>vs.getD i Value.none).toArray.size=vs.length:=by rw[PY,P8,Qj,hp.size]
  rw[Eh];refine PP (listUpdate_at (s:={s with heap:=h1}) Kd rfl ?_ (Nat.zero_le _) (by rw[gY];omega));rw[hf];simp only[bne_self_eq_false,Bool.false_eq_true,if_false];obtain⟨c2,vw⟩:∃c2,(h1.update a (Obj.mapSeq λ_=>(p.toList.map λi=>vs.getD i Value.none).toArray)).get? a=some (seqObj "list" (p.toList.map λi=>vs.getD i Value.none).toArray c2):=⟨_,get?_update_seq Kd λ_=>_⟩;exact PV (h p _ c2 hp hu (λb o hb e=>(Qr h1 _ (Ne.symm hb)).trans (k1 b o hb e)) vw)
 by_cases h2:2<=vs.length
 ·have CU:¬vs.toArray.size < 2:=by rw[PY];omega
  rw[if_neg CU,if_neg CU];obtain⟨κ,Pe,T,hi⟩:=hk h2 h1 k1;refine PP (Pe _ _ ?_);refine PP (wpAny_mono (Ew (s:={s with heap:=h1}) (Q:=λai s'=>s'={s with heap:=h1}/\∃p:Array Nat,Ord vs.length p/\Up key p vs.length/\(arrOf ai).map (·.2)=(p.toList.map λi=>vs.getD i Value.none).toArray/\failedOf ai=none) T hi h2 Oa
   (λp ai hp hu ho hf=>⟨rfl,p,hp,hu,ho,hf⟩)) ?_ λ_ _ e=>e)
  rintro⟨⟨⟩,ai⟩ s' ⟨rfl,p,hp,hu,Eh,hf⟩;exact fin ai p hp hu Eh hf
 ·have CU:vs.toArray.size < 2:=by rw[PY];omega
  rw[if_pos CU,if_pos CU];refine PP (PV ?_);rw[StateT.run_pure];refine PP (PV ?_);refine fin (SortSt.mk' general' (vs.toArray.zip vs.toArray) #[] 7 none) (List.range vs.length).toArray (by unfold MxSort.Ord;simp) (λi j gj hj=>?_) ?_ rfl
  ·rw[show i=j by omega];exact KeyOrd.kle_refl _
  ·apply Array.toList_inj.mp;show (((vs.toArray.zip vs.toArray)).map (·.2)).toList=_
   match vs,h2 with
   | [],_=>simp
   | [v],_=>simp
   | _::_::_,h2=>exact absurd (by simp) h2
end
end Mx
end
section
namespace Mx
open PySem PySem.W PySem.Spec PyProof.Rows L2
def kA {ks:List Str} {us IZ:List Value} (r:aw (ks.map V.str) us) (p:IZ.Perm us):∃dw:List Str,dw.Perm ks/\aw (dw.map V.str) IZ:=by
 have e:us=(us.map λv=>((0:Int),v)).map (·.2):=by rw[List.map_map];simp[Function.comp_def]
 have e':IZ=(IZ.map λv=>((0:Int),v)).map (·.2):=by rw[List.map_map];simp[Function.comp_def]
 rw[e] at r;rw[e'];exact i0 (p.map _) r
def j6 {α:Type} (es:Array α) (d:α):(List.range es.size).map (λj=>es.getD j d)=es.toList:=by
 refine List.ext_getElem (by simp) λi h1 h2=>?_
 simp at h1;simp[Array.getD,h1]
section
variable {prog:Program} {w:World} {A:Around} {E:Value->Shared->Prop} {s:Shared}
def z9 {S:Addr} {ks:List Str} {Q:Value->Shared->Prop} (hS:cT prog w s.heap S ks)
  (h:∀(h':Heap) (d':_) (I T:Addr) (es:Array (Int×Value)) (ep:Nat) (t:SetTable) (vs:List Value) (dw:List Str),zK w I S es ep t vs T 0 h'->I≠S->I≠T->I < h'.objs.size->S < h'.objs.size->T < h'.objs.size->s.heap.objs.size<=I->(T=S\/s.heap.objs.size<=T)->(∀b o,s.heap.get? b=some o->h'.get? b=some o)->dw.Perm ks->aw (dw.map V.str) vs->Q (.ref I) {s with heap:=h',drawn:=d'}):
  wpAny (model prog w) A (pyIter (.ref S)) Q E s:=by
 obtain⟨es,ep,t,ho,fU,hv,BQ,hb,hf,wR,gL⟩:=hS;have hT:s.TypeIs (.ref S) "set":=⟨_,ho,rfl⟩;have jz:S < s.heap.objs.size:=P9 ho;refine wpAny_pyIter_slot hT PySem.F.slot_set_iter (wpAny_call_entry PySem.F.slot_set_iter hT F.j4 ?_ (PySem.F.args_set_iter_1 _));show wpAny _ _ (Builtin.Frozenset.sizeOf S >>=_) _ _ s;refine PP ?_;unfold Builtin.Frozenset.sizeOf;refine PP (wpAny_setEntries_of ho rfl hf (PV ?_));refine PP ?_;unfold setDrawn;refine PP (wpAny_setState_of ho rfl hf ?_);dsimp only;refine PP (dD (PV ?_));show wpAny _ _ (if ((!zv w&&(!t.plain&&decide (es.size > 1)))=true) then _ else _) _ _ s;by_cases yW:zv w=true
 ·rw[if_neg (by rw[yW];simp)];refine PP (PV ?_);refine PP (wpAny_setEpoch_of ho rfl hf ?_);show wpAny _ _ (newFields "set_iterator" [rawInt 0,rawInt 0,.ref S,rawInt es.size,rawInt ep] >>=_) _ _ s;unfold newFields;refine PP (wpAny_newObj_type ?_);refine PV ⟨_,rfl,"set_iterator",_,⟨_,P6 _ rfl,rfl⟩,F.az.lookup,?_⟩;obtain⟨dw,p1,p2⟩:=kA hv ((mv (w.params.setOrder S ep) es).map (·.2));have hI:AG (s.heap.push {cls:= .type "set_iterator",data:= .fields #[rawInt 0,rawInt (0:Nat),.ref S,rawInt es.size,rawInt ep]}) s.heap.objs.size (rawInt 0) 0 S es.size ep:=P6 _ rfl;refine h _ s.drawn s.heap.objs.size S es ep t ((pickOrder (w.params.setOrder S ep) es).toList.map (·.2)) dw ⟨PU _ ho,hf,?_,rawInt 0,hI,.inl ⟨yW,rfl,rfl⟩⟩ (Nat.ne_of_gt jz) (Nat.ne_of_gt jz) ?_ ?_ ?_ (P4 _) (.inl rfl) (λb o e=>PU _ e) p1 p2
  ·rw[P8,(mv _ es).length_eq,Qj]
  ·rw[Qt];exact Nat.lt_succ_self _
  ·rw[Qt];exact Nat.lt_succ_of_lt jz
  ·rw[Qt];exact Nat.lt_succ_of_lt jz
 ·have Ci:zv w=false:=by simpa using yW
  by_cases h1:1 < es.size
  ·have HC:=gL (by omega);rw[if_pos (by rw[Ci,HC,Qs h1];rfl)];refine PP (iF es.size (List.range es.size) (by simp) λπ d hπ=>?_);refine PP (m:=newTuple _) (wpAny_newTuple ?_ (by
    rw[P8,hπ.length_eq,List.length_range];exact fits_of_scanBound hb))
   generalize hh1:s.heap.push {cls:= .type "tuple",data:= .seq (π.map λ(i:Nat)=>rawInt (i:Int)).toArray}=gS;have k1:∀b o,s.heap.get? b=some o->gS.get? b=some o:=λb o e=>by rw[<-hh1];exact PU _ e
   have z1:gS.objs.size=s.heap.objs.size + 1:=by rw[<-hh1,Qt]
   have t1:gS.get? s.heap.objs.size=some {cls:= .type "tuple",dict:=none,data:= .seq (π.map λ(i:Nat)=>rawInt (i:Int)).toArray 0,slots:=#[]}:=by rw[<-hh1];exact P6 _ rfl
   refine PP (wpAny_setEpoch_of (s:={s with heap:=gS,drawn:=d}) (k1 _ _ ho) rfl hf ?_);show wpAny _ _ (newFields "set_iterator" [.ref s.heap.objs.size,rawInt 0,.ref S,rawInt es.size,rawInt ep] >>=_) _ _ _;unfold newFields;refine PP (wpAny_newObj_type ?_);refine PV ⟨_,rfl,"set_iterator",_,⟨_,P6 _ rfl,rfl⟩,F.az.lookup,?_⟩;have hI:AG (gS.push {cls:= .type "set_iterator",data:= .fields #[.ref s.heap.objs.size,rawInt (0:Nat),.ref S,rawInt es.size,rawInt ep]}) gS.objs.size (.ref s.heap.objs.size) 0 S es.size ep:=P6 _ rfl;have pm:(π.map λj=>(es.getD j (0,.none)).2).Perm (es.toList.map (·.2)):=by rw[<-j6 es (0,.none),List.map_map];exact hπ.map _
   obtain⟨dw,p1,p2⟩:=kA hv pm;refine h _ d gS.objs.size s.heap.objs.size es ep t (π.map λj=>(es.getD j (0,.none)).2) dw ⟨PU _ (k1 _ _ ho),hf,?_,.ref s.heap.objs.size,hI,.inr (.inr ⟨Ci,h1,rfl,π,PU _ t1,?_,λj hj=>?_,rfl⟩)⟩ (λe=>?_) (λe=>?_) ?_ ?_ ?_ ?_ (.inr (P4 _)) (λb o e=>PU _ (k1 b o e)) p1 p2
   ·rw[P8,hπ.length_eq,List.length_range]
   ·rw[hπ.length_eq,List.length_range]
   ·exact QJ.mp (hπ.mem_iff.mp hj)
   ·rw[z1] at e;exact Nat.ne_of_gt (Nat.lt_succ_of_lt jz) e
   ·rw[z1] at e;exact Nat.succ_ne_self _ e
   ·rw[Qt];exact Nat.lt_succ_self _
   ·rw[Qt,z1];exact Nat.lt_succ_of_lt (Nat.lt_succ_of_lt jz)
   ·rw[Qt,z1];exact Nat.lt_succ_of_lt (Nat.lt_succ_self _)
   ·rw[z1];exact Nat.le_succ _
  ·rw[if_neg (by rw[Qo h1];simp)];refine PP (PV ?_);refine PP (wpAny_setEpoch_of ho rfl hf ?_);show wpAny _ _ (newFields "set_iterator" [rawInt 0,rawInt 0,.ref S,rawInt es.size,rawInt ep] >>=_) _ _ s;unfold newFields;refine PP (wpAny_newObj_type ?_);refine PV ⟨_,rfl,"set_iterator",_,⟨_,P6 _ rfl,rfl⟩,F.az.lookup,?_⟩;have hI:AG (s.heap.push {cls:= .type "set_iterator",data:= .fields #[rawInt 0,rawInt (0:Nat),.ref S,rawInt es.size,rawInt ep]}) s.heap.objs.size (rawInt (0:Nat)) 0 S es.size ep:=P6 _ rfl;refine h _ s.drawn s.heap.objs.size S es ep t (es.toList.map (·.2)) ks ⟨PU _ ho,hf,?_,rawInt (0:Nat),hI,.inr (.inl ⟨Ci,by rw[wR,Ci];rfl,by omega,rfl,0,rfl,λ_=>rfl,λz=>by omega⟩)⟩ (Nat.ne_of_gt jz) (Nat.ne_of_gt jz) ?_ ?_ ?_ (P4 _) (.inl rfl) (λb o e=>PU _ e) (List.Perm.refl _) hv
   ·rw[P8,Qj]
   ·rw[Qt];exact Nat.lt_succ_self _
   ·rw[Qt];exact Nat.lt_succ_of_lt jz
   ·rw[Qt];exact Nat.lt_succ_of_lt jz
namespace F
def BO:typeLookup (.type "set") "__len__"=pure (some (.builtin "set.__len__")):=by rw[typeLookup_type,builtinLookup_eq_fast];kernel_rfl
end F
def sk {S:Addr} {ks:List Str} {Q:List Value->Shared->Prop} (hh:A.handled=none) (hS:cT prog w s.heap S ks)
  (hQ:∀(h':Heap) d' tk (vs:List Value) (dw:List Str),(∀b o,s.heap.get? b=some o->h'.get? b=some o)->dw.Perm ks->aw (dw.map V.str) vs->Q vs {s with heap:=h',drawn:=d',toks:=tk}):wpAny (model prog w) A (collect (.ref S)) Q E s:=by
 obtain⟨o0,NU⟩:∃o,s.heap.get? S=some o:=by obtain⟨es,ep,t,ho,_⟩:=hS;exact⟨_,ho⟩
 have jz:S < s.heap.objs.size:=P9 NU;unfold collect;refine PP (wpAny_runValue (codeAny_builtin PySem.F.entry_proto_collect ?_));rw[Around.under_plainId PySem.F.plain_proto_collect _];show wpAny _ A.in1 (newList [] >>=λl=>again (.builtin "list.__iadd__" ⟨[l,.ref S],[]⟩)) _ _ s;refine PP (wpAny_newObj_type ?_);refine PV ⟨plainId_quiet PySem.F.plain_list_iadd _,codeAny_builtin PySem.F.entry_list_iadd ?_⟩;rw[Around.under_plainId PySem.F.plain_list_iadd _];generalize hh1:s.heap.push {cls:= .type "list",data:= .seq ([]:List Value).toArray}=h1;have k1:∀b o,s.heap.get? b=some o->h1.get? b=some o:=λb o e=>by rw[<-hh1];exact PU _ e
 have z1:h1.objs.size=s.heap.objs.size + 1:=by rw[<-hh1,Qt]
 have t1:h1.get? s.heap.objs.size=some (seqObj "list" #[] 0):=by rw[<-hh1];exact P6 _ rfl
 have DD:cT prog w h1 S ks:=hS.at λo e=>k1 _ o e
 have IU:∀{h:Heap} {d:_},(∀b o,h1.get? b=some o->h.get? b=some o)->Shared.TypeIs {s with heap:=h,drawn:=d} (.ref S) "set":=λkk=>by obtain⟨es,ep,t,ho,_⟩:=DD;exact⟨_,kk _ _ ho,rfl⟩
 have IW:s.heap.objs.size≠S:=Nat.ne_of_gt jz;have Lw:Builtin.List.listSameRef (.ref s.heap.objs.size) (.ref S)=false:=by simp[Builtin.List.listSameRef,IW]
 show wpAny _ A.in1 (Builtin.List.listExtendWith (.ref s.heap.objs.size) (.ref S) (.ref s.heap.objs.size)) _ _ _;unfold Builtin.List.listExtendWith;refine PP (wpAny_typeOf (s:={s with heap:=h1}) (IU (d:=s.drawn) λb o e=>e) ?_);rw[if_neg (by rw[Lw];decide)];refine PP (z9 (s:={s with heap:=h1}) DD λh2 d2 I T es ep t vs dw st Bl Gg M0 IA hT2 hIn lz kk p1 p2=>?_);refine PP (wpAny_holding ?_);unfold Builtin.List.listLengthHint;refine PP (wpAny_specialOf (s:={s with heap:=h2,drawn:=d2}) (IU kk) F.BO ?_)
 (generalize JB:("set.__len__":String)=id0;(fail_if_success (clear JB id0));wp_delta;rw[show splitId id0=some ("set","__len__") from by subst JB;decide +kernel];subst JB)
 refine PP (wpAny_isInstance (b:=true) (IU kk) (by rw[isSubtype_type];kernel_rfl) ?_);rw[if_neg (by simp)];refine PP (m:=typeOf (.ref S)) (wpAny_typeOf (IU kk) ?_);refine PV ?_;rw[if_pos (by decide +kernel)];refine PP (wpAny_rule (PP ?_));unfold Builtin.List.listTouch;have t2:h2.get? s.heap.objs.size=some (seqObj "list" #[] 0):=kk _ _ t1;refine PP (listUpdate_at (s:={s with heap:=h2,drawn:=d2}) t2 rfl ?_ (by decide) (by decide));obtain⟨e3,t3⟩:∃e,(h2.update s.heap.objs.size (Obj.mapSeq λx=>x.push .none)).get? s.heap.objs.size=some (seqObj "list" #[.none] e):=⟨_,get?_update_seq t2 λx=>x.push .none⟩;refine listUpdate_at (s:={s with heap:=h2.update s.heap.objs.size (Obj.mapSeq λx=>x.push .none),drawn:=d2}) t3 rfl ?_ (by decide) (by decide);obtain⟨e4,t4⟩:∃e,((h2.update s.heap.objs.size (Obj.mapSeq λx=>x.push .none)).update s.heap.objs.size (Obj.mapSeq λx=>x.pop)).get? s.heap.objs.size=some (seqObj "list" #[] e):=⟨_,get?_update_seq t3 λx=>x.pop⟩;generalize hh4:(h2.update s.heap.objs.size (Obj.mapSeq λx=>x.push .none)).update s.heap.objs.size (Obj.mapSeq λx=>x.pop)=h4 at t4 ⊢;have k4:∀b o,b≠s.heap.objs.size->h2.get? b=some o->h4.get? b=some o:=λb o hb e=>by rw[<-hh4];exact(Qr _ _ (Ne.symm hb)).trans ((Qr _ _ (Ne.symm hb)).trans e)
 have Lu:I≠s.heap.objs.size:=λe=>by rw[e,z1] at hIn;exact Nat.not_succ_le_self _ hIn
 have Ko:T≠s.heap.objs.size:=λe=>by
  rcases lz with q | q
  ·exact IW (e.symm.trans q)
  ·rw[e,z1] at q;exact Nat.not_succ_le_self _ q
 have M4:s.heap.objs.size∉[I,S,T]:=by simp only[Qb,Qc,or_false,not_or];exact⟨Lu.symm,IW,Ko.symm⟩
 have F0:zK w I S es ep t vs T 0 h4:=st.keep λb hb o e=>k4 b o (λq=>M4 (q▸hb)) e
 have Oj:vs.length<=sizeLine:=by
  obtain⟨_,_,hl,_⟩:=st;obtain⟨de,Jp,t',oO,_,_,_,jA,_⟩:=DD;have q:es=de:=by have:=F0.1;have q2:=k4 S _ IW.symm (kk _ _ oO);unfold wq at this;rw[this] at q2;cases q2;rfl
  rw[hl,q];exact fits_of_scanBound jA
 have W:=(vX (prog:=prog) (w:=w) (A:=A.in1) hh I S T Bl Gg es ep t vs).toS;refine PV ⟨plainId_quiet PySem.F.plain_extend_loop _,codeAny_extend_loopS W Oj _ M4 _ vs.length 0 _ _ _ rfl (Nat.zero_le _) F0 t4 (ItemsOf.nil _) λs' d6 c' hm qI hacc=>?_⟩;show wpAny _ A (load s.heap.objs.size >>=_) _ _ s';refine PP (wpAny_load qI (PV ?_));obtain⟨h',g',d',J3,FG⟩:=s';have eg:g'=s.gens:=hm.gens;have ed:d'=d2:=hm.drawn;have eo:FG=s.os:=hm.os;subst eg;subst ed;subst eo;have Hn:d6.toList=vs:=by
  refine List.ext_getElem (by rw[Qj];exact hacc.1) λi q1 q2=>?_
  have:vs[i]?=some d6[i]:=hacc.2 i d6[i] (by simp);rw[Qn q2] at this;rw[Array.getElem_toList];exact(Option.some.inj this).symm
 show Q d6.toList _;rw[Hn];refine hQ h' d' J3 vs dw (λb o e=>?_) p1 p2;have hb:=P9 e;have yW:b≠s.heap.objs.size:=Qu hb;have Ci:b≠I:=λq=>by subst q;have:=Qk hb (Qa (by rw[z1];exact Nat.le_succ _) hIn);exact Nat.lt_irrefl _ this
 exact hm.heap b o (by simp only[Qb,Qc,or_false,not_or];exact⟨yW,Ci⟩) (k4 b o yW (kk b o (k1 b o e)))
end
end Mx
end
section
namespace Mx
open PySem PySem.W PySem.Spec PyProof.Rows L2 PySem.SeqAt MxSort
inductive SK where
 | tt | ts | ti | s | i
 deriving DecidableEq
def SK.ok:SK->D->Prop
 | .tt,d=>∃f r,d= .tup (.tup f::r)
 | .ts,d=>∃f r,d= .tup (.str f::r)
 | .ti,d=>∃f r,d= .tup (.int f::r)
 | .s,d=>∃x,d= .str x
 | .i,d=>∃x,d= .int x
def SK.κ:SK->SortKind
 | .tt=>tuples' false
 | .ts=>tuples' true
 | .ti=>tuples' true
 | .s=>oneType'
 | .i=>oneType'
def SK.f:SK->String
 | .tt=>"tuple"
 | .ts=>"str"
 | .s=>"str"
 | _=>"int"
section
variable {P:Program} {w:World} {H:Hp} {prog:Program} {s:Shared} {A:Around}
def AQ {b:Bool} {n m:Nat} {Q:Bool->Shared->Prop} {v wv:Value} {us vs:List Value} {d e:D} {ds es:List D} (z:Zp A s (v::us) (wv::vs) (d::ds) (e::es))
  (hs:b=true->∀{E:Value->Shared->Prop},wpAny (model prog w) A (oneLt' true v wv) (λr s'=>r=D.lt d e/\s'=s) E s)
  (hlen:ds.length + m=es.length + n) (q:Q (D.fv (d::ds) (e::es)) s):KatLex prog w A b (decide (n < m)) Q ((v::us).zip (wv::vs)) 0 s:=by
 cases z with
 | cons he hl z'=>
  rw[List.zip_cons_cons];rw[D.eF] at q;refine kat_cons (he prog w _ _ ?_);by_cases hde:d=e
  ·rw[(D.dq d e).mpr hde];rw[if_pos hde] at q;exact kat_yes (A9 z' 1 (by omega) hlen q)
  ·rw[show D.gu d e=false by rw[D.iD];exact Qo hde];rw[if_neg hde] at q;refine kat_no ?_;cases b with
   | false=>rw[show (false&&0==0)=false by rfl];exact kat_one v wv (hl hde prog w _ _ q)
   | true=>rw[show (true&&0==0)=true by rfl];exact wpAny_mono (hs rfl) (λr s' ⟨e1,e2⟩=>by subst e1 e2;exact q) λ_ _ x=>x
def oy (hok:eX P w H s.heap) {n:Nat} (hu:A.units + n < cLine) {b:Bool} {d0 e0:D} {dr er:List D} {x y:V} {u v:Value} (hd:D.dep (.tup (d0::dr))<=n + 1) (hl:D.eZ (.tup (d0::dr)) (.tup (e0::er)))
  (hs:b=true->(∃p q,d0= .str p/\e0= .str q)\/∃p q,d0= .int p/\e0= .int q) (hx:DV H x (.tup (d0::dr))) (hy:DV H y (.tup (e0::er))) (rx:RelV x u) (ry:RelV y v) {Q:Bool->Shared->Prop} {E:Value->Shared->Prop}
  (q:Q (D.lt (.tup (d0::dr)) (.tup (e0::er))) s):wpAny (model prog w) A (keyLt' (tuples' b) u v) Q E s:=by
 obtain⟨a,xs,q1,e1,e2⟩:=hx.af;subst q1;cases rx;obtain⟨b',ys,q1,f1,f2⟩:=hy.af;subst q1;cases ry;obtain⟨its,r1,o,ho,hc,k,A0⟩:=ay hok e1;obtain⟨aM,r2,o2,oV,vw,k2,rM⟩:=ay hok f1;obtain⟨x0,xr,rfl,Fo,Me⟩:=e2.cons_inv;obtain⟨y0,yr,rfl,MU,NN⟩:=f2.cons_inv;cases r1 with
 | cons r10 r1r=>
  cases r2 with
  | cons r20 r2r=>
   rename_i u0 ur v0 vr;have qT:D.b8 (d0::dr)<=n:=by unfold D.dep at hd;omega
   have Af:D.gB (d0::dr) (e0::er):=by unfold D.eZ at hl;exact hl
   have zz:Zp A s (u0::ur) (v0::vr) (d0::dr) (e0::er):=wz hok hu (λd e x y u v hd2 dh AV hy2 rx2 ry2=>Bd hok n d e x y u v A hd2 hu dh AV hy2 rx2 ry2) qT Af e2 f2 (.cons r10 r1r) (.cons r20 r2r);refine kat_lt ho A0 oV rM ?_;have l1:(u0::ur).toArray.size=(d0::dr).length:=by rw[PY,Qh,Qh,<-r1r.length,Me.length]
   have l2:(v0::vr).toArray.size=(e0::er).length:=by rw[PY,Qh,Qh,<-r2r.length,NN.length]
   have q':Q (D.fv (d0::dr) (e0::er)) s:=by have z:=q;unfold D.lt at z;exact z
   refine AQ zz (λhb=>?_) (by rw[l1,l2];simp only[Qh];omega) q';intro E';rcases hs hb with ⟨p,q2,rfl,rfl⟩ | ⟨p,q2,rfl,rfl⟩
   ·have z1:=Fo.str_inv;have z2:=MU.str_inv;subst z1 z2;obtain⟨t,rfl⟩:=r10;obtain⟨t',rfl⟩:=r20;exact oneLt_str ⟨by unfold D.lt;rfl,rfl⟩
   ·have z1:=Fo.int_inv;have z2:=MU.int_inv;subst z1 z2;obtain⟨t,rfl⟩:=r10;obtain⟨t',rfl⟩:=r20;exact oneLt_int ⟨by unfold D.lt;rfl,rfl⟩
def me (x y:Value):keyLt' oneType' x y=oneLt' true x y:=rfl
def Bq (hok:eX P w H s.heap) {n:Nat} (hu:A.units + n < cLine) (k:SK) {d e:D} {x y:V} {u v:Value} (hd:D.dep d<=n + 1) (hl:D.eZ d e) (fd:k.ok d) (fe:k.ok e) (hx:DV H x d) (hy:DV H y e) (rx:RelV x u) (ry:RelV y v) {Q:Bool->Shared->Prop} {E:Value->Shared->Prop}
  (q:Q (D.lt d e) s):wpAny (model prog w) A (keyLt' k.κ u v) Q E s:=by
 cases k with
 | tt=>obtain⟨f,r,rfl⟩:=fd;obtain⟨f',r',rfl⟩:=fe;exact oy (b:=false) hok hu hd hl (λz=>nomatch z) hx hy rx ry q
 | ts=>obtain⟨f,r,rfl⟩:=fd;obtain⟨f',r',rfl⟩:=fe;exact oy hok hu hd hl (λ_=> .inl ⟨_,_,rfl,rfl⟩) hx hy rx ry q
 | ti=>obtain⟨f,r,rfl⟩:=fd;obtain⟨f',r',rfl⟩:=fe;exact oy hok hu hd hl (λ_=> .inr ⟨_,_,rfl,rfl⟩) hx hy rx ry q
 | s=>obtain⟨f,rfl⟩:=fd;obtain⟨f',rfl⟩:=fe;have z1:=hx.str_inv;have z2:=hy.str_inv;subst z1 z2;obtain⟨t,rfl⟩:=rx;obtain⟨t',rfl⟩:=ry;show wpAny _ _ (keyLt' oneType' _ _) _ _ _;rw[me];unfold D.lt at q;exact oneLt_str q
 | i=>obtain⟨f,rfl⟩:=fd;obtain⟨f',rfl⟩:=fe;have z1:=hx.int_inv;have z2:=hy.int_inv;subst z1 z2;obtain⟨t,rfl⟩:=rx;obtain⟨t',rfl⟩:=ry;show wpAny _ _ (keyLt' oneType' _ _) _ _ _;rw[me];unfold D.lt at q;exact oneLt_int q
def uP (hok:eX P w H s.heap) {k:SK} (hk:k= .tt\/k= .ts\/k= .ti):∀{xs:List V} {us:List Value} {ds:List D},aZ H xs ds->aw xs us->(∀d∈ds,k.ok d)->
  ∃fs,KatTups s.heap us fs/\fs.length=us.length/\∀v∈fs,Looks (model prog w) s.heap (typeOf v) (.type k.f)
 | [],us,ds,_,r,_=>by cases r;exact⟨[],KatTups.nil,rfl,λv hv=>absurd hv (by simp)⟩
 | x::xs,us,ds,h,r,hf=>by
  cases r with
  | cons r0 rr=>
   cases ds with
   | nil=>unfold aZ at h;exact h.elim
   | cons d ds=>
    unfold aZ at h;obtain⟨fs,t,l,lk⟩:=uP hok hk h.2 rr λd hd=>hf d (P1 _ hd)
    have sh:∃d0 dr,d= .tup (d0::dr)/\((k= .ts/\∃p,d0= .str p)\/(k= .ti/\∃p,d0= .int p)\/(k= .tt/\∃p,d0= .tup p)):=by
     have z:=hf d P5;rcases hk with rfl | rfl | rfl
     ·obtain⟨f,r,rfl⟩:=z;exact⟨_,_,rfl,.inr (.inr ⟨rfl,_,rfl⟩)⟩
     ·obtain⟨f,r,rfl⟩:=z;exact⟨_,_,rfl,.inl ⟨rfl,_,rfl⟩⟩
     ·obtain⟨f,r,rfl⟩:=z;exact⟨_,_,rfl,.inr (.inl ⟨rfl,_,rfl⟩)⟩
    obtain⟨d0,dr,rfl,yH⟩:=sh;obtain⟨a,ys,q1,e1,e2⟩:=h.1.af;subst q1;cases r0;obtain⟨its,r1,o,ho,hc,kk,A0⟩:=ay hok e1;obtain⟨x0,xr,rfl,Fo,Me⟩:=e2.cons_inv;cases r1 with
    | cons r10 r1r=>
     rename_i u0 ur;refine⟨u0::fs,KatTups.cons ho hc A0 (by simp) t,by simp[l],λv hv=>?_⟩;rcases Qb.mp hv with rfl | hv
     ·rcases yH with ⟨hb,p,rfl⟩ | ⟨hb,p,rfl⟩ | ⟨hb,p,rfl⟩
      ·have z1:=Fo.str_inv;subst z1;obtain⟨t',rfl⟩:=r10;rw[hb];exact Looks.of_pure rfl
      ·have z1:=Fo.int_inv;subst z1;obtain⟨t',rfl⟩:=r10;rw[hb];exact Looks.of_pure rfl
      ·obtain⟨a2,y2,q2,g1,g2⟩:=Fo.af;subst q2;cases r10;obtain⟨aM,_,o2,oV,vw,_⟩:=ay hok g1;rw[hb];show Looks (model prog w) _ _ (Value.type "tuple");rw[<-vw];exact(Looks.ld oV).andThen .now
     ·exact lk v hv
def iG:∀{xs:List V} {us:List Value} {ds:List D},aZ H xs ds->aw xs us->(∀d∈ds,SK.s.ok d)->∃ss,StrsAre us ss
 | [],us,ds,_,r,_=>by cases r;exact⟨[],.nil⟩
 | x::xs,us,ds,h,r,hf=>by
  cases r with
  | cons r0 rr=>
   cases ds with
   | nil=>unfold aZ at h;exact h.elim
   | cons d ds=>
    unfold aZ at h;obtain⟨ss,q⟩:=iG h.2 rr λd hd=>hf d (P1 _ hd)
    obtain⟨y,rfl⟩:=hf d P5;have z1:=h.1.str_inv;subst z1;obtain⟨t,rfl⟩:=r0;exact⟨y::ss,.cons y t q⟩
theorem ie:∀{xs:List V} {us:List Value} {ds:List D},aZ H xs ds->aw xs us->(∀d∈ds,SK.i.ok d)->∃ss,IntsAre us ss
 | [],us,ds,_,r,_=>by cases r;exact⟨[],.nil⟩
 | x::xs,us,ds,h,r,hf=>by
  cases r with
  | cons r0 rr=>
   cases ds with
   | nil=>unfold aZ at h;exact h.elim
   | cons d ds=>
    unfold aZ at h;obtain⟨ss,q⟩:=ie h.2 rr λd hd=>hf d (P1 _ hd)
    obtain⟨y,rfl⟩:=hf d P5;have z1:=h.1.int_inv;subst z1;obtain⟨t,rfl⟩:=r0;exact⟨y::ss,.cons y t q⟩
def HR (hok:eX P w H s.heap) (k:SK) {xs:List V} {us:List Value} {ds:List D} (hd:aZ H xs ds) (r:aw xs us) (hf:∀d∈ds,k.ok d) (h2:2<=us.length) {Q:SortKind->Shared->Prop} {E:Value->Shared->Prop} (q:Q k.κ s):
  wpAny (model prog w) A (keyKind' us.toArray) Q E s:=by
 have tup:k= .tt\/k= .ts\/k= .ti->wpAny (model prog w) A (keyKind' us.toArray) Q E s:=λhk=>by obtain⟨fs,t,l,lk⟩:=uP (prog:=prog) hok hk hd r hf;refine kat_kind t (by omega) lk (by rcases hk with rfl | rfl | rfl <;> rfl) ?_;rcases hk with rfl | rfl | rfl <;> exact q
 cases k with
 | tt=>exact tup (.inl rfl)
 | ts=>exact tup (.inr (.inl rfl))
 | ti=>exact tup (.inr (.inr rfl))
 | s=>
  obtain⟨ss,hs⟩:=iG hd r hf
  match us,h2,hs with
  | v1::v2::vs,_,hs=>rw[keyKind_strs hs];exact PV q
 | i=>
  obtain⟨ss,hs⟩:=ie hd r hf
  match us,h2,hs with
  | v1::v2::vs,_,hs=>rw[keyKind_ints hs];exact PV q
end
def kz (ds:List D):Prop:=ds.length < 1000000/\(2<=ds.length->D.b8 ds<=100/\(∃k:SK,∀d∈ds,k.ok d)/\∀d∈ds,∀e∈ds,D.eZ d e)
section
variable {X:Cx} {pins:List (Addr×Obj)} {σ:L2.St} {H:Hp}
def lZ {s:Shared} {A:Around} {Q:PySem.Fin->Shared->Prop} {E:Value->Shared->Prop} (hu:A.units + 148 < cLine) (I:Inv X pins σ H s) {ys:List V} {its:List Value} {ds:List D} (rv:aw ys its) (oR:aZ H ys ds) (hc:kz ds)
  (q:∀(l:Addr) (zs:List V) (es:List D) (s':Shared),H l=none->aZ H zs es->iM ds es->Inv X pins σ (upd H l (.lst zs)) s'->Q (.done (.ret (.ref l))) s'):
  wpAny (model X.prog X.w) A (do let l<-newList its;let _<-holding [l] (call (.builtin "list.sort") [l] []);ret l) Q E s:=by
 obtain⟨hlen,hc⟩:=hc;have hl:=rv.length;have dh:=oR.length;have sS:its.length<=sizeLine:=by rw[sizeLine_eq];omega
 refine PP (wpAny_newList ?_ (by simpa using sS));have Jl:(s.heap.push (seqObj "list" its.toArray 0)).get? s.heap.objs.size=some (seqObj "list" its.toArray 0):=P6 _ rfl;show wpAny _ _ _ _ _ {s with heap:=s.heap.push (seqObj "list" its.toArray 0)};have ne:∀b o,s.heap.get? b=some o->b≠s.heap.objs.size:=λb o e=>Qu (P9 e)
 refine PP (wpAny_holding (wpAny_call_entry slot_list_sort (s:={s with heap:=s.heap.push (seqObj "list" its.toArray 0)}) ⟨_,Jl,rfl⟩ entry_list_sort
  (xT (s:={s with heap:=s.heap.push (seqObj "list" its.toArray 0)}) (O:=G0) (key:=λi=>ds.getD i (.int 0)) Jl (by omega) (λh2 h' kk=>?_) λp h' e hp hup kk hD=>?_) (args_list_sort _)))
 ·obtain⟨O0,⟨k,hf⟩,u4⟩:=hc (by omega);have AN:eX X.prog X.w H h':=I.hok.kept λb o e=>kk b o (ne b o e) (PU _ e)
  refine⟨k.κ,λQ' E' q'=>HR (s:={s with heap:=h'}) AN k oR rv hf (by omega) q',λi j hi hj C hC=>?_,λi j hi hj eij=>?_⟩
  ·obtain⟨di,GY,Jg⟩:=oR.get (i:=i) (x:=ys[i]'(by omega)) (by simp);obtain⟨dj,IS,Ll⟩:=oR.get (i:=j) (x:=ys[j]'(by omega)) (by simp);obtain⟨ui,KJ,K5⟩:=rv.get (i:=i) (x:=ys[i]'(by omega)) (by simp);obtain⟨uj,JL,L5⟩:=rv.get (i:=j) (x:=ys[j]'(by omega)) (by simp);unfold kas_ask;rw[show its.getD i Value.none=ui by simp[KJ],show its.getD j Value.none=uj by simp[JL]];have ki:ds.getD i (.int 0)=di:=by simp[GY]
   have kj:ds.getD j (.int 0)=dj:=by simp[IS]
   have mi:di∈ds:=List.mem_of_getElem? GY;have mj:dj∈ds:=List.mem_of_getElem? IS;refine Bq (s:={s with heap:=h'}) AN (n:=100) (by show A.units + 1 + 100 < cLine;omega) k (Qa (n8 GY) (by omega)) (u4 di mi dj mj) (hf di mi) (hf dj mj) Jg Ll K5 L5 ?_;have Mw:C (D.lt (ds.getD i (.int 0)) (ds.getD j (.int 0))) {s with heap:=h'}:=hC;rw[ki,kj] at Mw;exact Mw
  ·obtain⟨di,GY,Jg⟩:=oR.get (i:=i) (x:=ys[i]'(by omega)) (by simp);obtain⟨dj,IS,Ll⟩:=oR.get (i:=j) (x:=ys[j]'(by omega)) (by simp);obtain⟨ui,KJ,K5⟩:=rv.get (i:=i) (x:=ys[i]'(by omega)) (by simp);obtain⟨uj,JL,L5⟩:=rv.get (i:=j) (x:=ys[j]'(by omega)) (by simp);rw[show its.getD i Value.none=ui by simp[KJ],show its.getD j Value.none=uj by simp[JL]] at eij;subst eij;have ki:ds.getD i (.int 0)=di:=by simp[GY]
   have kj:ds.getD j (.int 0)=dj:=by simp[IS]
   show ds.getD i (.int 0)=ds.getD j (.int 0);rw[ki,kj];rw[K5.inj L5] at Jg;exact Jg.inj Ll
 ·refine⟨_,rfl,PV ?_⟩;have kB:p.toList.Perm (List.range its.length):=hp;have Fq:∀i∈p.toList,i < ys.length:=λi hi=>by have:=QJ.mp (kB.mem_iff.mp hi);omega
  have new:bY X.prog X.w (upd H s.heap.objs.size (.lst (p.toList.map λi=>ys.getD i .bo))) h' s.heap.objs.size (.lst (p.toList.map λi=>ys.getD i .bo)):=
   ⟨by rw[P8,kB.length_eq,List.length_range];rw[sizeLine_eq];omega,_,e,p7 rv Fq,hD⟩
  have I2:=I.laid (t':=s.toks) (a:=s.heap.objs.size) (λb o q=>kk b o (ne b o q) (PU _ q)) (P4 _) new;refine q _ _ (p.toList.map λi=>ds.getD i (.int 0)) _ (I.hok.fresh (P4 _)) (oR.map Fq) ⟨?_,?_⟩ I2
  ·have e1:=kB.map (λi=>ds.getD i (.int 0));rw[show its.length=ds.length by omega] at e1;rw[k8] at e1;exact e1
  ·have KC:∀i j,i<=j->j < its.length->D.lt (ds.getD (p.getD j 0) (.int 0)) (ds.getD (p.getD i 0) (.int 0))=false:=hup;have gY:p.toList.length=its.length:=by rw[kB.length_eq,List.length_range]
   rw[List.pairwise_map,List.pairwise_iff_getElem];intro i j hi hj gj;have:=KC i j (by omega) (by omega);rw[show p.getD i 0=p.toList[i] by simp at hi;simp[Array.getD,hi],show p.getD j 0=p.toList[j] by simp at hj;simp[Array.getD,hj]] at this;exact this
end
def Ea (K:PySem.W.Frag):List V->Hp->VK->Prop:=λxs H Q=>∃a ys ds,xs=[.ref a]/\(d9 K H a ys\/eW K H a ys)/\aZ H ys ds/\kz ds/\∀l zs es,H l=none->aZ H zs es->iM ds es->Q (.ref l) (upd H l (.lst zs))
def nO {X:Cx} (hu:X.A.units + 150 < cLine):gv X (.builtin "sorted") (Ea X.K):=by
 intro pins s σ H xs us Q I r h;obtain⟨a,ys,ds,rfl,hq,oR,hc,q⟩:=h;obtain⟨u,rfl,ru⟩:=r.one;cases ru;have sh:∃(its:List Value) (T:String) (o:Obj) (n:Nat),aw ys its/\(T="list"\/T="tuple")/\s.heap.get? a=some o/\o.cls= .type T/\o.data= .seq its.toArray n:=by
  rcases hq with hq | hq
  ·obtain⟨its,rv,⟨o,n,ho,hc,_,hd⟩,_⟩:=I.list hq;exact⟨its,"list",o,n,rv,.inl rfl,ho,hc,hd⟩
  ·obtain⟨its,rv,⟨o,ho,hc,n,hd⟩,_⟩:=I.tuple hq;exact⟨its,"tuple",o,n,rv,.inr rfl,ho,hc,hd⟩
 obtain⟨its,T,o,n,rv,hT,ho,vi,hd⟩:=sh;have sS:its.length<=sizeLine:=by rw[sizeLine_eq,<-rv.length,oR.length];have:=hc.1;omega
 refine Calls.call_function_entry kind_sorted plain_sorted entry_sorted (args_sorted1 _) ?_;unfold Builtin.«sorted»;refine PP (m:=checkCount "sorted" 1 1 _) (PV (PP (wpAny_collect_seq a hT ho vi hd (λh1 k1=>?_) (by rw[PY];exact sS))));have I1:Inv X pins σ H {s with heap:=h1}:=I.kept (t':=s.toks) k1;exact lZ (A:=X.A.in1) (by show X.A.units + 1 + 148 < cLine;omega) I1 rv oR hc λl zs es s' hl hz hso I2=>⟨_,rfl,.ref l,_,I2,rfl,q l zs es hl hz hso⟩
def pj {H:Hp}:∀ks:List Str,aZ H (ks.map V.str) (ks.map D.str)
 | []=>aZ.nil
 | k::ks=>aZ.cons DV.str (pj ks)
def mU:∀ks:List Str,D.b8 (ks.map D.str)<=0
 | []=>by show D.b8 []<=0;unfold D.b8;exact P4 _
 | k::ks=>by
  have:=mU ks;show D.b8 (D.str k::ks.map D.str)<=0;unfold D.b8;have e:D.dep (D.str k)=0:=by unfold D.dep;rfl
  omega
def rg {X:Cx} (hu:X.A.units + 150 < cLine) (hc:X.calm=true) {pins:List (Addr×Obj)} {s:Shared} {σ:L2.St} {H:Hp} {S:Addr} {ks:List Str} {Q:VK} (I:Inv X pins σ H s) (hS:cT X.prog X.w s.heap S ks) (hlen:ks.length < 1000000)
  (q:∀l zs es,H l=none->aZ H zs es->iM (ks.map D.str) es->Q (.ref l) (upd H l (.lst zs))):wpAny (model X.prog X.w) X.A (call (.builtin "sorted") [.ref S]) (EP X pins σ Q) X.xe s:=by
 refine Calls.call_function_entry kind_sorted plain_sorted entry_sorted (args_sorted1 _) ?_;unfold Builtin.«sorted»;refine PP (m:=checkCount "sorted" 1 1 _) (PV (PP (sk (I.ok.hd hc) hS λh' d' tk vs dw kk p1 p2=>?_)));have I1:Inv X pins σ H {s with heap:=h',drawn:=d',toks:=tk}:=by
  refine I.step (g':=s.gens) (ch:=[]) (λb hb=>by cases hb) (λb o _ _ _ e _=>kk b o e) (λb o _ _ _ e _=>⟨o.slots,kk b o e⟩)
   (λb o _ e n=>n) (λb o _ e=>⟨o,kk b o e⟩) (λb zs e=>e) (λb o u e=>e) (λb ps e=>⟨#[],by rw[e];simp⟩) (λm hm=>?_) (λb u q=>?_) I.bare
  ·obtain⟨o,de,ep,ho,rr⟩:=hm;exact⟨o,de,ep,kk _ o ho,rr⟩
  ·exact(I.hok b u q).iV (λc v _ z=>kk c v z) (λc z=>z) λc zs z=>z
 have oR:aZ H (dw.map V.str) (dw.map D.str):=pj dw;refine lZ (A:=X.A.in1) (by show X.A.units + 1 + 148 < cLine;omega) I1 p2 oR ⟨by rw[P8,p1.length_eq];exact hlen,λ_=>⟨?_,⟨.s,λd hd=>?_⟩,λd hd e he=>?_⟩⟩ λl zs es s' hl hz hso I2=>⟨_,rfl,.ref l,_,I2,rfl,q l zs es hl hz ⟨hso.1.trans (p1.map _),hso.2⟩⟩
 ·exact Qa (mU dw) (Nat.zero_le _)
 ·obtain⟨x,_,rfl⟩:=Qy.mp hd;exact⟨x,rfl⟩
 ·obtain⟨x,_,rfl⟩:=Qy.mp hd;obtain⟨y,_,rfl⟩:=Qy.mp he;unfold D.eZ;trivial
end Mx
end
section
namespace Mx
open PySem PySem.W PySem.Spec PyProof.Rows L2
abbrev r8 (h:Heap) (z TI TO p:Addr) (b:Bool):Prop:=
 h.get? z=some {cls:= .type "zip",dict:=none,data:= .fields #[rawInt p,.bool b,.bool false,.ref TI,.ref TO],slots:=#[]}
section
variable {prog:Program} {w:World} {A:Around} {E:Value->Shared->Prop} {s:Shared}
def xK {M:Model} {a:Addr} {r:Option Obj} {Q:Option Obj->Shared->Prop} (h:s.heap.get? a=r) (q:Q r s):wpAny M A (loadIfAlive a) Q E s:=λΓ p _=>by show Sem.wp M Γ (.loadIfAlive a .pure) _ _ p s;rw[Sem.wp_loadIfAlive,h];exact q
def qr {z TI TO p:Addr} {fb:Bool} {o:Obj} {Q:Bool->Shared->Prop} (hz:r8 s.heap z TI TO p fb) (hp:s.heap.get? p=some o) (h:∀h',r8 h' z TI TO p true->Heap.SameBut z s.heap h'->Q false {s with heap:=h'}):
  wpAny (model prog w) A (Builtin.SmallTypes.ownedTupleIsFree (.ref z)) Q E s:=by
 unfold Builtin.SmallTypes.ownedTupleIsFree;refine PP (wpAny_field hz rfl (x:=rawInt p) rfl ?_);show wpAny _ _ (loadIfAlive ((p:Nat):Int).toNat >>=_) _ _ s;rw[Int.toNat_natCast];refine PP (xK (r:=some o) hp ?_);show wpAny _ _ (if false=true then _ else _) _ _ s;rw[if_neg (by simp)];refine PP (wpAny_field hz rfl (x:= .bool fb) rfl ?_);cases fb with
 | false=>show wpAny _ _ (setField (.ref z) 1 (.bool true) >>=_) _ _ s;exact PP (Qw hz (by simp) λh' z' e'=>PV (h h' z' e'))
 | true=>
  show wpAny _ _ (pure false) _ _ s;have e:s={s with heap:=s.heap}:=by cases s;rfl
  rw[e];exact PV (h s.heap hz (Heap.SameBut.refl z s.heap))
def vb {b1 b2:Bool} {z TI TO i1 i2 l1 l2 p:Addr} {k1 k2:Nat} {xs ys:Array Value} {x y:Value} {fb:Bool} {o:Obj} {Q:Option Value->Shared->Prop} (D:iy z TI TO i1 i2) (O1:bO z TO i1 i2 l1) (O2:bO z TO i1 i2 l2)
  (hz:r8 s.heap z TI TO p fb) (hp:s.heap.get? p=some o) (Dm:IsPair s.heap TI (.ref i1) (.ref i2)) (h1:ba b1 s.heap i1 l1 k1) (h2:ba b2 s.heap i2 l2 k2) (cO:cu b1 s.heap l1 xs) (dh:cu b2 s.heap l2 ys) (hx:xs[k1]?=some x) (hy:ys[k2]?=some y)
  (hQ:∀h',r8 h' z TI TO p true->ba b1 h' i1 l1 (k1 + 1)->ba b2 h' i2 l2 (k2 + 1)->IsPair h' s.heap.objs.size x y->
   (∀c o,c≠z->c≠i1->c≠i2->s.heap.get? c=some o->h'.get? c=some o)->Q (some (.ref s.heap.objs.size)) {s with heap:=h'}):wpAny (model prog w) A (pyNext (.ref z)) Q E s:=by
 have hT:s.TypeIs (.ref z) "zip":=⟨_,hz,rfl⟩;unfold pyNext;refine PP (wpAny_attempt (wpAny_callSpecial?_slot (name:=Str.ofString "__next__") hT F.slot_zip_next (wpAny_call_entry F.slot_zip_next hT F.entry_zip_next ?_ (F.args_zip_next_1 _))));refine(show wpAny _ _ (field (.ref z) 2 >>=_) _ _ _ from PP (wpAny_field hz rfl (x:= .bool false) rfl (show wpAny _ _ (field (.ref z) 3 >>=_) _ _ _ from PP (wpAny_field hz rfl (x:= .ref TI) rfl (PP (wpAny_seqItems Dm rfl (show wpAny _ _ (Builtin.SmallTypes.ownedTupleIsFree (.ref z) >>=_) _ _ _ from PP ?_)))))));refine qr hz hp λg1 z1 e1=>?_
 rw[if_neg (by simp)];dsimp only;rw[<-Array.forIn_toList];simp only[List.forIn_cons,List.forIn_nil];refine PP (PP (PP (wpAny_holding (show wpAny _ _ (Builtin.SmallTypes.nextOf (.ref i1) >>=_) _ _ _ from PP (cc (h1.at λo q=>e1.extBut _ o D.i1z q) (cO.at λo q=>e1.extBut _ o O1.z q) hx λg2 j1 e2=>PV ?_)))));refine PV ?_;refine PP (PP (wpAny_holding (show wpAny _ _ (Builtin.SmallTypes.nextOf (.ref i2) >>=_) _ _ _ from PP (cc (h2.at λo q=>e2.extBut _ o D.i12.symm (e1.extBut _ o D.i2z q)) (dh.at λo q=>e2.extBut _ o O2.a (e1.extBut _ o O2.z q)) hy λg3 j2 e3=>PV ?_))));refine PV (PV ?_);have sz:g3.objs.size=s.heap.objs.size:=by rw[e3.1,e2.1,e1.1]
 have z3:r8 g3 z TI TO p true:=e3.extBut _ _ D.i2z.symm (e2.extBut _ _ D.i1z.symm z1);have old:∀c o,c≠z->c≠i1->c≠i2->s.heap.get? c=some o->g3.get? c=some o:=λc o c1 c3 c4 q=>e3.extBut _ _ c4 (e2.extBut _ _ c3 (e1.extBut _ _ c1 q))
 show wpAny _ _ (newTuple [x,y] >>=_) _ _ _;refine PP (wpAny_newTuple ?_);refine PV ⟨_,rfl,PV ?_⟩;show Q (some (.ref g3.objs.size)) {s with heap:=g3.push {cls:= .type "tuple",data:= .seq #[x,y]}};rw[sz];refine hQ _ (PU _ z3) (j1.at λo q=>PU _ (e3.extBut _ o D.i12 q)) (j2.at λo q=>PU _ q) ?_ λc o c1 c2 c3 q=>PU _ (old c o c1 c2 c3 q)
 have:=P6 g3 (o:={cls:= .type "tuple",data:= .seq #[x,y]}) rfl;rw[sz] at this;exact this
def xS {b1 b2:Bool} {z TI TO i1 i2 l1 l2 p:Addr} {k1 k2:Nat} {xs ys:Array Value} {fb:Bool} {o:Obj} {Q:Option Value->Shared->Prop} (hh:A.handled=none) (D:iy z TI TO i1 i2) (O1:bO z TO i1 i2 l1) (O2:bO z TO i1 i2 l2)
  (hz:r8 s.heap z TI TO p fb) (hp:s.heap.get? p=some o) (Dm:IsPair s.heap TI (.ref i1) (.ref i2)) (h1:ba b1 s.heap i1 l1 k1) (h2:ba b2 s.heap i2 l2 k2) (cO:cu b1 s.heap l1 xs) (dh:cu b2 s.heap l2 ys) (pd:xs[k1]?=none\/ys[k2]?=none)
  (hQ:∀h',(∀c o,c≠z->c≠i1->c≠i2->s.heap.get? c=some o->h'.get? c=some o)->Q none {s with heap:=h'}):wpAny (model prog w) A (pyNext (.ref z)) Q E s:=by
 have hT:s.TypeIs (.ref z) "zip":=⟨_,hz,rfl⟩;have stop:∀(h':Heap) (e:Addr),(∀c o,c≠z->c≠i1->c≠i2->s.heap.get? c=some o->h'.get? c=some o)->(∃o,h'.get? e=some o/\o.cls= .type "StopIteration")->wpAny (model prog w) A (isInstance (.ref e) (.type "StopIteration")) (λr s'=>r=true/\Q none s') E {s with heap:=h'}:=λh' e kk he=>by obtain⟨o,ho,hc⟩:=he;exact wpAny_isInstance (T:="StopIteration") (b:=true) ⟨o,ho,hc⟩ isSubtype_stop ⟨rfl,hQ _ kk⟩
 unfold pyNext;refine PP (wpAny_attempt (wpAny_callSpecial?_slot (name:=Str.ofString "__next__") hT F.slot_zip_next (wpAny_call_entry F.slot_zip_next hT F.entry_zip_next ?_ (F.args_zip_next_1 _))));refine(show wpAny _ _ (field (.ref z) 2 >>=_) _ _ _ from PP (wpAny_field hz rfl (x:= .bool false) rfl (show wpAny _ _ (field (.ref z) 3 >>=_) _ _ _ from PP (wpAny_field hz rfl (x:= .ref TI) rfl (PP (wpAny_seqItems Dm rfl (show wpAny _ _ (Builtin.SmallTypes.ownedTupleIsFree (.ref z) >>=_) _ _ _ from PP ?_)))))));refine qr hz hp λg1 z1 e1=>?_
 rw[if_neg (by simp)];dsimp only;rw[<-Array.forIn_toList];simp only[List.forIn_cons,List.forIn_nil];cases hx:xs[k1]? with
 | none=>refine PP (PP (PP (wpAny_holding (show wpAny _ _ (Builtin.SmallTypes.nextOf (.ref i1) >>=_) _ _ _ from PP (et hh (h1.at λo q=>e1.extBut _ o D.i1z q) (cO.at λo q=>e1.extBut _ o O1.z q) hx λg2 e e2 he=>?_)))));refine PP (wpAny_mono (stop g2 e (λc o c1 c3 _ x=>e2 _ _ c3 (e1.extBut _ _ c1 x)) he) (λr s' q=>?_) λ_ _ q=>q);obtain⟨rfl,q⟩:=q;exact PV q
 | some x=>
  have hy:ys[k2]?=none:=by rcases pd with h | h;rw[hx] at h;cases h;exact h
  refine PP (PP (PP (wpAny_holding (show wpAny _ _ (Builtin.SmallTypes.nextOf (.ref i1) >>=_) _ _ _ from PP (cc (h1.at λo q=>e1.extBut _ o D.i1z q) (cO.at λo q=>e1.extBut _ o O1.z q) hx λg2 j1 e2=>PV ?_)))));refine PV ?_;refine PP (PP (wpAny_holding (show wpAny _ _ (Builtin.SmallTypes.nextOf (.ref i2) >>=_) _ _ _ from PP (et hh (h2.at λo q=>e2.extBut _ o D.i12.symm (e1.extBut _ o D.i2z q)) (dh.at λo q=>e2.extBut _ o O2.a (e1.extBut _ o O2.z q)) hy λg3 e e3 he=>?_))));refine PP (wpAny_mono (stop g3 e (λc o c1 c3 c4 x=>e3 _ _ c4 (e2.extBut _ _ c3 (e1.extBut _ _ c1 x))) he) (λr s' q=>?_) λ_ _ q=>q);obtain⟨rfl,q⟩:=q;exact PV q
end
def EL (b1 b2:Bool) (S z TI TO i1 i2 l1 l2:Addr) (i:Nat) (h:Heap):Prop:=
 IsPair h TI (.ref i1) (.ref i2)/\ba b1 h i1 l1 i/\ba b2 h i2 l2 i/\
 ((IsZip h z TI TO .none/\∃a b,IsPair h TO a b)\/∃p fb o,r8 h z TI TO p fb/\h.get? p=some o/\p∉[z,TO,i1,i2,S]/\∃oT,h.get? TO=some oT)
def EL.keep {b1 b2:Bool} {S z TI TO i1 i2 l1 l2:Addr} {i:Nat} {h h':Heap} (st:EL b1 b2 S z TI TO i1 i2 l1 l2 i h) (hS:S∉[z,TI,TO,i1,i2]) (kk:∀b o,b≠S->h.get? b=some o->h'.get? b=some o):EL b1 b2 S z TI TO i1 i2 l1 l2 i h':=by
 simp only[Qb,Qc,or_false,not_or] at hS;obtain⟨n1,n2,n3,n4,n5⟩:=hS;obtain⟨s1,s2,s3,s4⟩:=st;refine⟨kk _ _ (Ne.symm n2) s1,s2.at λo e=>kk _ o (Ne.symm n4) e,s3.at λo e=>kk _ o (Ne.symm n5) e,?_⟩;rcases s4 with ⟨z1,a,b,t1⟩ | ⟨p,fb,o,z1,p1,p2,oT,Ia⟩
 ·exact .inl ⟨kk _ _ (Ne.symm n1) z1,a,b,kk _ _ (Ne.symm n3) t1⟩
 ·refine .inr ⟨p,fb,o,kk _ _ (Ne.symm n1) z1,kk _ _ (λe=>p2 (by simp[e])) p1,p2,oT,kk _ _ (Ne.symm n3) Ia⟩
section
variable {prog:Program} {w:World} {A:Around} {E:Value->Shared->Prop} {s:Shared}
def Al {b1 b2:Bool} {S z TI TO i1 i2 l1 l2:Addr} {i:Nat} {xs ys:Array Value} {x y:Value} {Q:Option Value->Shared->Prop} (D:iy z TI TO i1 i2) (O1:bO z TO i1 i2 l1) (O2:bO z TO i1 i2 l2) (hS:∃o,s.heap.get? S=some o)
  (st:EL b1 b2 S z TI TO i1 i2 l1 l2 i s.heap) (cO:cu b1 s.heap l1 xs) (dh:cu b2 s.heap l2 ys) (hx:xs[i]?=some x) (hy:ys[i]?=some y)
  (hQ:∀h',EL b1 b2 S z TI TO i1 i2 l1 l2 (i + 1) h'->IsPair h' s.heap.objs.size x y->(∀c o,c∉[z,TO,i1,i2]->s.heap.get? c=some o->h'.get? c=some o)->Q (some (.ref s.heap.objs.size)) {s with heap:=h'}):wpAny (model prog w) A (pyNext (.ref z)) Q E s:=by
 obtain⟨s1,s2,s3,s4⟩:=st;have nw:∀{b:Addr} {o:Obj},s.heap.get? b=some o->s.heap.objs.size≠b:=λe q=>Nat.lt_irrefl _ (q▸P9 e)
 obtain⟨oS,hS⟩:=hS;obtain⟨o1,zU,_⟩:=s2.obj;obtain⟨o2,oV,_⟩:=s3.obj;rcases s4 with ⟨z1,a,b,t1⟩ | ⟨p,fb,o,z1,p1,p2,oT,Ia⟩
 ·refine lV D O1 O2 z1 s1 t1 s2 s3 cO dh hx hy λh' a1 a2 a3 a4 a5 a6=>hQ h' ⟨a6 _ _ D.TIz D.TITO D.TIi1 D.TIi2 s1,a3,a4,.inr ⟨s.heap.objs.size,false,_,a1,a5,?_,_,a2⟩⟩ a5 λc o hc e=>?_
  ·simp only[Qb,Qc,or_false,not_or];exact⟨nw z1,nw t1,nw zU,nw oV,nw hS⟩
  ·simp only[Qb,Qc,or_false,not_or] at hc;exact a6 c o hc.1 hc.2.1 hc.2.2.1 hc.2.2.2 e
 ·refine vb D O1 O2 z1 p1 s1 s2 s3 cO dh hx hy λh' a1 a3 a4 a5 a6=>hQ h' ⟨a6 _ _ D.TIz D.TIi1 D.TIi2 s1,a3,a4,.inr ⟨p,true,o,a1,?_,p2,oT,a6 _ _ D.TOz D.TOi1 D.TOi2 Ia⟩⟩ a5 λc o hc e=>?_
  ·simp only[Qb,Qc,or_false,not_or] at p2;exact a6 p o p2.1 p2.2.2.1 p2.2.2.2.1 p1
  ·simp only[Qb,Qc,or_false,not_or] at hc;exact a6 c o hc.1 hc.2.2.1 hc.2.2.2 e
def CM {b1 b2:Bool} {S z TI TO i1 i2 l1 l2:Addr} {i:Nat} {xs ys:Array Value} {Q:Option Value->Shared->Prop} (hh:A.handled=none) (D:iy z TI TO i1 i2) (O1:bO z TO i1 i2 l1) (O2:bO z TO i1 i2 l2)
  (st:EL b1 b2 S z TI TO i1 i2 l1 l2 i s.heap) (cO:cu b1 s.heap l1 xs) (dh:cu b2 s.heap l2 ys) (pd:xs[i]?=none\/ys[i]?=none)
  (hQ:∀h',(∀c o,c∉[z,TO,i1,i2]->s.heap.get? c=some o->h'.get? c=some o)->Q none {s with heap:=h'}):wpAny (model prog w) A (pyNext (.ref z)) Q E s:=by
 obtain⟨s1,s2,s3,s4⟩:=st;rcases s4 with ⟨z1,a,b,t1⟩ | ⟨p,fb,o,z1,p1,p2,_⟩
 ·refine pz hh D O1 O2 z1 s1 t1 s2 s3 cO dh pd λh' a6=>hQ h' λc o hc e=>?_
  simp only[Qb,Qc,or_false,not_or] at hc;exact a6 c o hc.1 hc.2.1 hc.2.2.1 hc.2.2.2 e
 ·refine xS hh D O1 O2 z1 p1 s1 s2 s3 cO dh pd λh' a6=>hQ h' λc o hc e=>?_
  simp only[Qb,Qc,or_false,not_or] at hc;exact a6 c o hc.1 hc.2.2.1 hc.2.2.2 e
end
section
variable {X:Cx} {pins:List (Addr×Obj)} {σ:L2.St} {b1 b2:Bool} {S z TI TO i1 i2 l1 l2:Addr} {xs ys:List V} {H0:Hp}
def Zd (xs ys:List V) (H:Hp) (ps:List Addr):Prop:=∀(j:Nat) (x y:V) (p:Addr),xs[j]?=some x->ys[j]?=some y->ps[j]?=some p->H p=some (.tup [x,y])
def za {A:Around} {R:Result->Shared->Prop} {res:Value} (hh:A.in1.handled=none) (ap:iy z TI TO i1 i2) (Cn:S∉[z,TI,TO,i1,i2]) (cP:xs.length<=sizeLine) (NK:H0 S=none) (cO:H0 l1=some (g9 b1 xs)) (dh:H0 l2=some (g9 b2 ys)):
  ∀(k i:Nat) (s:Shared) (H:Hp) (ps:List Addr),min xs.length ys.length - i=k->i<=min xs.length ys.length->Inv X pins σ H s->(∀b∈[z,TI,TO,i1,i2],gh X pins H b)->EL b1 b2 S z TI TO i1 i2 l1 l2 i s.heap->
   H S=some (.lst (ps.map V.ref))->ps.length=i->Zd xs ys H ps->bD H0 H->
   (∀s' H' FB,Inv X pins σ H' s'->H' S=some (.lst (FB.map V.ref))->FB.length=min xs.length ys.length->Zd xs ys H' FB->bD H0 H'->R (.ok (.ret res)) s')->
   codeAny (model X.prog X.w) A (.builtin "list.extend.loop" ⟨[.ref S,.ref z,res],[]⟩) R s:=by
 intro k
 induction k with
 | zero=>
  intro i s H ps hk hi I hf st hS yo hz uT hR;have e1:=uT _ _ cO;have e2:=uT _ _ dh;obtain⟨cV,r1,p1⟩:=bp I e1;obtain⟨aM,r2,p2⟩:=bp I e2;have ne:∀{l:Addr} {o:HO},H l=some o->∀b∈[z,TI,TO,i1,i2],l≠b:=λ {l o} hl b hb e=>by subst e;rw[(hf l hb).1] at hl;cases hl
  have off:∀{l:Addr} {o:HO},H l=some o->bO z TO i1 i2 l:=λ {l o} hl=>⟨ne hl z (by simp),ne hl TO (by simp),ne hl i1 (by simp),ne hl i2 (by simp)⟩
  have q1:=r1.length;have q2:=r2.length;refine codeAny_builtin PySem.F.entry_extend_loop ?_;rw[Around.under_plainId PySem.F.plain_extend_loop _];show wpAny _ A.in1 (pyNext (.ref z) >>=_) _ _ s;refine PP (CM hh ap (off e1) (off e2) st p1 p2 (by simp;omega) λh' kk=>?_);refine PV (hR _ H ps ?_ hS (by omega) hz uT);have oM:∀b u,H b=some u->b∉[z,TI,TO,i1,i2]:=λb u e hb=>by rw[(hf b hb).1] at e;cases e
  have jU:∀b o,b∉[z,TI,TO,i1,i2]->s.heap.get? b=some o->h'.get? b=some o:=λb o hb e=>by simp only[Qb,Qc,or_false,not_or] at hb;exact kk b o (by simp only[Qb,Qc,or_false,not_or];exact⟨hb.1,hb.2.2.1,hb.2.2.2.1,hb.2.2.2.2⟩) e
  refine I.step (g':=s.gens) (d':=s.drawn) (t':=s.toks) (h':=h') (ch:=[z,TI,TO,i1,i2]) (λb hb=>⟨(hf b hb).2.2.2.1,(hf b hb).2.1,(hf b hb).2.2.2.2.1,(hf b hb).2.2.2.2.2⟩) (λb o _ _ hb e _=>jU b o hb e) (λb o _ _ hb e _=>⟨o.slots,jU b o hb e⟩)
   (λb o hb e n=>n) (λb o hb e=>⟨o,jU b o hb e⟩) (λb zs e=>e) (λb o u e=>e) (λb ps e=>⟨#[],by rw[e];simp⟩) (λm hm=>?_) (λb u e=>?_) I.bare
  ·obtain⟨o,de,ep,ho,rr⟩:=hm;exact⟨o,de,ep,jU _ o (λhb=>(hf _ hb).2.1 rfl) ho,rr⟩
  ·refine(I.hok b u e).iV (λc v hc q=>jU c v ?_ q) (λc q=>q) λc zs q=>q
   rcases hc with rfl | hc
   ·exact oM c u e
   ·exact oM c _ hc
 | succ k ih=>
  intro i s H ps hk hi I hf st hS yo hz uT hR;have e1:=uT _ _ cO;have e2:=uT _ _ dh;obtain⟨cV,r1,p1⟩:=bp I e1;obtain⟨aM,r2,p2⟩:=bp I e2;have JF:i < xs.length:=by omega
  have KR:i < ys.length:=by omega
  obtain⟨x,hx⟩:∃x,xs[i]?=some x:=⟨xs[i],by simp[JF]⟩;obtain⟨y,hy⟩:∃y,ys[i]?=some y:=⟨ys[i],by simp[KR]⟩;obtain⟨u1,td,Iw⟩:=r1.get hx;obtain⟨u2,JE,KQ⟩:=r2.get hy;have ne:∀{l:Addr} {o:HO},H l=some o->∀b∈[z,TI,TO,i1,i2],l≠b:=λ {l o} hl b hb e=>by subst e;rw[(hf l hb).1] at hl;cases hl
  have off:∀{l:Addr} {o:HO},H l=some o->bO z TO i1 i2 l:=λ {l o} hl=>⟨ne hl z (by simp),ne hl TO (by simp),ne hl i1 (by simp),ne hl i2 (by simp)⟩
  obtain⟨_,zg,nS,rS,Kn⟩:=I.hok S _ hS;refine codeAny_builtin PySem.F.entry_extend_loop ?_;rw[Around.under_plainId PySem.F.plain_extend_loop _];show wpAny _ A.in1 (pyNext (.ref z) >>=_) _ _ s;refine PP (Al ap (off e1) (off e2) ⟨_,Kn⟩ st p1 p2 (by simpa using td) (by simpa using JE) λh' ai hp kk=>?_);have oM:∀b u,H b=some u->b∉[z,TI,TO,i1,i2]:=λb u e hb=>by rw[(hf b hb).1] at e;cases e
  have jU:∀b o,b∉[z,TI,TO,i1,i2]->s.heap.get? b=some o->h'.get? b=some o:=λb o hb e=>by simp only[Qb,Qc,or_false,not_or] at hb;exact kk b o (by simp only[Qb,Qc,or_false,not_or];exact⟨hb.1,hb.2.2.1,hb.2.2.2.1,hb.2.2.2.2⟩) e
  have lt:∀{b:Addr} {o:Obj},s.heap.get? b=some o->b≠s.heap.objs.size:=λe=>Qu (P9 e)
  have lz:H s.heap.objs.size=none:=I.fresh;have Nh:S≠s.heap.objs.size:=lt Kn;have I2:Inv X pins σ (upd H s.heap.objs.size (.tup [x,y])) {s with heap:=h',toks:=s.toks}:=by
   refine I.step (g':=s.gens) (d':=s.drawn) (ch:=[z,TI,TO,i1,i2]) (λb hb=>⟨(hf b hb).2.2.2.1,(hf b hb).2.1,(hf b hb).2.2.2.2.1,(hf b hb).2.2.2.2.2⟩) (λb o _ _ hb e _=>jU b o hb e) (λb o _ _ hb e _=>⟨o.slots,jU b o hb e⟩)
    (λb o hb e n=>by rw[ao (lt e)];exact n) (λb o hb e=>⟨o,jU b o hb e⟩) (λb zs e=>by rw[ao (au e lz)];exact e) (λb o u e=>by rw[ao (au e lz)];exact e)
    (λb ps e=>⟨#[],by rw[ao (au e lz),e];simp⟩) (λm hm=>?_) (λb u e=>?_) I.bare
   ·obtain⟨o,de,ep,ho,rr⟩:=hm;exact⟨o,de,ep,jU _ o (λhb=>(hf _ hb).2.1 rfl) ho,rr⟩
   ·by_cases hb:b=s.heap.objs.size
    ·subst hb;rw[aC] at e;cases e;exact⟨by show 2<=sizeLine;decide,[u1,u2],.cons Iw (.cons KQ .nil),_,hp,rfl,0,rfl⟩
    ·rw[ao hb] at e;refine(I.hok b u e).iV (λc v hc q=>jU c v ?_ q) (λc q=>by rw[ao (au q lz)];exact q) λc zs q=>by rw[ao (au q lz)];exact q
     rcases hc with rfl | hc
     ·exact oM c u e
     ·exact oM c _ hc
  have qI:h'.get? S=some {cls:= .type "list",data:= .seq zg.toArray nS}:=jU S _ (oM S _ hS) Kn;have Fg:zg.length=i:=by have:=rS.length;rw[P8] at this;omega
  show wpAny _ A.in1 (updateSeq S (·.push (.ref s.heap.objs.size)) >>=_) _ _ _;refine PP (wpAny_updateSeq qI rfl (PV ⟨plainId_quiet PySem.F.plain_extend_loop _,?_⟩) (by simp;omega) (by show (zg.toArray.push _).size<=sizeLine + 1;rw[QK];simp;omega));have IA:upd H s.heap.objs.size (.tup [x,y]) S=some (.lst (ps.map V.ref)):=by rw[ao Nh];exact hS
  have kS:∀b u,b≠S->h'.get? b=some u->(h'.update S (Obj.mapSeq (·.push (.ref s.heap.objs.size)))).get? b=some u:=λb u hb e=>(Qr _ _ (Ne.symm hb)).trans e
  obtain⟨c,Mt⟩:∃c,(h'.update S (Obj.mapSeq (·.push (.ref s.heap.objs.size)))).get? S=some {cls:= .type "list",data:= .seq (zg.toArray.push (.ref s.heap.objs.size)) c}:=⟨_,get?_update_seq qI λa=>a.push _⟩;have e3:(ps++[s.heap.objs.size]).map V.ref=ps.map V.ref++[.ref s.heap.objs.size]:=by simp
  have I3:Inv X pins σ (upd (upd H s.heap.objs.size (.tup [x,y])) S (.lst ((ps++[s.heap.objs.size]).map V.ref))) {s with heap:=h'.update S (Obj.mapSeq (·.push (.ref s.heap.objs.size))),toks:=s.toks}:=by
   refine I2.write (t':=s.toks) (e:=S) (by rw[IA];trivial) (.inl rfl) kS ⟨_,Mt⟩ ⟨by simp;omega,zg++[.ref s.heap.objs.size],c,?_,?_⟩
   ·rw[e3];exact rS.append (.cons rfl .nil)
   ·rw[Mt];simp
  have old:∀b o,H0 b=some o->upd (upd H s.heap.objs.size (.tup [x,y])) S (.lst ((ps++[s.heap.objs.size]).map V.ref)) b=some o:=λb o e=>by rw[ao (au e NK),ao (au (uT b o e) lz)];exact uT b o e
  refine ih (i + 1) _ _ (ps++[s.heap.objs.size]) (by omega) (by omega) I3 (λb hb=>?_) (ai.keep Cn λb o hb e=>kS b o hb e) aC (by simp;omega) (λj x' y' p' h1 h2 h3=>?_) old hR
  ·obtain⟨f1,f2⟩:=hf b hb;have NR:b≠S:=λe=>Cn (e▸hb)
   have JX:∃o,s.heap.get? b=some o:=by
    obtain⟨s1,s2,s3,s4⟩:=st;obtain⟨o1,zU,_⟩:=s2.obj;obtain⟨o2,oV,_⟩:=s3.obj;simp only[Qb,Qc,or_false] at hb;rcases hb with rfl | rfl | rfl | rfl | rfl
    ·rcases s4 with ⟨z1,_⟩ | ⟨p,fb,o,z1,_⟩
     ·exact⟨_,z1⟩
     ·exact⟨_,z1⟩
    ·exact⟨_,s1⟩
    ·rcases s4 with ⟨_,_,_,t1⟩ | ⟨_,_,_,_,_,_,oT,Ia⟩
     ·exact⟨_,t1⟩
     ·exact⟨_,Ia⟩
    ·exact⟨_,zU⟩
    ·exact⟨_,oV⟩
   obtain⟨o,JX⟩:=JX;exact⟨by rw[ao NR,ao (lt JX)];exact f1,f2⟩
  ·by_cases hj:j < ps.length
   ·rw[QE hj] at h3;have q:=hz j x' y' p' h1 h2 h3;rw[ao (λe=>?_),ao (au q lz)]
    ·exact q
    ·subst e;rw[hS] at q;cases q
   ·rw[QF (by omega)] at h3;have wD:j=ps.length:=by have:=(P0.mp h3).1;simp at this;omega
    subst wD;rw[yo] at h1 h2;rw[hx] at h1;rw[hy] at h2;cases h1;cases h2;simp at h3;subst h3;rw[ao (Ne.symm Nh)];exact aC
def JW (ta:TA):TE:=λσ H Q=>ta σ H λvs H1=>∃b1 b2 l1 l2 xs ys,vs=[.ref l1,.ref l2]/\H1 l1=some (g9 b1 xs)/\H1 l2=some (g9 b2 ys)/\xs.length<=sizeLine/\
 ∀n ps H2,H1 n=none->bD H1 H2->H2 n=some (.lst (ps.map V.ref))->ps.length=min xs.length ys.length->Zd xs ys H2 ps->Q (.ref n) H2
def vN:typeLookup (.type "zip") "__len__"=pure none:=by rw[typeLookup_type,builtinLookup_eq_fast];kernel_rfl
def rV:typeLookup (.type "zip") "__length_hint__"=pure none:=by rw[typeLookup_type,builtinLookup_eq_fast];kernel_rfl
def sV {a b:Expr} {ta:TA} {p p2 pos fz:Pos} (hc:X.calm=true) (hg:Gl X "list") (hm:X.mg "list"=none) (oY:Gl X "zip") (zN:X.mg "zip"=none) (ha:PA X [a,b] ta)
  (hs:starEach [a,b] X.env=[(false,eval a X.env),(false,eval b X.env)]) (qW:starEach [b] X.env=[(false,eval b X.env)]) (rL:starEach [.Call (.Name "zip" p2) [a,b] [] fz] X.env=[(false,eval (.Call (.Name "zip" p2) [a,b] [] fz) X.env)]:=by rfl):
  PE X (.Call (.Name "list" p) [.Call (.Name "zip" p2) [a,b] [] fz] [] pos) (JW ta):=by
 intro pins s σ H Q I h;refine wpAny_Call_Name_kw (d5 I hg hm PyProof.Rows.boot_list ?_ (by decide) (by decide));refine PyProof.Rows.callWith_type1 ?_ (by rw[rL];rfl) (by rfl);rw[rL];show wpAny _ _ (spliced ((false,eval (.Call (.Name "zip" p2) [a,b] [] fz) X.env)::backTo pos [])) _ _ s;refine Calls.spliced_cons ?_;refine Call_ (d5 I oY zN boot_zip (PyProof.Rows.callWith_type1 (bN (ha fz pins s σ H _ I h) λus s1 ⟨vs,H1,I1,r1,q1⟩=>?_) (by rw[hs,qW]) (by rw[qW];rfl)));obtain⟨b1,b2,l1,l2,xs,ys,e,e1,e2,cP,q⟩:=q1;subst e;obtain⟨u,v,rfl,ru,rv⟩:=r1.two;cases ru;cases rv;obtain⟨cV,_,p1⟩:=bp I1 e1;obtain⟨aM,_,Nl⟩:=bp I1 e2;refine mD p1 Nl λh' g1 g2 g3 g4 g5 kk=>?_
 have I2:Inv X pins σ H1 {s1 with heap:=h'}:=I1.kept (t':=s1.toks) kk;refine Calls.spliced_nil ?_;generalize hN:s1.heap.objs.size=N at g1 g2 g3 g4 g5 ⊢;have ap:iy (N + 4) (N + 2) (N + 3) N (N + 1):=by
  refine⟨?_,?_,?_,?_,?_,?_,?_,?_,?_,?_⟩
  iterate 10 (first | (apply Qu;omega) | (apply Nat.ne_of_gt;omega))
 refine callType_codes (s:={s1 with heap:=h'}) (Q₁:=λobj s₁=>obj= .ref h'.objs.size/\s₁={s1 with heap:=h'.push {cls:= .type "list",data:= .seq #[]}}) PySem.F.called_list (PySem.F.typeCall_list_1 _) PySem.F.entry_list_init
  (code_list_new _ ⟨rfl,rfl⟩) λobj s₁ h₁=>?_
 obtain⟨rfl,rfl⟩:=h₁;generalize hS:h'.objs.size=S;have NP:N + 4 < S:=by rw[<-hS];exact P9 g1
 generalize hh2:h'.push {cls:= .type "list",data:= .seq #[]}=h2;have k2:∀b o,h'.get? b=some o->h2.get? b=some o:=λb o e=>by rw[<-hh2];exact PU _ e
 have t2:h2.get? S=some (seqObj "list" #[] 0):=by rw[<-hh2,<-hS];exact P6 _ rfl
 have Lh:∀b o,h'.get? b=some o->b≠S:=λb o e=>by rw[<-hS];exact Qu (P9 e)
 refine⟨⟨_,t2,rfl⟩,PySem.F.args_list_init_2 _ _,?_⟩;show wpAny _ _ (do let old<-Builtin.List.listItems (.ref S);Builtin.List.listUpdate (.ref S) (λ_=>#[]);letGo old.toList.reverse;Builtin.List.listExtendWith (.ref S) (.ref (N + 4)) .none) _ _ _;refine PP (listItems_at (s:={s1 with heap:=h2}) t2 rfl (PP (listUpdate_at (s:={s1 with heap:=h2}) t2 rfl ?_ (by decide) (by decide))));obtain⟨c3,t3⟩:∃c,(h2.update S (Obj.mapSeq λ_=>(#[]:Array Value))).get? S=some (seqObj "list" #[] c):=⟨_,get?_update_seq t2 λ_=>#[]⟩;generalize Jw:h2.update S (Obj.mapSeq λ_=>(#[]:Array Value))=h3 at t3 ⊢;have k3:∀b o,h'.get? b=some o->h3.get? b=some o:=λb o e=>by rw[<-Jw];exact(Qr _ _ (Ne.symm (Lh b o e))).trans (k2 b o e)
 refine PP (wpAny_letGo ?_);have hT:∀{tk:Nat},Shared.TypeIs {s1 with heap:=h3,toks:=tk} (.ref (N + 4)) "zip":=⟨_,k3 _ _ g1,rfl⟩;have Lw:Builtin.List.listSameRef (.ref S) (.ref (N + 4))=false:=by simp[Builtin.List.listSameRef];exact Nat.ne_of_gt NP
 unfold Builtin.List.listExtendWith;refine PP (wpAny_typeOf (s:={s1 with heap:=h3}) hT ?_);rw[if_neg (by rw[Lw];decide)];refine PP (wpAny_pyIter_zip (s:={s1 with heap:=h3}) (k3 _ _ g1) ?_);refine PP (wpAny_holding ?_);unfold Builtin.List.listLengthHint;refine PP (wpAny_specialOf (s:={s1 with heap:=h3}) hT vN ?_);show wpAny _ _ (specialOf (Value.ref (N + 4)) (Str.ofString "__length_hint__") >>=_) _ _ _;refine PP (wpAny_specialOf (s:={s1 with heap:=h3}) hT rV ?_);refine PV ?_;rw[if_pos (by decide)];refine PP (wpAny_rule (PP ?_));unfold Builtin.List.listTouch;refine PP (listUpdate_at (s:={s1 with heap:=h3}) t3 rfl ?_ (by decide) (by decide));obtain⟨c4,t4⟩:∃c,(h3.update S (Obj.mapSeq λx=>x.push .none)).get? S=some (seqObj "list" #[.none] c):=⟨_,get?_update_seq t3 λx=>x.push .none⟩;generalize hh4:h3.update S (Obj.mapSeq λx=>x.push .none)=h4 at t4 ⊢;refine listUpdate_at (s:={s1 with heap:=h4}) t4 rfl ?_ (by decide) (by decide);obtain⟨c5,t5⟩:∃c,(h4.update S (Obj.mapSeq λx=>x.pop)).get? S=some (seqObj "list" #[] c):=⟨_,get?_update_seq t4 λx=>x.pop⟩;generalize hh5:h4.update S (Obj.mapSeq λx=>x.pop)=h5 at t5 ⊢;have k5:∀b o,h'.get? b=some o->h5.get? b=some o:=λb o e=>by rw[<-hh5,<-hh4];exact(Qr _ _ (Ne.symm (Lh b o e))).trans ((Qr _ _ (Ne.symm (Lh b o e))).trans (k3 b o e))
 have DD:H1 S=none:=I2.hok.fresh (by rw[<-hS];exact P4 _);have I5:Inv X pins σ (upd H1 S (.lst [])) {s1 with heap:=h5,toks:=s1.toks}:=I2.laid (t':=s1.toks) (a:=S) k5 (by rw[<-hS];exact P4 _) ⟨by simp,[],c5,.nil,t5⟩;have iP:∀b∈[N + 4,N + 2,N + 3,N,N + 1],s1.heap.objs.size<=b:=λb hb=>by rw[hN];simp only[Qb,Qc,or_false] at hb;rcases hb with h | h | h | h | h <;> (rw[h];first | exact Nat.le_add_right _ _ | exact P4 _)
 have Fg:∀b∈[N + 4,N + 2,N + 3,N,N + 1],b≠S:=λb hb=>by simp only[Qb,Qc,or_false] at hb;rcases hb with h | h | h | h | h <;> (rw[h];apply Qu;omega)
 refine PV ⟨plainId_quiet PySem.F.plain_extend_loop _,za (H0:=H1) (A:=X.A.in1) (I1.ok.hd hc) ap (λzt=>Fg _ zt rfl) cP DD e1 e2 _ 0 _ _ [] rfl (Nat.zero_le _) I5 (λb hb=>?_)
  ⟨k5 _ _ g2,g4.at λo e=>k5 _ o e,g5.at λo e=>k5 _ o e,.inl ⟨k5 _ _ g1,_,_,k5 _ _ g3⟩⟩ aC rfl (λj x y p' _ _ h3=>by simp at h3) (cD DD _) λs' H' FB I' qI Af Mv hsm'=>⟨rfl,.ref S,H',I',rfl,q S FB H' DD hsm' qI Af Mv⟩⟩
 exact I1.qh (iP b hb) (by rw[ao (Fg b hb)];exact I1.hok.fresh (iP b hb))
end
def uR (ns:List Int):∀j,preSum (λi=>ns.getD i 0) j=(ns.take j).sum
 | 0=>by simp[preSum]
 | j + 1=>by
  rw[preSum,uR ns j];by_cases h:j < ns.length
  ·have e:ns.take (j + 1)=ns.take j++[ns[j]]:=by rw[List.take_append_getElem h]
   rw[e,List.sum_append];simp[h]
  ·rw[List.take_of_length_le (by omega),List.take_of_length_le (by omega)];simp[show ns.length<=j by omega]
def int_at {ns:List Int} {its:List Value} (r:aw (ns.map V.int) its) {i:Nat} {v:Value} (h:its[i]?=some v):∃t,v= .int (ns.getD i 0) t:=by
 have hl:=r.length;have hi:i < ns.length:=by have:=(P0.mp h).1;simp at hl;omega
 obtain⟨u,hu,ru⟩:=r.get (i:=i) (x:=V.int (ns.getD i 0)) (by simp[hi]);rw[h] at hu;cases hu;exact ru
section
variable {X:Cx}
def yP {prog:Program} {w:World} {A:Around} {E:Value->Shared->Prop} {s:Shared} {l:Addr} {items:Array Value} {Q:Value->Shared->Prop} (hl:s.heap.IsList l items)
  (h:∀s2:Shared,s2={s with heap:=s.heap.push {cls:= .type "list_iterator",data:= .fields #[.ref l,.int 0 0]}}->(s2.heap.IsListIter s.heap.objs.size l 0/\s2.heap.IsList l items)->(∀b∈[s.heap.objs.size,l],b < s2.heap.objs.size)->l≠s.heap.objs.size->
   (∀(b:Addr) (o:Obj),s.heap.get? b=some o->b∉[s.heap.objs.size]/\s2.heap.get? b=some o)->Q (.ref s.heap.objs.size) s2):wpAny (model prog w) A (pyIter (.ref l)) Q E s:=by
 have lt:l < s.heap.objs.size:=by obtain⟨_,e,_⟩:=hl;exact P9 e
 refine wpAny_pyIter_list hl (h _ rfl ⟨⟨_,P6 _ rfl,rfl,rfl⟩,hl.push _⟩ (λb hb=>?_) (Qu lt) λb o e=>⟨?_,PU _ e⟩)
 ·show b < (s.heap.push _).objs.size;rw[Qt];simp only[Qb,Qc,or_false] at hb;have lt':l < s.heap.objs.size:=lt;rcases hb with rfl | rfl
  ·exact Nat.lt_succ_self _
  ·exact Nat.lt_succ_of_lt lt'
 ·intro hb;have:=P9 e;rw[Qx.mp hb] at this;exact Nat.lt_irrefl _ this
def Lq (K:PySem.W.Frag):List V->Hp->VK->Prop:=λxs H Q=>∃(l:Addr) (ns:List Int),xs=[.ref l]/\d9 K H l (ns.map V.int)/\Q (.int ns.sum) H
def xj (hc:X.calm=true):gv X (.builtin "sum") (Lq X.K):=by
 intro pins s σ H xs us Q I r h;obtain⟨l,ns,rfl,hq,q⟩:=h;obtain⟨u,rfl,ru⟩:=r.one;cases ru;obtain⟨its,rv,pl,hz⟩:=I.list hq;have hl:its.length=ns.length:=by rw[<-rv.length];simp
 refine call_sum_walkG (yP pl.isList λs2 e st fp ne old=>?_);refine⟨_,_,_,_,_,_,λi=>ns.getD i 0,rfl,Walks.list (A:=X.A.in1) (I.ok.hd hc) _ l ne its.toArray,st,fp,λi v hv=>?_,λh' tk t' hk=>?_⟩
 ·have JS:its.toArray[i]?=some v:=hv;exact int_at rv (by simpa using JS)
 ·subst e;refine⟨.int _,H,I.kept λb o e=>hk b o (old b o e).1 (old b o e).2,⟨t',rfl⟩,?_⟩;rw[show its.toArray.size=ns.length by simp[hl],uR,List.take_length];exact q
end
def gn {i:Nat} {v:V} {σ:L2.St} {H:Hp} {k:L2.St->Hp->Prop} (h:k (σ.set i (some v)) H):eB i v σ H k:=h
end Mx
end
section
namespace Mx
open PySem PySem.W PySem.Spec PyProof.Rows L2 HT
open PySem.AutoSeq1 (wpAny_loadPart')
def tuple_addW0 (l b:Addr) (items fK:Array Value) (n n2:Nat) (dd zH:Option Addr) (sl wj:Array (Option Value)) (Pi:items.isEmpty=true):
  Meets (Builtin.«tuple.__add__» ⟨[.ref l,.ref b],[]⟩) (λ_ R s=>s.heap.get? l=some {cls:= .type "tuple",dict:=dd,data:= .seq items n,slots:=sl}/\s.heap.get? b=some {cls:= .type "tuple",dict:=zH,data:= .seq fK n2,slots:=wj}/\R (.ok (.ret (Value.ref b))) s):=
 .of_wp λprog w A R s h=>by
  obtain⟨hp,g,d,tk,os⟩:=s;obtain⟨hl,hb,h⟩:=h;have f2:=sub_tuple_tuple
  wp_walk using wpAny_loadPart' hl,wpAny_loadPart' hb
  exact⟨_,rfl,h⟩
def yN {α:Type} (pre:List α) (x:α):nv (pre++[x]).length (-1)=some pre.length:=by unfold nv;rw[if_neg (by decide),if_pos (by simp;omega)];simp;omega
def pC {α:Type} (pre:List α) (x:α):ka (pre++[x]) (-1)=some x:=by unfold ka;rw[yN];simp
end Mx
end
section
namespace L2
open PySem PySem.Spec PyProof.Rows
def d7 (e:Expr) (d:Nat) (it acc:Value) (env:Env) (target:Expr) (ifs:List Expr) (p:Pos) (body:Sem Unit):Sem PySem.Fin:=do
 standAt p
 match<-pyNext it with
 | none=>pure (.done .next)
 | some v=>
  letOwnedTupleGo target it v
  assign target env v
  let mut ok:=true
  for c in ifs do
   if ok then ok<-isTrue c env (eval c env)
  if ok then body
  again (.compLoop e d it acc env)
def nq {prog:Program} {w:World} {A:Around} {R:Result->Shared->Prop} {s:Shared} {elt target:Expr} {gens:List Comprehension} {scope:Scope} {pos:Pos} {d:Nat} {ifs:List Expr} {p:Pos} {it acc:Value} {env:Env} {body:Sem Unit} (heq:compTurn (.ListComp elt gens scope pos) d it acc env=d7 (.ListComp elt gens scope pos) d it acc env target ifs p body) {EE:Value->Shared->Prop}
  (Gq:∀x s',EE x s'->notedBy (model prog w) A env (λx s'=>R (.error x) s') x s') (I:Nat->Shared->Prop)
  (turn:∀n s,I n s->wpAny (model prog w) A (pyNext it) (λr s₁=>match r with
   | none=>R (.ok .next) s₁
   | some v=>wpAny (model prog w) A (letOwnedTupleGo target it v) (λ_ s₁'=>wpAny (model prog w) A (assign target env v) (λ_ s₂=>
     wpAny (model prog w) A (forIn ifs true λc r=>if r=true then do let ok<-isTrue c env (eval c env);pure (ForInStep.yield ok) else pure (ForInStep.yield r)) (λok s₃=>
      if ok=true then wpAny (model prog w) A body (λ_ s₄=>∃m,m < n/\I m s₄) EE s₃
      else∃m,m < n/\I m s₃) EE s₂) EE s₁') EE s₁) EE s)
  (n:Nat) (h:I n s):codeAny (model prog w) A (.compLoop (.ListComp elt gens scope pos) d it acc env) R s:=by
 refine codeAny_loop rfl I (λn s hI=>?_) n h;show wpAny _ A ((compTurn (.ListComp elt gens scope pos) d it acc env).onRaise (λx=>do noteFrame x env;theTreesLotGoes x)) _ _ s;refine wpAny_noted ?_;rw[heq];unfold d7;refine PP (wpAny_standAt (PP (wpAny_mono (turn n s hI) (λr s₁ h₁=>?_) Gq)));cases r with
 | none=>exact PV h₁
 | some v=>
  refine PP (wpAny_mono h₁ (λ_ s₁' h₁'=>?_) Gq);refine PP (wpAny_mono h₁' (λ_ s₂ h₂=>PP (wpAny_mono h₂ (λok s₃ h₃=>?_) Gq)) Gq);cases ok with
  | false=>exact PV ⟨rfl,h₃⟩
  | true=>exact PP (wpAny_mono h₃ (λ_ s₄ h₄=>PV ⟨rfl,h₄⟩) Gq)
def gM (elt:Expr) (acc:Value) (env:Env):Sem Unit:=do let _<-call (.builtin "list.append") [acc,<-eval elt env]
def nextOf (e:Expr) (d:Nat) (iter:Expr) (acc:Value) (env:Env):Sem Unit:=do
 let x<-eval iter env
 standAt iter.pos
 let x<-foldedSetIterable iter env x
 let _<-runOwn (.compStart e d (<-holding [x] (pyIter x)) acc env) env
def p9 (elt target iter:Expr) (ifs:List Expr) (scope:Scope) (pos:Pos) (it acc:Value) (env:Env):
  compTurn (.ListComp elt [⟨target,iter,ifs,0⟩] scope pos) 0 it acc env=d7 (.ListComp elt [⟨target,iter,ifs,0⟩] scope pos) 0 it acc env target ifs iter.pos (gM elt acc env):=by rfl
def qA (elt target iter bb bV:Expr) (ifs cz:List Expr) (scope:Scope) (pos:Pos) (it acc:Value) (env:Env):
  compTurn (.ListComp elt [⟨target,iter,ifs,0⟩,⟨bb,bV,cz,0⟩] scope pos) 0 it acc env=
   d7 (.ListComp elt [⟨target,iter,ifs,0⟩,⟨bb,bV,cz,0⟩] scope pos) 0 it acc env target ifs iter.pos (nextOf (.ListComp elt [⟨target,iter,ifs,0⟩,⟨bb,bV,cz,0⟩] scope pos) 1 bV acc env):=by
 unfold d7 nextOf;simp only[bind_assoc,pure_bind];rfl
def Ac (elt target iter bb bV:Expr) (ifs cz:List Expr) (scope:Scope) (pos:Pos) (it acc:Value) (env:Env):
  compTurn (.ListComp elt [⟨target,iter,ifs,0⟩,⟨bb,bV,cz,0⟩] scope pos) 1 it acc env=
   d7 (.ListComp elt [⟨target,iter,ifs,0⟩,⟨bb,bV,cz,0⟩] scope pos) 1 it acc env bb cz bV.pos (gM elt acc env):=by rfl
def Le (σ σ2:St):Prop:=σ2.length=σ.length/\∀(j:Nat) (v:V),σ[j]?=some (some v)->σ2[j]?=some (some v)
def Le.refl (σ:St):Le σ σ:=⟨rfl,λ_ _ h=>h⟩
def GL (σ0:St) (g:TG):Prop:=∀x σ H (Q:St->Hp->Prop),Le σ0 σ->g x σ H Q->g x σ H λσ2 H2=>Le σ0 σ2/\Q σ2 H2
def Iu (σ0:St) (g:zC):Prop:=∀x σ H (Q:St->Hp->Prop),Le σ0 σ->g x σ H Q->g x σ H λσ2 H2=>Le σ0 σ2/\Q σ2 H2
def Le.set {k:Nat} {σ0 σ:St} {v:Option V} (h:σ0[k]?=some none) (q:Le σ0 σ):Le σ0 (σ.set k v):=⟨by simpa using q.1,λj w hj=>by
 rw[Qg (by rintro rfl;rw[h] at hj;cases hj)];exact q.2 j w hj⟩
def AK {σ0:St} {k:Nat} (h:σ0[k]?=some none):GL σ0 (eB k):=λx σ H Q p q=>⟨p.set h,q⟩
def BH {σ0:St}:Iu σ0 De:=λx σ H Q p q=>⟨q.1,p,q.2⟩
def wu {σ0:St} {k:Nat} {u:zC} (h:σ0[k]?=some none) (hu:Iu σ0 u):Iu σ0 (xC (eB k) u):=λx σ H Q p q=>by obtain⟨v,r,e,q⟩:=q;exact⟨v,r,e,hu r _ H Q (p.set h) q⟩
def DX {σ0:St} {K:PySem.W.Frag} {n:Nat} {u:zC} (hu:Iu σ0 u):GL σ0 (E0 K n u):=λx σ H Q p q=>by obtain⟨a,xs,e,h1,h2,q⟩:=q;exact⟨a,xs,e,h1,h2,hu xs σ H Q p q⟩
def Inv.le {X:Cx} {pins:List (Addr×Obj)} {σ σ2:St} {H:Hp} {s:Shared} (I:Inv X pins σ2 H s) (h:Le σ σ2):Inv X pins σ H s:=I.weak h.1.symm h.2
abbrev TB:=St->Hp->(Hp->Prop)->Prop
def PB (X:Cx) (body:Sem Unit) (tb:TB):Prop:=∀(pins:List (Addr×Obj)) (s:Shared) (σ:St) (H:Hp) (Q:Hp->Prop),Inv X pins σ H s->tb σ H Q->wpAny (model X.prog X.w) X.A body (λ_ s'=>∃H',Inv X pins σ H' s'/\Q H') X.xe s
def qD (J:It) (g:TG) (tt:TT) (tb:TB) (σ0:St) (F:Hp->Prop) (H1:Hp):Prop:=
 ∃W:Nat->Nat->Hp->Prop,(∃m,W 0 m H1)/\∀i m H,W i m H->
  (J.stop i H/\F H)\/(J.go i H/\∀x H',J.yld i H x H'->g x σ0 H' λσ2 H2=>tt σ2 H2 λb H3=>if b=true then tb σ2 H3 λH4=>∃m',m' < m/\W (i + 1) m' H4 else∃m',m' < m/\W (i + 1) m' H3)
section
variable {X:Cx} {g:TG} {tt:TT} {tb:TB}
def l8 (hc:X.calm=true) {elt target:Expr} {gens:List Comprehension} {scope:Scope} {pos:Pos} {d:Nat} {ifs:List Expr} {p:Pos} {acc:Value} {body:Sem Unit} {R:Result->Shared->Prop} {pins:List (Addr×Obj)} {σ0:St} {H0:Hp} {s0:Shared} {it:Addr} {fp:List Addr} {tn:Nat->Heap->Prop} {J:It} {F:Hp->Prop}
  (heq:compTurn (.ListComp elt gens scope pos) d (.ref it) acc X.env=d7 (.ListComp elt gens scope pos) d (.ref it) acc X.env target ifs p body) (hx:∀x s',X.xe x s'->notedBy (model X.prog X.w) X.A X.env (λx s'=>R (.error x) s') x s')
  (hg:PG X target g) (iP:GL σ0 g) (ht:B0 X ifs tt) (hb:PB X body tb) (I0:Inv X pins σ0 H0 s0) (T:Turn X.prog X.w X.K target J fp it tn) (df:tn 0 s0.heap) (f0:∀b∈fp,gh X pins H0 b)
  (hW:qD J g tt tb σ0 F H0) (fin:∀s' H',Inv X pins σ0 H' s'->F H'->R (.ok .next) s'):codeAny (model X.prog X.w) X.A (.compLoop (.ListComp elt gens scope pos) d (.ref it) acc X.env) R s0:=by
 obtain⟨W,⟨m0,w0⟩,turn⟩:=hW;have nP:∀{H':Hp},(∀b∈fp,H' b=none)->∀b∈fp,gh X pins H' b:=λhn b hb=>⟨hn b hb,(f0 b hb).2⟩
 refine nq heq hx (λn s'=>∃i H',Inv X pins σ0 H' s'/\tn i s'.heap/\(∀b∈fp,H' b=none)/\W i n H') ?_ m0 ⟨0,H0,I0,df,λb hb=>(f0 b hb).1,w0⟩;rintro n s4 ⟨i,H4,I4,F0,MD,w4⟩;rcases turn i n H4 w4 with ⟨stop,qn⟩ | ⟨go,step⟩
 ·refine bN (T.done X rfl rfl rfl hc i pins s4 _ H4 X.xe I4 (nP MD) F0 stop) λr s5 ⟨hr,I5⟩=>?_
  subst hr;exact fin s5 H4 I5 qn
 ·refine bN (T.item X rfl rfl rfl hc i pins s4 _ H4 X.xe I4 (nP MD) F0 go) λr s5 ⟨u,hr,h5⟩=>?_
  subst hr;refine bN h5 λ_ s6 ⟨x,H6,I6,r6,y6,KU,NF⟩=>?_
  have Oz:=I6.pinned (nP NF) (T.obj _ _ KU);have again:∀{s7:Shared} {σ7:St} {H7:Hp} {m7:Nat},Inv X (pins++lg fp s6.heap) σ7 H7 s7->Le σ0 σ7->m7 < n->W (i + 1) m7 H7->
    ∃m,m < n/\∃i H',Inv X pins σ0 H' s7/\tn i s7.heap/\(∀b∈fp,H' b=none)/\W i m H':=λ {s7 σ7 H7 m7} I7 hσ hm w7=>by
   refine⟨m7,hm,i + 1,H7,I7.gZ.le hσ,T.keep _ _ _ KU λb hb o e=>(I7.pin (b,o) (Qv _ (Qv _ (eQ hb e)))).1,λb hb=>?_,w7⟩;obtain⟨o,e,d⟩:=T.obj _ _ KU b hb;exact(I7.pin (b,o) (Qv _ (Qv _ (eQ hb e)))).2.1
  refine bN (hg _ s6 _ H6 x u _ Oz r6 (iP x _ H6 _ (Le.refl _) (step x H6 y6))) λ_ s7 ⟨σ7,H7,I7,Mp,q7⟩=>?_
  refine bN (ht _ s7 σ7 H7 _ I7 q7) λb s8 ⟨H8,I8,q8⟩=>?_
  cases b with
  | false=>rw[if_neg (by simp)] at q8 ⊢;obtain⟨m',hm,w8⟩:=q8;exact again I8 Mp hm w8
  | true=>
   rw[if_pos rfl] at q8 ⊢;refine bN (hb _ s8 σ7 H8 _ I8 q8) λ_ s9 ⟨H9,I9,m',hm,w9⟩=>?_
   exact again I9 Mp hm w9
def uz (D:Addr) (te:TE):TB:=λσ H Q=>te σ H λv H4=>∃d6,H4 D=some (.lst d6)/\d6.length < sizeLine/\Q (upd H4 D (.lst (d6++[v])))
def jV {elt:Expr} {te:TE} {D:Addr} (he:PE X elt te):PB X (gM elt (.ref D) X.env) (uz D te):=by intro pins s σ H Q I h;unfold gM;refine PP (bN (he pins s σ H _ I h) λy s9 ⟨v,H9,I9,r9,d6,O8,hz,q⟩=>?_);refine PP (bN (mz _ s9 σ H9 (.ref D) [v] (.ref D) [y] (λ_ H'=>H'=upd H9 D (.lst (d6++[v]))) I9 rfl (.cons r9 .nil) ⟨D,d6,v,rfl,rfl,O8,hz,rfl⟩) λ_ s10 ⟨_,PF,OF,_,Nx⟩=>?_);subst Nx;exact PV ⟨_,OF,q⟩
def nY {prog:Program} {w:World} {A:Around} {R:Result->Shared->Prop} {s:Shared} {elt target iter bb bV:Expr} {ifs cz:List Expr} {scope:Scope} {pos:Pos} {it acc:Value} {env:Env}
  (h0:codeAny (model prog w) A (.compLoop (.ListComp elt [⟨target,iter,ifs,0⟩,⟨bb,bV,cz,0⟩] scope pos) 1 it acc env) R s)
  (h:wpAny (model prog w) A (pyIter it) (λjL s'=>codeAny (model prog w) A (.compLoop (.ListComp elt [⟨target,iter,ifs,0⟩,⟨bb,bV,cz,0⟩] scope pos) 1 jL acc env) R s')
   (notedBy (model prog w) A env λx s'=>R (.error x) s') s):
  codeAny (model prog w) A (.compStart (.ListComp elt [⟨target,iter,ifs,0⟩,⟨bb,bV,cz,0⟩] scope pos) 1 it acc env) R s:=by
 refine codeAny_of_tree ?_;show wpAny _ _ ((compStart (.ListComp elt [⟨target,iter,ifs,0⟩,⟨bb,bV,cz,0⟩] scope pos) 1 it acc env).onRaise (λx=>do noteFrame x env;standAt theWindowsPlace)) _ _ s;refine wpAny_notedAt ?_;unfold compStart;show wpAny _ _ (ask >>=_) _ _ s;refine PP (wpAny_askSetting (wpAny_ite ?_));split
 ·first
   | exact PP (PV (PV (And.intro rfl h0)))
   | exact PV (And.intro rfl h0)
 ·first
   | exact PP (wpAny_rule (PP (wpAny_standAt (PP (wpAny_mono h (λjL s' h'=>PV (And.intro rfl h')) λ_ _ x=>x)))))
   | (refine PP (wpAny_rule ?_);show wpAny _ _ (standAt bV.pos >>=_) _ _ s;exact PP (wpAny_standAt (PP (wpAny_mono h (λjL s' h'=>PV (And.intro rfl h')) λ_ _ x=>x))))
def HZ (wi:TI) (g:TG) (tt:TT) (tb:TB):TB:=λσ H Q=>GL σ g/\wi σ H λJ H1=>qD J g tt tb σ Q H1
def uG {elt target iter bb bV:Expr} {ifs cz:List Expr} {scope:Scope} {pos:Pos} {acc:Value} {wi:TI} {te:TB} (hc:X.calm=true) (hp:PassesOwn (model X.prog X.w) X.A X.env X.xe) (hi:PI X bb bV wi) (hg:PG X bb g) (ht:B0 X cz tt) (he:PB X (gM elt acc X.env) te)
  (hs:∀x,foldedSetIterable bV X.env x=pure x:=by intro _;rfl):PB X (nextOf (.ListComp elt [⟨target,iter,ifs,0⟩,⟨bb,bV,cz,0⟩] scope pos) 1 bV acc X.env) (HZ wi g tt te):=by
 intro pins s σ H Q I ⟨iP,h⟩;unfold nextOf;refine PP (bN (hi pins s σ H _ I h) λx s₁ h₁=>?_);refine PP (wpAny_standAt (PP (wpAny_of_eq (hs x) (PP (wpAny_holding (bN h₁ λoK s₂ h₂=>?_))))));obtain⟨it,fp,tn,J,H2,e,I2,T,dQ,f2,hW⟩:=h₂;subst e;have loop:codeAny (model X.prog X.w) X.A (.compLoop (.ListComp elt [⟨target,iter,ifs,0⟩,⟨bb,bV,cz,0⟩] scope pos) 1 (.ref it) acc X.env) (λr s'=>match r with | .ok f=>∃H',Inv X pins σ H' s'/\Q H' | .error e=>cameBackBy (model X.prog X.w) X.A X.env X.xe e s') s₂:=
  l8 hc (Ac ..) (λx s' q=>hp x s' q) hg iP ht he I2 T dQ f2 hW λs' H' I' q=>⟨H',I',q⟩
 have run:wpAny (model X.prog X.w) X.A (runOwn (.compStart (.ListComp elt [⟨target,iter,ifs,0⟩,⟨bb,bV,cz,0⟩] scope pos) 1 (.ref it) acc X.env) X.env) (λ_ s'=>∃H',Inv X pins σ H' s'/\Q H') X.xe s₂:=
  wpAny_runOwn (nY loop (T.self _ 0 _ _ _ dQ loop))
 exact PP (wpAny_mono run (λf s' q=>PV q) λ_ _ z=>z)
end
def fR {x:Str} {c:Addr}:∀(names:List (Str×NameKind)) (n:Nat) (acc:List (Str×Addr)),(cellsFrom n names acc).lookup x=some c->(n<=c/\(x,NameKind.cell)∈names)\/acc.lookup x=some c
 | [],n,acc,h=> .inr h
 | (y,k)::r,n,acc,h=>by
  unfold cellsFrom at h;by_cases hk:(k==NameKind.cell)=true
  ·rw[if_pos hk] at h;rcases fR r (n + 1) _ h with ⟨h1,h2⟩ | h1
   ·exact .inl ⟨Qa (Nat.le_succ _) h1,P1 _ h2⟩
   ·rw[Qp] at h1;cases hb:x==y with
    | true=>
     rw[hb] at h1;cases h1;have:x=y:=by simpa using hb
     subst this;have:k=NameKind.cell:=by simpa using hk
     subst this;exact .inl ⟨P4 _,P5⟩
    | false=>rw[hb] at h1;exact .inr h1
  ·rw[if_neg hk] at h;rcases fR r n _ h with ⟨h1,h2⟩ | h1
   ·exact .inl ⟨h1,P1 _ h2⟩
   ·exact .inr h1
def q9 {x y:Str} {c:Addr}:∀(names:List (Str×NameKind)) (n:Nat) (acc:List (Str×Addr)),(∀x c,acc.lookup x=some c->c < n)->(∀x y c,acc.lookup x=some c->acc.lookup y=some c->x=y)->
  (cellsFrom n names acc).lookup x=some c->(cellsFrom n names acc).lookup y=some c->x=y
 | [],n,acc,h1,h2,hx,hy=>h2 x y c hx hy
 | (z,k)::r,n,acc,h1,h2,hx,hy=>by
  unfold cellsFrom at hx hy;by_cases hk:(k==NameKind.cell)=true
  ·rw[if_pos hk] at hx hy;refine q9 r (n + 1) _ (λa b gI=>?_) (λa b e ha hb=>?_) hx hy
   ·rw[Qp] at gI;cases hq:a==z with
    | true=>rw[hq] at gI;cases gI;exact Nat.lt_succ_self _
    | false=>rw[hq] at gI;exact Nat.lt_succ_of_lt (h1 a b gI)
   ·rw[Qp] at ha hb;cases hq:a==z with
    | true=>
     rw[hq] at ha;cases ha;cases DJ:b==z with
     | true=>
      have e1:a=z:=by simpa using hq
      have e2:b=z:=by simpa using DJ
      rw[e1,e2]
     | false=>rw[DJ] at hb;exact absurd (h1 b _ hb) (Nat.lt_irrefl _)
    | false=>
     rw[hq] at ha;cases DJ:b==z with
     | true=>rw[DJ] at hb;cases hb;exact absurd (h1 a _ ha) (Nat.lt_irrefl _)
     | false=>rw[DJ] at hb;exact h2 a b e ha hb
  ·rw[if_neg hk] at hx hy;exact q9 r n acc h1 h2 hx hy
def ni {x:Str} {c:Addr}:∀(names:List (Str×NameKind)) (n:Nat) (acc:List (Str×Addr)),(x,NameKind.cell)∉names->acc.lookup x=some c->(cellsFrom n names acc).lookup x=some c
 | [],n,acc,_,h=>h
 | (z,k)::r,n,acc,hn,h=>by
  unfold cellsFrom;by_cases hk:(k==NameKind.cell)=true
  ·rw[if_pos hk];refine ni r (n + 1) _ (λz'=>hn (P1 _ z')) ?_;rw[Qp];have:(x==z)=false:=by
    cases hq:x==z with
    | false=>rfl
    | true=>
     have e1:x=z:=by simpa using hq
     have e2:k=NameKind.cell:=by simpa using hk
     subst e1 e2;exact absurd P5 hn
   rw[this];exact h
  ·rw[if_neg hk];exact ni r n acc (λz'=>hn (P1 _ z')) h
def j9 {x:Str} {c:Addr}:∀(names:List (Str×NameKind)) (h:Heap) (acc:List (Str×Addr)),(∀x c,acc.lookup x=some c->∃v,h.IsCell c v)->(cellsFrom h.objs.size names acc).lookup x=some c->∃v,(pushCells h names).IsCell c v
 | [],h,acc,ha,hx=>ha x c hx
 | (z,k)::r,h,acc,ha,hx=>by
  unfold cellsFrom at hx;unfold pushCells;by_cases hk:(k==NameKind.cell)=true
  ·rw[if_pos hk] at hx ⊢;refine j9 r _ ((z,h.objs.size)::acc) (λa b gI=>?_) (by rw[Qt];exact hx);rw[Qp] at gI;cases hq:a==z with
   | true=>rw[hq] at gI;cases gI;exact⟨none,_,P6 _ rfl,rfl⟩
   | false=>rw[hq] at gI;obtain⟨v,o,ho,hd⟩:=ha a b gI;exact⟨v,o,PU _ ho,hd⟩
  ·rw[if_neg hk] at hx ⊢;exact j9 r h acc ha hx
def p8 {M:Model} {A:Around} {E:Value->Shared->Prop} {s:Shared} {scope:Scope} {globals:Addr} {cl:List (Str×Addr)} {qual:Str} {out:Env} {Q:Env->Shared->Prop}
  (hQ:∀h',h'=pushCells (s.heap.push {cls:= .type "dict",data:= .dict #[]}) scope.names->Q (newEnv scope s.heap.objs.size globals (cellsFrom (s.heap.objs.size + 1) scope.names cl) qual none .none (some out) builtinsNs) {s with heap:=h'}):
  wpAny M A (newFunctionEnv scope globals cl [] qual none .none (some out)) Q E s:=by
 simp only[newFunctionEnv,Option.isSome_some,if_true];refine PP (wpAny_alloc ?_);refine PP (wpAny_layCells _ (λname kind cells=>by cases hkc:kind==NameKind.cell <;> simp[hkc]) _ _ _ _ ?_);rw[show ({s with heap:=s.heap.push {cls:= .type "dict",data:= .dict #[]}}:Shared).heap.objs.size=s.heap.objs.size + 1 from Qt ..];rw[List.forIn_nil];exact PP (PV (PV (hQ _ rfl)))
def fq (X:Cx) (scope:Scope) (N':List Str) (C:Addr) (s:Shared) (H:Hp) (fp:List Addr) (xe:Value->Shared->Prop):Cx:=
 {X with N:=N',s₀:=s,H₀:=H,env:=compEnvC scope (cellsFrom (C + 1) scope.names (fj scope X.env)) C X.env,outer:=X.stack,stack:=X.stack,ex:=fp,fn:=λx=>scope.names.lookup x==some .cell,pn:=[],xe:=xe}
structure eU (X:Cx) (scope:Scope) (N':List Str) (cJ:List (Option Nat)):Prop where
 kind:scope.kind= .function
 nd:∀y∈scope.names,scope.names.lookup y.1=some y.2
 free:∀y∈scope.names,y.2= .free->X.env.scope.names.lookup y.1=some .cell\/X.env.scope.names.lookup y.1=some .free
 Aq:∀(j i:Nat),cJ[j]?=some (some i)->∃x,N'[j]?=some x/\X.N[i]?=some x/\scope.names.lookup x=some .free
 len:cJ.length=N'.length
section
variable {X:Cx} {scope:Scope} {N':List Str} {cJ:List (Option Nat)} {pins:List (Addr×Obj)} {σ:St} {H:Hp} {s:Shared}
def eU.frees (B:eU X scope N' cJ) (ok:X.Ok):∀y∈scope.names,y.2= .free->∃c,X.env.cells.lookup y.1=some c:=λy hy hf=>ok.has y.1 (B.free y hy hf)
def eU.up (B:eU X scope N' cJ) (ok:X.Ok) {x:Str} {c:Addr} (h:(fj scope X.env).lookup x=some c):X.env.cells.lookup x=some c:=
 jm scope.names [] (B.frees ok) (λ_ z=>by simp at z) h
def eU.pY (B:eU X scope N' cJ) {x:Str} (h:scope.names.lookup x=some .free):(x,NameKind.cell)∉scope.names:=λz=>by have:=B.nd _ z;rw[h] at this;cases this
def rm {xe:Value->Shared->Prop} (B:eU X scope N' cJ) (I:Inv X pins σ H s) {fp:List Addr} {tk:Nat} (hf:∀b∈fp,gh X pins H b) (cQ:∀b∈fp,b < s.heap.objs.size):
  Inv (fq X scope N' s.heap.objs.size s H fp xe) [] (dc cJ σ) H {s with heap:=pushCells (s.heap.push {cls:= .type "dict",data:= .dict #[]}) scope.names,toks:=tk}:=by
 have ok:=I.ok;have hz:(s.heap.push {cls:= .type "dict",data:= .dict #[]}).objs.size=s.heap.objs.size + 1:=Qt ..;have hk:∀b o,s.heap.get? b=some o->(pushCells (s.heap.push {cls:= .type "dict",data:= .dict #[]}) scope.names).get? b=some o:=λb o e=>pushCells_keeps _ _ _ _ (PU _ e)
 have Fh:(pushCells (s.heap.push {cls:= .type "dict",data:= .dict #[]}) scope.names).Ns s.heap.objs.size λ_=>none:=(Heap.Ns.new s.heap (.type "dict")).keeps (pushCells_keeps _ _)
 have Oi:∀x c,(fj scope X.env).lookup x=some c->c < s.heap.objs.size:=λx c h=>by obtain⟨v,z⟩:=I.cell x c (B.up ok h);exact z.lt
 have zF:∀x c,(cellsFrom (s.heap.objs.size + 1) scope.names (fj scope X.env)).lookup x=some c->(s.heap.objs.size + 1<=c/\(x,NameKind.cell)∈scope.names)\/X.env.cells.lookup x=some c:=λx c h=>(fR _ _ _ h).imp id (B.up ok)
 have rK:∀x,scope.names.lookup x=some .free->(compEnvC scope (cellsFrom (s.heap.objs.size + 1) scope.names (fj scope X.env)) s.heap.objs.size X.env).kindOf x=some .cell\/(compEnvC scope (cellsFrom (s.heap.objs.size + 1) scope.names (fj scope X.env)) s.heap.objs.size X.env).kindOf x=some .free:=λx hx=>by
  have q:=aV (env:=X.env) hx;by_cases hc:(NameKind.free==NameKind.free&&X.env.scope.kind== .function&&X.env.kindOf x==some .cell)=true
  ·rw[if_pos hc] at q;exact .inl q
  ·rw[if_neg hc] at q;exact .inr q
 refine⟨⟨ok.mod,?kind,ok.glob,ok.blt,P4 _,?inj,?has,?D3,ok.hd,ok.frames,.inl rfl,?Ii,I.bs,Qa ok.BV I.sz,?qU,?vL,I.stack,I.oq⟩,
  rfl,I.bare,Un.kept hk,⟨_,Fh,?loc⟩,?cell,I.hok.fresh (P4 _),?dO,?pin,I.hok.kept hk,?len⟩
 case kind=>exact B.kind
 case inj=>exact λx y c h1 h2=>q9 _ _ _ (λx c h=>Nat.lt_succ_of_lt (Oi x c h)) (λx y c h1 h2=>ok.inj x y c (B.up ok h1) (B.up ok h2)) h1 h2
 case has=>
  intro x hx;cases hl:scope.names.lookup x with
  | none=>
   have q:=bP (env:=X.env) hl;exact absurd hx (by
    have q':(compEnvC scope (cellsFrom (s.heap.objs.size + 1) scope.names (fj scope X.env)) s.heap.objs.size X.env).kindOf x=none:=q;show¬((compEnvC scope (cellsFrom (s.heap.objs.size + 1) scope.names (fj scope X.env)) s.heap.objs.size X.env).kindOf x=some .cell\/(compEnvC scope (cellsFrom (s.heap.objs.size + 1) scope.names (fj scope X.env)) s.heap.objs.size X.env).kindOf x=some .free);rw[q'];simp)
  | some k=>
   have q:(compEnvC scope (cellsFrom (s.heap.objs.size + 1) scope.names (fj scope X.env)) s.heap.objs.size X.env).kindOf x=some (if (k==NameKind.free&&X.env.scope.kind== .function&&X.env.kindOf x==some .cell) then NameKind.cell else k):=aV (env:=X.env) hl;have hm:=PySem.mem_of_lookup hl;by_cases CZ:k= .free
   ·subst CZ;obtain⟨c,vi⟩:=kl (env:=X.env) scope.names [] (.inl hm);exact⟨c,ni _ _ _ (B.pY hl) vi⟩
   ·have hb:(k==NameKind.free)=false:=by simpa using CZ
    have qv:(compEnvC scope (cellsFrom (s.heap.objs.size + 1) scope.names (fj scope X.env)) s.heap.objs.size X.env).kindOf x=some .cell\/(compEnvC scope (cellsFrom (s.heap.objs.size + 1) scope.names (fj scope X.env)) s.heap.objs.size X.env).kindOf x=some .free:=hx;rw[q,hb] at qv;simp only[Bool.false_and,Bool.false_eq_true,if_false,Option.some.injEq] at qv;rcases qv with z | z
    ·subst z;exact Option.isSome_iff_exists.mp (PySem.W.cellsFrom_some scope.names _ _ (.inl hl))
    ·exact absurd z CZ
 case D3=>
  intro x c wM h;have wM:(scope.names.lookup x==some .cell)=true:=wM;rcases fR _ _ _ h with ⟨h1,_⟩ | h1
  ·exact Qa (Nat.le_succ _) h1
  ·exfalso;have e:=Qm wM;have:∀(l:List (Str×NameKind)) (cs:List (Str×Addr)),(∀c,cs.lookup x≠some c)->(∀y∈l,y.1=x->y.2≠ .free)->(oo X.env l cs).lookup x=none:=by
    intro l
    induction l with
    | nil=>
     intro cs AE _;cases hq:cs.lookup x with
     | none=>exact hq
     | some c=>exact absurd hq (AE c)
    | cons y l ih=>
     intro cs AE hl;obtain⟨n,k⟩:=y;show (oo X.env l (if (k==NameKind.free)=true then(n,(X.env.cells.lookup n).getD 0)::cs else cs)).lookup x=none;refine ih _ (λc=>?_) λy hy=>hl y (P1 _ hy)
     by_cases hk:(k==NameKind.free)=true
     ·rw[if_pos hk,Qp];have:(x==n)=false:=by
       cases hq:x==n with
       | false=>rfl
       | true=>
        have e1:x=n:=by simpa using hq
        have e2:k=NameKind.free:=by simpa using hk
        exact absurd e2 (hl (n,k) P5 e1.symm)
      rw[this];exact AE c
     ·rw[if_neg hk];exact AE c
   have q:=this scope.names [] (λc z=>by simp at z) λy hy e1 e2=>by have:=B.nd y hy;rw[e1,e2,e] at this;cases this
   unfold fj at h1;rw[q] at h1;cases h1
 case Ii=>
  intro b hb;refine⟨Qu (cQ b hb),λx c e=>?_⟩;rcases zF x c e with ⟨h1,_⟩ | h1
  ·intro z;subst z;exact absurd (Qk (cQ c hb) (Qa (Nat.le_succ _) h1)) (Nat.lt_irrefl _)
  ·exact(hf b hb).2.2.2.2.1 x c h1
 case qU=>
  intro b o e hb;rcases (hf b hb).2.2.2.1 with z | z
  ·exact ok.qU b o e z
  ·exact absurd (Qk (P9 (ok.bs b o e).1) z) (Nat.lt_irrefl _)
 case vL=>
  intro b hb hs;rcases Qb.mp (I.kW b hs) with z | z
  ·exact(hf b hb).2.1 z
  ·exact(hf b hb).2.2.1 z
 case loc=>
  intro j x v h1 h2 h3;have hj:∃i,cJ[j]?=some (some i)/\(σ[i]?).join=some v:=by
   unfold dc at h2;rw[Qi] at h2;cases hc:cJ[j]? with
   | none=>rw[hc] at h2;cases h2
   | some o=>
    rw[hc] at h2;cases o with
    | none=>cases h2
    | some i=>exact⟨i,rfl,by simpa using h2⟩
  obtain⟨i,hc,hv⟩:=hj;obtain⟨x',e1,e2,e3⟩:=B.Aq j i hc;have ex:x'=x:=by have G3:N'[j]?=some x:=h1;rw[G3] at e1;injection e1 with e1;exact e1.symm
  subst ex;have JS:σ[i]?=some (some v):=by
   cases q:σ[i]? with
   | none=>rw[q] at hv;cases hv
   | some o=>rw[q] at hv;cases o with
    | none=>cases hv
    | some z=>simp at hv;rw[hv]
  have GZ:=B.free _ (PySem.mem_of_lookup e3) rfl;obtain⟨m,hn,hl⟩:=I.loc;obtain⟨u,r,l⟩:=hl i x' v e2 JS (.inr GZ);refine⟨u,r,?_⟩;obtain⟨c,vi⟩:=kl (env:=X.env) scope.names [] (.inl (PySem.mem_of_lookup e3));have MB:=B.up ok vi;rcases l with ⟨k,_⟩ | ⟨k,c',e,z⟩
  ·exfalso;have k':X.env.scope.names.lookup x'=some .local:=k;rcases GZ with q | q
   ·rw[k'] at q;cases q
   ·rw[k'] at q;cases q
  ·have Oh:c'=c:=by rw[e] at MB;injection MB
   subst Oh;exact .inr ⟨rK x' e3,c',ni _ _ _ (B.pY e3) vi,by obtain⟨o,ho,hd⟩:=z;exact⟨o,hk _ _ ho,hd⟩⟩
 case cell=>intro x c e;refine j9 scope.names (s.heap.push {cls:= .type "dict",data:= .dict #[]}) (fj scope X.env) (λa b gI=>?_) (by rw[hz];exact e);obtain⟨v,o,ho,hd⟩:=I.cell a b (B.up ok gI);exact⟨v,o,PU _ ho,hd⟩
 case dO=>
  intro x c e;rcases zF x c e with ⟨h1,_⟩ | h1
  ·exact I.hok.fresh (Qa (Nat.le_succ _) h1)
  ·exact I.dO x c h1
 case pin=>intro p hp;cases hp
 case len=>show (dc cJ σ).length=N'.length;unfold dc;rw[P8];exact B.len
def Ce (X:Cx) (C:Addr) (x:Value) (s':Shared):Prop:=∃m,s'.heap.Ns C m/\∀h',Heap.SameBut C s'.heap h'->∀vD:Env,vD.locals=C->wpAny (model X.prog X.w) X.A (passOn "comprehension.variables-let-go" x vD:Sem Value) (λ_ _=>False) X.xe {s' with heap:=h'}
structure zW (X:Cx) (scope:Scope) (N':List Str) (xb:Addr->Shared->Hp->List Addr->Value->Shared->Prop):Prop where
 note:∀(pins:List (Addr×Obj)) (σ:St) (C:Addr) (s s1:Shared) (H H1:Hp) (fp:List Addr) x s',Inv X pins σ H1 s1->(∀b∈fp,gh X pins H1 b)->s1.heap.objs.size < C->s={s1 with heap:=s1.heap.push {cls:= .type "list",data:= .seq ([]:List Value).toArray},toks:=s1.toks}->H=upd H1 s1.heap.objs.size (.lst [])->C=s.heap.objs.size->
  xb C s H fp x s'->notedBy (model X.prog X.w) X.A (fq X scope N' C s H fp (xb C s H fp)).env (Ce X C) x s'
variable {elt tg iter:Expr} {ifs:List Expr} {pos:Pos} {wi:TI} {g:TG} {tt:TT}
def mW {gens:List Comprehension} {xb:Addr->Shared->Hp->List Addr->Value->Shared->Prop} {pins:List (Addr×Obj)} {σ:St} {H2:Hp} {s2:Shared} {it:Addr} {fp:List Addr} {tn:Nat->Heap->Prop} {J:It} {F:Hp->Prop} {tb:Addr->TB} {body:Value->Env->Sem Unit} {p:Pos} {RR:Value->Addr->Result->Shared->Prop} (hc:X.calm=true) (B:eU X scope N' cJ) (hX:zW X scope N' xb)
  (heq:∀oK acc env,compTurn (.ListComp elt (⟨tg,iter,ifs,0⟩::gens) scope pos) 0 oK acc env=d7 (.ListComp elt (⟨tg,iter,ifs,0⟩::gens) scope pos) 0 oK acc env tg ifs p (body acc env))
  (iP:GL (dc cJ σ) g) (hg:∀C s H fp,PG (fq X scope N' C s H fp (xb C s H fp)) tg g) (ht:∀C s H fp,B0 (fq X scope N' C s H fp (xb C s H fp)) ifs tt) (hb:∀C s H fp D,PB (fq X scope N' C s H fp (xb C s H fp)) (body (.ref D) (fq X scope N' C s H fp (xb C s H fp)).env) (tb D))
  (I2:Inv X pins σ H2 s2) (T:Turn X.prog X.w X.K tg J fp it tn) (dQ:tn 0 s2.heap) (f2:∀b∈fp,gh X pins H2 b) (hF:qD J g tt (tb s2.heap.objs.size) (dc cJ σ) F (upd H2 s2.heap.objs.size (.lst [])))
  (Od:∀C s' H' m,s2.heap.objs.size < C->Inv X pins σ H' s'->s'.heap.Ns C m->gh X pins H' C->F H'->RR (.ref s2.heap.objs.size) C (.ok .next) s') (MF:∀C x s',Ce X C x s'->RR (.ref s2.heap.objs.size) C (.error x) s') {E:Value->Shared->Prop}:
  wpAny (model X.prog X.w) X.A (newList []) (λacc s₃=>wpAny (model X.prog X.w) X.A (newFunctionEnv scope X.env.globals (fj scope X.env) [] X.env.qual none .none (some X.env)) (λvD s₄=>
   codeAny (model X.prog X.w) X.A (.compStart (.ListComp elt (⟨tg,iter,ifs,0⟩::gens) scope pos) 0 (.ref it) acc {vD with scope:=relabel scope X.env}) (RR acc vD.locals) s₄) E s₃) E s2:=by
 refine wpAny_newObj_type (p8 λh₁ hh₁=>?_);have I3:=I2.C9 (ys:=[]) (its:=[]) (t':=s2.toks) .nil (Nat.zero_le _);dsimp only at hh₁ ⊢;have hC:(s2.heap.push {cls:= .type "list",data:= .seq ([]:List Value).toArray}).objs.size=s2.heap.objs.size + 1:=Qt ..;generalize hD:s2.heap.objs.size=D at *;have Av:∀b∈fp,b < D:=λb hb=>by obtain⟨o,e,_⟩:=T.obj 0 _ dQ b hb;rw[<-hD];exact P9 e
 have f3:∀b∈fp,gh X pins (upd H2 D (.lst [])) b:=λb hb=>⟨by rw[ao (Qu (Av b hb))];exact(f2 b hb).1,(f2 b hb).2⟩
 generalize hs3:({s2 with heap:=s2.heap.push {cls:= .type "list",data:= .seq ([]:List Value).toArray},toks:=s2.toks}:Shared)=s3 at I3;have zc:s3.heap=s2.heap.push {cls:= .type "list",data:= .seq ([]:List Value).toArray}:=by rw[<-hs3]
 have BP:s3.heap.objs.size=D + 1:=by rw[zc];exact hC
 have IB:=rm (xe:=xb s3.heap.objs.size s3 (upd H2 D (.lst [])) fp) (tk:=s2.toks) B I3 f3 (λb hb=>by rw[BP];exact Nat.lt_succ_of_lt (Av b hb));have hk:∀b o,s3.heap.get? b=some o->(pushCells (s3.heap.push {cls:= .type "dict",data:= .dict #[]}) scope.names).get? b=some o:=λb o e=>pushCells_keeps _ _ _ _ (PU _ e)
 rw[<-zc] at hh₁;rw[<-hh₁] at IB hk;have e4:({s3 with heap:=h₁,toks:=s2.toks}:Shared)={s2 with heap:=h₁}:=by rw[<-hs3]
 rw[e4] at IB;rw[hC];have nP:∀{H':Hp},(∀b∈fp,H' b=none)->∀b∈fp,gh (fq X scope N' s3.heap.objs.size s3 (upd H2 D (.lst [])) fp (xb s3.heap.objs.size s3 (upd H2 D (.lst [])) fp)) [] H' b:=λhn b hb=>
  ⟨hn b hb,by show b≠s3.heap.objs.size;rw[BP];exact Qu (Nat.lt_succ_of_lt (Av b hb)),λz=>(by
   rcases Qb.mp (I3.kW b z) with q | q
   ·exact(f3 b hb).2.1 q
   ·exact(f3 b hb).2.2.1 q),.inl hb,(IB.ok.Ii b hb).2,λp hp=>absurd hp (by intro z;cases z)⟩
 have loop:∀s':Shared,s'={s2 with heap:=h₁}->codeAny (model X.prog X.w) X.A (.compLoop (.ListComp elt (⟨tg,iter,ifs,0⟩::gens) scope pos) 0 (.ref it) (.ref D) (fq X scope N' s3.heap.objs.size s3 (upd H2 D (.lst [])) fp (xb s3.heap.objs.size s3 (upd H2 D (.lst [])) fp)).env)
   (RR (.ref D) (D + 1)) s':=by
  rintro s' rfl;refine l8 (X:=fq X scope N' s3.heap.objs.size s3 (upd H2 D (.lst [])) fp (xb s3.heap.objs.size s3 (upd H2 D (.lst [])) fp)) hc (heq _ _ _) (λx s' q=>?_) (hg _ _ _ _) iP (ht _ _ _ _) (hb _ _ _ _ D) IB T (T.keep _ _ _ dQ (λb hb o e=>hk b o (by rw[zc];exact PU _ e))) (nP λb hb=>(f3 b hb).1) hF λs5 H5 I5 qn=>?_
  ·have z:=hX.note pins σ s3.heap.objs.size s3 s2 (upd H2 D (.lst [])) H2 fp x s' I2 f2 (by rw[BP,hD];exact Nat.lt_succ_self _) hs3.symm (by rw[hD]) rfl q;rw[BP] at z;exact wpAny_mono z (λ_ s'' w=>MF (D + 1) x s'' w) λy s'' w=>MF (D + 1) y s'' w
  ·obtain⟨m5,Kz,_⟩:=I5.loc;have un:Un (fu X.stack) fp H2 H5 s2.heap s5.heap:=by
    have u1:Un (fu X.stack) fp H2 (upd H2 D (.lst [])) s2.heap s3.heap:=by rw[zc];exact Un.laid (λb u e=>PU _ e) (by rw[hD];exact P4 _) (by rw[<-hD];exact I2.fresh)
    exact u1.trans I5.base
   have hI:Inv X pins σ H5 s5:=I2.xc (ch:=fp) (I5.os.trans (by show s3.os=s2.os;rw[<-hs3])) un I5.hok I5.bare λb hb=>⟨(f2 b hb).2.2.2.1,(f2 b hb).2.1,(f2 b hb).2.2.2.2.1,(f2 b hb).2.2.2.2.2⟩
   have xB:s5.heap.Ns (D + 1) m5:=by have q:s5.heap.Ns s3.heap.objs.size m5:=Kz;rw[BP] at q;exact q
   have LU:H5 (D + 1)=none:=by have q:H5 s3.heap.objs.size=none:=I5.free;rw[BP] at q;exact q
   exact Od (D + 1) s5 H5 m5 (Nat.lt_succ_self _) hI xB (I2.qh (by rw[hD];exact Nat.le_succ _) LU) qn
 have JC:({newEnv scope (D + 1) X.env.globals (cellsFrom (D + 1 + 1) scope.names (fj scope X.env)) X.env.qual none .none (some X.env) builtinsNs with scope:=relabel scope X.env}:Env)=(fq X scope N' s3.heap.objs.size s3 (upd H2 D (.lst [])) fp (xb s3.heap.objs.size s3 (upd H2 D (.lst [])) fp)).env:=by unfold fq;rw[BP];rfl
 have go:=codeAny_compStart_list (loop _ rfl) (T.self X.A 0 _ _ _ (T.keep _ _ _ dQ (λb hb o e=>hk b o (by rw[zc];exact PU _ e))) (loop _ rfl));rw[<-JC] at go;exact go
end
def oz (cJ:List (Option Nat)) (wi:TI) (g:TG) (tt:TT) (tb:Addr->TB):TE:=λσ H Q=>wi σ H λJ H1=>∀D,H1 D=none->GL (dc cJ σ) g/\qD J g tt (tb D) (dc cJ σ) (λH'=>Q (.ref D) H') (upd H1 D (.lst []))
section
variable {X:Cx} {scope:Scope} {N':List Str} {cJ:List (Option Nat)} {elt tg iter:Expr} {ifs:List Expr} {gens:List Comprehension} {pos p:Pos} {wi:TI} {g:TG} {tt:TT} {tb:Addr->TB} {body:Value->Env->Sem Unit} {xb:Addr->Shared->Hp->List Addr->Value->Shared->Prop}
def pq (hc:X.calm=true) (B:eU X scope N' cJ) (hX:zW X scope N' xb) (hi:PI X tg iter wi) (heq:∀oK acc env,compTurn (.ListComp elt (⟨tg,iter,ifs,0⟩::gens) scope pos) 0 oK acc env=d7 (.ListComp elt (⟨tg,iter,ifs,0⟩::gens) scope pos) 0 oK acc env tg ifs p (body acc env))
  (hg:∀C s H fp,PG (fq X scope N' C s H fp (xb C s H fp)) tg g) (ht:∀C s H fp,B0 (fq X scope N' C s H fp (xb C s H fp)) ifs tt) (hb:∀C s H fp D,PB (fq X scope N' C s H fp (xb C s H fp)) (body (.ref D) (fq X scope N' C s H fp (xb C s H fp)).env) (tb D))
  (hs:∀x,foldedSetIterable iter X.env x=pure x:=by intro _;rfl):PE X (.ListComp elt (⟨tg,iter,ifs,0⟩::gens) scope pos) (oz cJ wi g tt tb):=by
 intro pins s σ H Q I h;rw[eval_ListComp];refine wpAny_comprehension_free (use:=none) rfl hs (gq (B.frees I.ok)) B.kind (λy hy e=>by rw[B.nd y hy,e]) (bN (hi pins s σ H _ I h) λx s₁ h₁=>bN h₁ λoK s₂ h₂=>?_);obtain⟨it,fp,tn,J,H2,e,I2,T,dQ,f2,hF⟩:=h₂;subst e;obtain⟨iP,hW⟩:=hF _ I2.fresh;refine mW (RR:=λacc C=>compPost (model X.prog X.w) X.A X.xe none (EP X pins σ Q) acc C) hc B hX heq iP hg ht hb I2 T dQ f2 hW (λC s' H' m hC I' hn fC q=>?_) λC x s' z=>z
 refine⟨m,hn,λh' qW=>⟨.ref _,H',I'.turned (t':=s'.toks) (λb o hb e=>(qW.2 b hb).trans e) fC.1 fC.2.1 fC.2.2.2.1 fC.2.2.2.2.1 fC.2.2.2.2.2,rfl,q⟩⟩
def jn {i:Nat} {x:Str} {pos' FV:Pos} (hc:X.calm=true) (hN:X.N.Nodup) (BU:X.N[i]?=some x) (hx:X.env.kindOf x=some .local) (B:eU X scope N' cJ) (hX:zW X scope N' xb) (hi:PI X tg iter wi) (heq:∀oK acc env,compTurn (.ListComp elt (⟨tg,iter,ifs,0⟩::gens) scope pos) 0 oK acc env=d7 (.ListComp elt (⟨tg,iter,ifs,0⟩::gens) scope pos) 0 oK acc env tg ifs p (body acc env))
  (hg:∀C s H fp,PG (fq X scope N' C s H fp (xb C s H fp)) tg g) (ht:∀C s H fp,B0 (fq X scope N' C s H fp (xb C s H fp)) ifs tt) (hb:∀C s H fp D,PB (fq X scope N' C s H fp (xb C s H fp)) (body (.ref D) (fq X scope N' C s H fp (xb C s H fp)).env) (tb D))
  (hs:∀x,foldedSetIterable iter X.env x=pure x:=by intro _;rfl)
  (E3:swapsWith (.ListComp elt (⟨tg,iter,ifs,0⟩::gens) scope pos) (some (.Name x pos')) FV.line X.env=pure true:=by rfl):
  PS X (.Assign [.Name x pos'] (.ListComp elt (⟨tg,iter,ifs,0⟩::gens) scope pos) FV) (se (oz cJ wi g tt tb) (eB i)):=by
 intro pins s σ H D I h;rw[exec_Assign_Name_used _ _ _ _ E3];refine PP (wpAny_standAt (PP ?_));show wpAny _ X.A (do let _<-comprehension (.ListComp elt (⟨tg,iter,ifs,0⟩::gens) scope pos) scope X.env _ (newList []) false (eval iter X.env) (some (assign (.Name x pos') X.env))) _ _ s;refine PP (wpAny_mono (wpAny_comprehension_free (use:=some (assign (.Name x pos') X.env)) (Q:=λ_ s'=>SP X pins D .next s') rfl hs (gq (B.frees I.ok)) B.kind (λy hy e=>by rw[B.nd y hy,e]) (bN (hi pins s σ H _ I h) λx s₁ h₁=>bN h₁ λoK s₂ h₂=>?_))
  (λ_ s' hq=>PV (PV hq)) λ_ _ e=>e)
 obtain⟨it,fp,tn,J,H2,e,I2,T,dQ,f2,hF⟩:=h₂;subst e;obtain⟨iP,hW⟩:=hF _ I2.fresh;refine mW (RR:=λacc C=>compPost (model X.prog X.w) X.A X.xe (some (assign (.Name _ pos') X.env)) (λ_ s'=>SP X pins D .next s') acc C) hc B hX heq iP hg ht hb I2 T dQ f2 hW (λC s' H' m hC I' hn fC q=>?_) λC x s' z=>z
 show wpAny _ X.A (assign (.Name _ pos') X.env (.ref _)) _ _ _;refine wpAny_assign_Name (mI (v:= .ref _) I' hN BU (.inl hx) rfl (λs3 I3 qW=>?_) (.inr hx));obtain⟨a,sb,ha⟩:=qW;have Og:C≠a:=by
  rcases ha with rfl | ha
  ·exact fC.2.1
  ·exact Ne.symm (fC.2.2.2.2.1 _ a ha)
 refine⟨m,hn.sameBut sb Og,λh' hsb'=>?_⟩;exact⟨_,H',I3.turned (t':=s3.toks) (λb o hb e=>(hsb'.2 b hb).trans e) fC.1 fC.2.1 fC.2.2.2.1 fC.2.2.2.2.1 fC.2.2.2.2.2,q⟩
end
def kL (o:Obj) (f:Array Value->Array Value):(o.mapFields f).dict=o.dict:=by obtain⟨c,d,dt,sl⟩:=o;cases dt <;> rfl
def du (h:Heap) (a T:Addr):Prop:=∃o vs,h.get? a=some o/\o.data= .fields vs/\vs[1]?=some (.ref T)
structure jw (N:Nat) (cls:Value) (a:Addr) (H:Hp) (h:Heap):Prop where
 ge:N<=a
 nH:H a=none
 obj:∃o vs,h.get? a=some o/\(o.cls=cls/\o.dict=none)/\o.data= .fields vs/\(vs[1]?=some .none\/∃T,vs[1]?=some (.ref T))
 tb:∀T,du h a T->N<=T/\H T=none/\T≠a/\∃oT ts,h.get? T=some oT/\oT.data= .fields ts/\3 < ts.size
structure sI (fs:List Addr) (a:Addr) (h h':Heap):Prop where
 keep:∀b o,h.get? b=some o->b≠a->¬du h a b->b∉fs->h'.get? b=some o
 slot:∀b o,h.get? b=some o->b≠a->¬du h a b->∃sl,h'.get? b=some {o with slots:=sl}
 there:∀b o,h.get? b=some o->∃o',h'.get? b=some o'
 tb:∀T,du h' a T->du h a T\/h.get? T=none
def sI.trans {fs:List Addr} {a:Addr} {h h1 h2:Heap} (x:sI fs a h h1) (y:sI fs a h1 h2):sI fs a h h2 where
 keep:=λb o e n nt nf=>by
  have e1:=x.keep b o e n nt nf;exact y.keep b o e1 n (λz=>by
   rcases x.tb b z with q | q
   ·exact nt q
   ·rw[e] at q;cases q) nf
 slot:=λb o e n nt=>by
  obtain⟨sl,e1⟩:=x.slot b o e n nt;obtain⟨wj,e2⟩:=y.slot b _ e1 n (λz=>by
   rcases x.tb b z with q | q
   ·exact nt q
   ·rw[e] at q;cases q)
  exact⟨wj,e2⟩
 there:=λb o e=>by obtain⟨o1,e1⟩:=x.there b o e;exact y.there b o1 e1
 tb:=λT z=>by
  rcases y.tb T z with q | q
  ·exact x.tb T q
  ·right;cases hq:h.get? T with
   | none=>rfl
   | some o=>obtain⟨o',e'⟩:=x.there T o hq;rw[e'] at q;cases q
def sI.refl {fs:List Addr} {a:Addr} {h:Heap}:sI fs a h h:=⟨λ_ _ e _ _ _=>e,λ_ o e _ _=>⟨o.slots,e⟩,λ_ o e=>⟨o,e⟩,λ_ z=> .inl z⟩
section
variable {M:Model} {A:Around} {E:Value->Shared->Prop} {s:Shared} {N:Nat} {cls:Value} {a:Addr} {H:Hp} {base:Heap} {env gd:Env} {outer:List Env} {L:Addr}
def jt (e:Value) (h:env.frame=gd.frame):noteFrame e env=noteFrame e gd:=by unfold noteFrame PySem.frameOf;rw[h]
def oZ (vM:A.frames=some (env::outer)) (hl:s.heap.FunFrames base (env::outer)) (hf:env.frame=some L) (F:jw N cls a H s.heap) (fresh:∀b,s.heap.objs.size<=b->H b=none) {head:Value} {BJ:Bool} {Q:Unit->Shared->Prop}
  (q:∀h',sI (fu (env::outer)) a s.heap h'->jw N cls a H h'->(∃T,du h' a T)->Q () {s with heap:=h'}):
  wpAny M A (do let x<-frameOf env;let pl<-entryPlaceOf L BJ;let b<-EntryCells.newEntry head x .none (rawInt L) .none pl;setField (.ref a) 1 b) Q E s:=by
 obtain⟨oe,vs,he,qe,hd,h1⟩:=F.obj;have gY:1 < vs.size:=by rcases h1 with h1 | ⟨T,h1⟩ <;> exact(Array.getElem?_eq_some_iff.mp h1).1
 have Kh:a∉fu (env::outer):=λhm=>by obtain⟨_,o,ho,KZ⟩:=hl.mem hm;rw[he] at ho;injection ho with ho;subst ho;exact KZ vs hd
 refine PP (wpAny_frameOf_fun vM hl hf λh₁ hs₁=>?_);refine PP (wpAny_entryPlaceOf λpl gL=>?_);unfold EntryCells.newEntry newFields;refine PP (wpAny_newObj_type ?_ (gL.sizeOk5 _ _ _ _ _));have he₁:h₁.get? a=some oe:=(hs₁.2.1 a Kh).trans he;generalize hT:({cls:= .type "traceback",dict:=none,data:= .fields ([head,.ref L,.none,rawInt L,.none]++(if pl.isEmpty then List.replicate 6 Value.none else pl)).toArray}:Obj)=oT;have Lr:oT.data= .fields ([head,.ref L,.none,rawInt L,.none]++(if pl.isEmpty then List.replicate 6 Value.none else pl)).toArray:=by rw[<-hT]
 have Pd:oT.isFreed=false:=by rw[<-hT];rfl
 have he₂:=PU (h:=h₁) oT he₁;refine wpAny_setField he₂ hd gY (q _ ?_ ?_ ?_)
 all_goals
  have hz:h₁.objs.size=s.heap.objs.size:=hs₁.1;have MY:h₁.objs.size≠a:=Nat.ne_of_gt (P9 he₁);have hd₃:=Obj.data_mapFields hd (·.setIfInBounds 1 (Value.ref h₁.objs.size));have he₃:=Heap.get?_update_self (Obj.mapFields (·.setIfInBounds 1 (Value.ref h₁.objs.size))) he₂ (Obj.isFreed_of_fields hd₃);have hT₃:=(Qr (h₁.push oT) (Obj.mapFields (·.setIfInBounds 1 (Value.ref h₁.objs.size))) (Ne.symm MY)).trans (P6 h₁ Pd);have kp:∀b o,b≠a->h₁.get? b=some o->((h₁.push oT).update a (Obj.mapFields (·.setIfInBounds 1 (Value.ref h₁.objs.size)))).get? b=some o:=λb o hb e=>
   (Qr _ _ (Ne.symm hb)).trans (PU _ e)
  have MQ:∀T,du ((h₁.push oT).update a (Obj.mapFields (·.setIfInBounds 1 (Value.ref h₁.objs.size)))) a T->T=h₁.objs.size:=λT ⟨o,ws,z1,z2,z3⟩=>by rw[he₃] at z1;cases z1;rw[hd₃] at z2;cases z2;simp[gY] at z3;exact z3.symm
 ·refine⟨λb o e n nt nf=>kp b o n ((hs₁.2.1 b nf).trans e),λb o e n nt=>?_,λb o e=>?_,λT z=> .inr ?_⟩
  ·obtain⟨sl,e1⟩:=hs₁.2.2 b o e;exact⟨sl,kp b _ n e1⟩
  ·by_cases hb:b=a
   ·subst hb;exact⟨_,he₃⟩
   ·obtain⟨sl,e1⟩:=hs₁.2.2 b o e;exact⟨_,kp b _ hb e1⟩
  ·rw[MQ T z,hz];exact Heap.get?_none_of_le (P4 _)
 ·refine⟨F.ge,F.nH,⟨_,_,he₃,⟨(Obj.cls_mapFields _ _).trans qe.1,(kL _ _).trans qe.2⟩,hd₃,.inr ⟨h₁.objs.size,by simp[gY]⟩⟩,λT z=>?_⟩;have e:=MQ T z;subst e;refine⟨?_,fresh _ (by rw[hz];exact P4 _),MY,oT,_,hT₃,Lr,by simp⟩;rw[hz];exact Qa F.ge (Nat.le_of_lt (P9 he))
 ·exact⟨h₁.objs.size,_,_,he₃,hd₃,by simp[gY]⟩
def yv (vM:A.frames=some (env::outer)) (hl:s.heap.FunFrames base (env::outer)) (hf:env.frame=some L) (F:jw N cls a H s.heap) (fresh:∀b,s.heap.objs.size<=b->H b=none) {Q:Unit->Shared->Prop}
  (q:∀h',sI (fu (env::outer)) a s.heap h'->jw N cls a H h'->(∃T,du h' a T)->Q () {s with heap:=h'}):wpAny M A (noteFrame (.ref a) env) Q E s:=by
 obtain⟨oe,vs,he,qe,hd,h1⟩:=id F.obj;unfold noteFrame;simp only[hf];rcases h1 with h1 | ⟨T,h1⟩
 ·refine PP (wpAny_field he hd h1 ?_);rw[if_neg (by decide)];exact oZ vM hl hf F fresh q
 ·have rA:du s.heap a T:=⟨oe,vs,he,hd,h1⟩;obtain⟨t1,t2,t3,oT,ts,hT,xG,h3⟩:=F.tb T rA;refine PP (wpAny_field he hd h1 ?_);rw[if_pos (show (Value.ref T != Value.none)=true from by simp)];refine PP (wpAny_field hT xG (x:=ts[3]) (by simp[h3]) ?_);split
  ·have e:s={s with heap:=s.heap}:=by cases s;rfl
   rw[e];exact PV (q s.heap sI.refl F ⟨T,rA⟩)
  ·refine PP (wpAny_setField hT xG h3 ?_);have other:∀b,b≠T->(s.heap.update T (Obj.mapFields (·.setIfInBounds 3 Value.none))).get? b=s.heap.get? b:=λb hb=>Qr _ _ (Ne.symm hb)
   have G5:=Heap.get?_update_self (Obj.mapFields (·.setIfInBounds 3 Value.none)) hT (Obj.isFreed_of_fields (Obj.data_mapFields xG _));have HM:∀T',du (s.heap.update T (Obj.mapFields (·.setIfInBounds 3 Value.none))) a T'->T'=T:=λT' ⟨o,ws,z1,z2,z3⟩=>by rw[other a (Ne.symm t3),he] at z1;cases z1;rw[hd] at z2;cases z2;rw[h1] at z3;cases z3;rfl
   have F':jw N cls a H (s.heap.update T (Obj.mapFields (·.setIfInBounds 3 Value.none))):=by refine⟨F.ge,F.nH,⟨oe,vs,(other a (Ne.symm t3)).trans he,qe,hd,.inr ⟨T,h1⟩⟩,λT' z=>?_⟩;rw[HM T' z];exact⟨t1,t2,t3,_,_,G5,Obj.data_mapFields xG _,by simpa using h3⟩
   have Af:(s.heap.update T (Obj.mapFields (·.setIfInBounds 3 Value.none))).FunFrames base (env::outer):=hl.of_keeps λb o hb KZ=>⟨o,(other b λz=>by
    subst z;rw[hT] at hb;cases hb;exact KZ ts xG).trans hb,rfl⟩
   refine oZ (s:={s with heap:=s.heap.update T (Obj.mapFields (·.setIfInBounds 3 Value.none))}) vM Af hf F' (λb hb=>fresh b (by
    have:(s.heap.update T (Obj.mapFields (·.setIfInBounds 3 Value.none))).objs.size=s.heap.objs.size:=Heap.size_after_update ..;rw[this] at hb;exact hb)) λh' x f t=>q h' (sI.trans ⟨λb o e n nt nf=>(other b λz=>nt (z▸rA)).trans e,λb o e n nt=>⟨o.slots,(other b λz=>nt (z▸rA)).trans e⟩,λb o e=>?_,λT' z=> .inl (by rw[HM T' z];exact rA)⟩ x) f t
   by_cases hb:b=T
   ·subst hb;exact⟨_,G5⟩
   ·exact⟨o,(other b hb).trans e⟩
def Bh (vM:A.frames=some (gd::outer)) (hl:s.heap.FunFrames base (gd::outer)) (Oy:gd.frame=some L) (hf:env.frame=gd.frame) (F:jw N cls a H s.heap) (fresh:∀b,s.heap.objs.size<=b->H b=none) {Q:Unit->Shared->Prop}
  (q:∀h',sI (fu (gd::outer)) a s.heap h'->jw N cls a H h'->(∃T,du h' a T)->Q () {s with heap:=h'}):wpAny M A (noteFrame (.ref a) env) Q E s:=by
 rw[jt _ hf];exact yv vM hl Oy F fresh q
def jh {fs:List Addr} {fl:Option Addr} (F:jw N cls a H s.heap) (ht:∃T,du s.heap a T) {Q:Unit->Shared->Prop} (q:∀h',sI fs a s.heap h'->jw N cls a H h'->(∃T,du h' a T)->Q () {s with heap:=h'}):wpAny M A (setFlight (.ref a) fl) Q E s:=by
 obtain⟨T,rA⟩:=ht;obtain⟨t1,t2,t3,oT,ts,hT,xG,h3⟩:=F.tb T rA;obtain⟨oe,vs,he,hd,h1⟩:=id rA;obtain⟨Po,v7,ID,qe,qT,_⟩:=id F.obj;rw[he] at ID;cases ID;unfold setFlight;refine PP (wpAny_field he hd h1 ?_);rw[if_pos (show (Value.ref T != Value.none)=true from by simp)];refine wpAny_setField hT xG h3 ?_;generalize hx:(fl.elim Value.none λf=>rawInt f)=x;have other:∀b,b≠T->(s.heap.update T (Obj.mapFields (·.setIfInBounds 3 x))).get? b=s.heap.get? b:=λb hb=>Qr _ _ (Ne.symm hb)
 have G5:=Heap.get?_update_self (Obj.mapFields (·.setIfInBounds 3 x)) hT (Obj.isFreed_of_fields (Obj.data_mapFields xG _));have HM:∀T',du (s.heap.update T (Obj.mapFields (·.setIfInBounds 3 x))) a T'->T'=T:=λT' ⟨o,ws,z1,z2,z3⟩=>by rw[other a (Ne.symm t3),he] at z1;cases z1;rw[hd] at z2;cases z2;rw[h1] at z3;cases z3;rfl
 refine q _ ⟨λb o e n nt nf=>(other b λz=>nt (z▸rA)).trans e,λb o e n nt=>⟨o.slots,(other b λz=>nt (z▸rA)).trans e⟩,λb o e=>?_,λT' z=> .inl (by rw[HM T' z];exact rA)⟩ ⟨F.ge,F.nH,⟨oe,vs,(other a (Ne.symm t3)).trans he,qe,hd,.inr ⟨T,h1⟩⟩,λT' z=>?_⟩ ⟨T,oe,vs,(other a (Ne.symm t3)).trans he,hd,h1⟩
 ·by_cases hb:b=T
  ·subst hb;exact⟨_,G5⟩
  ·exact⟨o,(other b hb).trans e⟩
 ·rw[HM T' z];exact⟨t1,t2,t3,_,_,G5,Obj.data_mapFields xG _,by simpa using h3⟩
def Ad {fs:List Addr} {Lo:String} {α:Type} (F:jw N cls a H s.heap) (ht:∃T,du s.heap a T) {Q:α->Shared->Prop} (q:∀h',sI fs a s.heap h'->jw N cls a H h'->(∃T,du h' a T)->E (.ref a) {s with heap:=h'}):wpAny M A (passOn Lo (.ref a) env:Sem α) Q E s:=by obtain⟨T,rA⟩:=id ht;obtain⟨oe,vs,he,hd,h1⟩:=rA;unfold PySem.passOn;refine PP (wpAny_field he hd h1 ?_);rw[if_neg (show¬((Value.ref T==Value.none)=true) from by simp)];exact PP (jh F ht λh' x f t=>wpAny_throw (q h' x f t))
def Bg {fs:List Addr} (F:jw N cls a H s.heap) (ht:∃T,du s.heap a T) (q:∀h',sI fs a s.heap h'->jw N cls a H h'->(∃T,du h' a T)->E (.ref a) {s with heap:=h'}):cameBackBy M A env E (.ref a) s:=by obtain⟨T,rA⟩:=id ht;obtain⟨oe,vs,he,hd,h1⟩:=rA;unfold cameBackBy;refine PP (wpAny_field he hd h1 ?_);rw[if_neg (show¬((Value.ref T==Value.none)=true) from by simp)];exact jh F ht λh' x f t=>q h' x f t
end
section
variable {X:Cx} {σ:St} {H:Hp} {s:Shared} {cls:Value} {a:Addr}
def Inv.Jt {h':Heap} (Mu:X.pn=[]) (I:Inv X [] σ H s) (F:jw X.s₀.heap.objs.size cls a H s.heap) (x:sI (fu X.stack) a s.heap h'):Inv X [] σ H {s with heap:=h'}:=by
 obtain⟨oa,va,ha,MX,NO,Pv⟩:=F.obj;have J8:∀b,du s.heap a b->X.s₀.heap.objs.size<=b/\H b=none/\b≠a/\∃oT ts,s.heap.get? b=some oT/\oT.data= .fields ts/\3 < ts.size:=F.tb;have Ni:∀b o,s.heap.get? b=some o->(∀vs,o.data≠ .fields vs)->b≠a/\¬du s.heap a b:=λb o e nf=>by
  refine⟨λz=>?_,λz=>?_⟩
  ·subst z;rw[ha] at e;cases e;exact nf va NO
  ·obtain⟨_,_,_,oT,ts,hT,xG,_⟩:=J8 b z;rw[hT] at e;cases e;exact nf ts xG
 have old:∀b o,X.s₀.heap.get? b=some o->b≠a/\¬du s.heap a b:=λb o e=>by
  refine⟨λz=>?_,λz=>?_⟩
  ·subst z;exact absurd (Qk (P9 e) F.ge) (Nat.lt_irrefl _)
  ·exact absurd (Qk (P9 e) (J8 b z).1) (Nat.lt_irrefl _)
 have II:∀b o,X.s₀.heap.get? b=some o->b≠X.env.locals:=λb o e=>Qu (Qk (P9 e) I.ok.above)
 have Fy:∀b o,X.s₀.heap.get? b=some o->b∈fu X.stack->b∈X.fs:=λb o e z=>by
  rcases Qb.mp (I.kW b z) with q | q
  ·exact absurd q (II b o e)
  ·exact q
 have Fe:∀c u,H c=some u->∀v,s.heap.get? c=some v->h'.get? c=some v:=λc u hc v e=>by
  refine x.keep c v e (λz=>by subst z;rw[F.nH] at hc;cases hc) (λz=>by rw[(J8 c z).2.1] at hc;cases hc) λz=>?_
  rw[I.oq c z] at hc;cases hc
 have cellK:∀y c,X.env.cells.lookup y=some c->∀v,s.heap.IsCell c v->h'.IsCell c v:=λy c e v ⟨o,ho,hd⟩=>by
  obtain⟨n1,n2⟩:=Ni c o ho λvs q=>by rw[hd] at q;cases q
  obtain⟨sl,q⟩:=x.slot c o ho n1 n2;exact⟨_,q,hd⟩
 refine⟨I.ok,I.os,I.bare,⟨λb o e n hb hx=>?_,λb o e n hb hx=>?_,I.base.free,λb o e hx=>?_,I.base.tups,I.base.frzs,I.base.tbls⟩,?_,λy c e=>?_,I.free,I.dO,λp hp=>?_,?_,I.len⟩
 ·exact x.keep b o (I.base.keep b o e n hb hx) (old b o e).1 (old b o e).2 λz=>hb (Fy b o e z)
 ·obtain⟨sl,e1⟩:=I.base.slot b o e n hb hx;obtain⟨F9,e2⟩:=x.slot b _ e1 (old b o e).1 (old b o e).2;exact⟨F9,e2⟩
 ·obtain⟨o',e1⟩:=I.base.there b o e hx;exact x.there b o' e1
 ·obtain⟨m,⟨o,es,ep,ho,hd,r⟩,hl⟩:=I.loc;obtain⟨n1,n2⟩:=Ni _ o ho λvs q=>by rw[hd] at q;cases q
  obtain⟨sl,q⟩:=x.slot _ o ho n1 n2;refine⟨m,⟨_,es,ep,q,hd,r⟩,λi y v e1 e2 e3=>?_⟩;obtain⟨u,rr,l⟩:=hl i y v e1 e2 e3;refine⟨u,rr,?_⟩;rcases l with l | ⟨k,c,e,z⟩
  ·exact .inl l
  ·exact .inr ⟨k,c,e,cellK y c e _ z⟩
 ·obtain⟨v,z⟩:=I.cell y c e;exact⟨v,cellK y c e v z⟩
 ·rw[Mu] at hp;cases hp
 ·intro b u e;refine(I.hok b u e).iV (λc v hc q=>?_) (λ_ q=>q) λ_ _ q=>q
  rcases hc with rfl | hc
  ·exact Fe c u e v q
  ·exact Fe c _ hc v q
end
def km (X:Cx) (E:XK) (e:Value) (s':Shared):Prop:=∃σ H' a cls,e= .ref a/\Inv X [] σ H' s'/\jw X.s₀.heap.objs.size cls a H' s'.heap/\E cls none H'
def oJ (P:Program) (w:World):lE:=λouter H s E e s'=>∃H' a cls,e= .ref a/\s'.os=s.os/\AllBare s'.gens/\Un (fu outer) [] H H' s.heap s'.heap/\eX P w H' s'.heap/\jw s.heap.objs.size cls a H' s'.heap/\E cls none H'
structure fL (X:Cx):Prop where
 pn:X.pn=[]
 st:∃gd oj L,X.stack=gd::oj/\gd.frame=some L/\X.env.frame=gd.frame
section
variable {X:Cx} {E:XK}
def zm {CX:lE} {P:Program} {w:World} {K:PySem.W.Frag} {mg:Str->Option Value} {base:Heap} {N:List Str} {qual:Str} {scope:Scope} {f:Addr} {cd:Value} {A:Around} {outer:List Env} {s:Shared} {H:Hp}:fL (kK CX P w K mg base N qual scope f cd A outer s H E):=
 ⟨rfl,_,_,_,rfl,rfl,rfl⟩
def nL {scope:Scope} {N':List Str} {C:Addr} {s:Shared} {H:Hp} {fp:List Addr} {xe:Value->Shared->Prop} (st:fL X):fL (fq X scope N' C s H fp xe):=by obtain⟨hp,gd,oj,L,h1,h2,h3⟩:=st;exact⟨rfl,gd,oj,L,h1,h2,h3⟩
def jw.down {N N':Nat} {cls:Value} {a:Addr} {H:Hp} {h:Heap} (F:jw N cls a H h) (hn:N'<=N):jw N' cls a H h:=⟨Qa hn F.ge,F.nH,F.obj,λT z=>⟨Qa hn (F.tb T z).1,(F.tb T z).2⟩⟩
def yc {pins:List (Addr×Obj)} {σ:St} {H:Hp} {s s':Shared} {e:Value} (I:Inv X pins σ H s) (Mu:X.pn=[]) (c:oJ X.prog X.w X.stack H s E e s'):km X E e s':=by
 obtain⟨H',a,cls,e1,h1,h2,h3,h4,h5,h6⟩:=c;have I1:Inv X pins σ H' s':=I.xc (ch:=[]) h1 h3 h4 h2 λb z=>by cases z
 refine⟨σ,H',a,cls,e1,I1.jR (λp hp=>by cases hp),h5.down I.sz,h6⟩
def mM (st:fL X) {e:Value} {s:Shared} (h:km X E e s) {Q:Unit->Shared->Prop} {E2:Value->Shared->Prop} (q:∀σ H' a cls s',e= .ref a->Inv X [] σ H' s'->jw X.s₀.heap.objs.size cls a H' s'.heap->(∃T,du s'.heap a T)->E cls none H'->Q () s'):wpAny (model X.prog X.w) X.A (noteFrame e X.env) Q E2 s:=by
 obtain⟨σ,H',a,cls,rfl,I,F,hE⟩:=h;obtain⟨hp,gd,oj,L,h1,h2,h3⟩:=st;have vM:=I.ok.frames;have hl:=I.stack;rw[h1] at vM hl;refine Bh vM hl h2 h3 F (λb hb=>I.hok.fresh hb) λh' x f t=>?_
 rw[<-h1] at x;exact q σ H' a cls _ rfl (I.Jt hp F x) f t hE
def qz (st:fL X) {e:Value} {s:Shared} (h:km X E e s) {R:Value->Shared->Prop} (q:∀σ H' a cls s',e= .ref a->Inv X [] σ H' s'->jw X.s₀.heap.objs.size cls a H' s'.heap->(∃T,du s'.heap a T)->E cls none H'->R e s'):notedBy (model X.prog X.w) X.A X.env R e s:=
 mM st h q
def uJ (st:fL X) (hx:∀e s',km X E e s'->X.xe e s') (AV:∀e s',X.xe e s'->km X E e s'):PassesOwn (model X.prog X.w) X.A X.env X.xe:=λe s' h=>by
 refine qz st (AV e s' h) λσ H' a cls s1 e1 I1 F1 t1 hE=>?_
 subst e1;exact Bg (fs:=fu X.stack) F1 t1 λh' x f t=>hx _ _ ⟨σ,H',a,cls,rfl,I1.Jt st.pn F1 x,f,hE⟩
end
def Dq {P:Program} {w:World} {K:PySem.W.Frag} {mg:Str->Option Value} {base:Heap} {N:List Str} {qual:Str} {scope:Scope} {f:Addr} {cd:Value} {A:Around} {outer:List Env} {s:Shared} {H:Hp} {E:XK} {e:Value} {s':Shared}
  (h:km (kK (oJ P w) P w K mg base N qual scope f cd A outer s H E) E e s'):(kK (oJ P w) P w K mg base N qual scope f cd A outer s H E).xe e s':=by
 have st:=zm (CX:=oJ P w) (P:=P) (w:=w) (K:=K) (mg:=mg) (base:=base) (N:=N) (qual:=qual) (scope:=scope) (f:=f) (cd:=cd) (A:=A) (outer:=outer) (s:=s) (H:=H) (E:=E);show wpAny (model P w) (A.deeper (envOfC qual scope s.heap.objs.size f cd)) (leaving (envOfC qual scope s.heap.objs.size f cd) e) (λ_ s''=>oJ P w outer H s E e s'') (λe' s''=>oJ P w outer H s E e' s'') s';unfold leaving;refine PP (mM st h λσ H' a cls s1 e1 I1 F1 t1 hE=>?_);subst e1;refine jh (fs:=fu (kK (oJ P w) P w K mg base N qual scope f cd A outer s H E).stack) F1 t1 λh' x f' t=>?_
 have I2:=I1.Jt st.pn F1 x;exact⟨H',a,cls,rfl,I2.os,I2.bare,I2.base,I2.hok,f',hE⟩
section
variable {X:Cx} {E:XK} {scope:Scope} {N':List Str}
def Cx.Ok.xe {xe:Value->Shared->Prop} (k:X.Ok):Cx.Ok {X with xe:=xe}:=by grind [Cx.Ok]
def Inv.xe {xe:Value->Shared->Prop} {pins:List (Addr×Obj)} {σ:St} {H:Hp} {s:Shared} (I:Inv X pins σ H s):Inv {X with xe:=xe} pins σ H s:=⟨I.ok.xe,I.os,I.bare,I.base,I.loc,I.cell,I.free,I.dO,I.pin,I.hok,I.len⟩
def sH (X:Cx) (scope:Scope) (N':List Str) (E:XK) (C:Addr) (s:Shared) (H:Hp) (fp:List Addr):Value->Shared->Prop:=km (fq X scope N' C s H fp λ_ _=>False) E
def yy {C:Addr} {s:Shared} {H:Hp} {fp:List Addr} {e:Value} {s':Shared} {xe:Value->Shared->Prop} (h:km (fq X scope N' C s H fp xe) E e s'):sH X scope N' E C s H fp e s':=by obtain⟨σ,H',a,cls,e1,I,F,hE⟩:=h;exact⟨σ,H',a,cls,e1,I.xe,F,hE⟩
def xo {C:Addr} {s:Shared} {H:Hp} {fp:List Addr} {e:Value} {s':Shared} {xe:Value->Shared->Prop} (h:sH X scope N' E C s H fp e s'):km (fq X scope N' C s H fp xe) E e s':=by obtain⟨σ,H',a,cls,e1,I,F,hE⟩:=h;exact⟨σ,H',a,cls,e1,I.xe,F,hE⟩
def uf {C:Addr} {s:Shared} {H:Hp} {fp:List Addr} (st:fL X):PassesOwn (model X.prog X.w) X.A (fq X scope N' C s H fp (sH X scope N' E C s H fp)).env (sH X scope N' E C s H fp):=
 uJ (X:=fq X scope N' C s H fp (sH X scope N' E C s H fp)) (E:=E) (nL st) (λe s' h=>yy h) (λe s' h=>xo h)
def jw.at {h0:Nat} {cls:Value} {a:Addr} {H:Hp} {h h':Heap} (F:jw h0 cls a H h) (k:∀b o vs,h.get? b=some o->o.data= .fields vs->h'.get? b=some o):jw h0 cls a H h':=by obtain⟨o,vs,h1,h2,h3,h4⟩:=F.obj;have e1:=k a o vs h1 h3;refine⟨F.ge,F.nH,⟨o,vs,e1,h2,h3,h4⟩,λT z=>?_⟩;obtain⟨o',ws,z1,z2,z3⟩:=z;rw[e1] at z1;cases z1;obtain⟨t1,t2,t3,oT,ts,t4,t5,t6⟩:=F.tb T ⟨o,ws,h1,z2,z3⟩;exact⟨t1,t2,t3,oT,ts,k T oT ts t4 t5,t5,t6⟩
def jS (st:fL X) (Ny:∀e s',km X E e s'->X.xe e s'):zW X scope N' (sH X scope N' E):=by
 refine⟨λpins σ C s s1 H H1 fp x s' I1 f1 hC hs hH BP hxb=>?_⟩;refine qz (X:=fq X scope N' C s H fp (sH X scope N' E C s H fp)) (nL st) (xo hxb) λσ' H' a cls s5 e1 I5 F5 t5 hE=>?_
 subst e1;obtain⟨m5,Kz,_⟩:=I5.loc;have xB:s5.heap.Ns C m5:=Kz;refine⟨m5,xB,λh' qW vD vi=>?_⟩;have un:Un (fu X.stack) fp H1 H' s1.heap s5.heap:=by
  have u1:Un (fu X.stack) fp H1 H s1.heap s.heap:=by rw[hH,hs];exact Un.laid (λb u e=>PU _ e) (P4 _) I1.fresh
  exact u1.trans I5.base
 have hI:Inv X pins σ H' s5:=I1.xc (ch:=fp) (I5.os.trans (by show s.os=s1.os;rw[hs])) un I5.hok I5.bare λb hb=>⟨(f1 b hb).2.2.2.1,(f1 b hb).2.1,(f1 b hb).2.2.2.2.1,(f1 b hb).2.2.2.2.2⟩
 have fC:gh X pins H' C:=I1.qh (Nat.le_of_lt hC) I5.free;have M0:Inv X pins σ H' {s5 with heap:=h',toks:=s5.toks}:=hI.turned (t':=s5.toks) (λb o hb e=>(qW.2 b hb).trans e) fC.1 fC.2.1 fC.2.2.2.1 fC.2.2.2.2.1 fC.2.2.2.2.2;have Ou:Inv X [] σ H' {s5 with heap:=h'}:=M0.jR λp hp=>by cases hp
 have gY:s1.heap.objs.size<=s.heap.objs.size:=by rw[hs];show _<=(s1.heap.push _).objs.size;rw[Qt];exact Nat.le_succ _
 have F6:jw X.s₀.heap.objs.size cls a H' h':=by
  have hd:∀b o vs,s5.heap.get? b=some o->o.data= .fields vs->h'.get? b=some o:=λb o vs e hd=>by refine(qW.2 b λz=>?_).trans e;subst z;obtain⟨o',es,ep,oO,qT,_⟩:=xB;rw[e] at oO;cases oO;rw[hd] at qT;cases qT
  exact(F5.at hd).down (Qa I1.sz gY)
 have t6:∃T,du h' a T:=by obtain⟨T,o,vs,z1,z2,z3⟩:=t5;refine⟨T,o,vs,(qW.2 a λz=>?_).trans z1,z2,z3⟩;subst z;obtain⟨o',es,ep,oO,qT,_⟩:=xB;rw[z1] at oO;cases oO;rw[z2] at qT;cases qT
 exact Ad (s:={s5 with heap:=h'}) (fs:=fu X.stack) F6 t6 λh'' x f t=>Ny _ _ ⟨σ,H',a,cls,rfl,Ou.Jt st.pn F6 x,f,hE⟩
end
end L2
end
section
namespace Rx
open PySem PySem.W PySem.Spec PyProof.Rows L2 PySem.SeqAt
inductive Dt where
 | bo | bl (b:Bool) | int (i:Int) | str (x:Str) | tup (ds:List Dt) | lst (ds:List Dt) | br (ns:List Int)
 | wx (ks vs:List Dt) | obj (c:Nat) (fs:List Dt) | exc (c:Nat)
abbrev Frag:=PySem.W.Frag
def KL (K:Frag) (a:Addr) (xs:List V):Prop:=∃(o:Obj) (its:Array Value) (n:Nat),K.lookup a=some o/\o.cls= .type "list"/\o.dict=none/\o.data= .seq its n/\its.size<=sizeLine/\aw xs its.toList
mutual
def RV (K:Frag) (A:Addr->Prop) (H:Hp):V->Dt->Prop
 | x,.bo=>x= .bo
 | x,.bl b=>x= .bl b
 | x,.int i=>x= .int i
 | x,.str z=>x= .str z
 | x,.tup ds=>∃a xs,x= .ref a/\H a=some (.tup xs)/\aj K A H xs ds
 | x,.lst ds=>∃a xs,x= .ref a/\H a=some (.lst xs)/\¬A a/\aj K A H xs ds
 | x,.br ns=>∃a,x= .ref a/\((Rd H a (.lst (ns.map V.int))/\¬A a)\/KL K a (ns.map V.int))
 | _,.wx _ _=>False
 | _,.obj _ _=>False
 | _,.exc _=>False
def aj (K:Frag) (A:Addr->Prop) (H:Hp):List V->List Dt->Prop
 | [],[]=>True
 | x::xs,d::ds=>RV K A H x d/\aj K A H xs ds
 | [],_::_=>False
 | _::_,[]=>False
end
section
variable {K:Frag} {A B:Addr->Prop} {H H':Hp}
def RV.aA {x:V} (h:RV K A H x .bo):x= .bo:=by unfold RV at h;exact h
def RV.aE {x:V} {b} (h:RV K A H x (.bl b)):x= .bl b:=by unfold RV at h;exact h
def RV.int_inv {x:V} {b} (h:RV K A H x (.int b)):x= .int b:=by unfold RV at h;exact h
def RV.str_inv {x:V} {b} (h:RV K A H x (.str b)):x= .str b:=by unfold RV at h;exact h
theorem RV.af {x:V} {ds} (h:RV K A H x (.tup ds)):∃a xs,x= .ref a/\H a=some (.tup xs)/\aj K A H xs ds:=by unfold RV at h;exact h
def RV.lst_inv {x:V} {ds} (h:RV K A H x (.lst ds)):∃a xs,x= .ref a/\H a=some (.lst xs)/\¬A a/\aj K A H xs ds:=by unfold RV at h;exact h
def RV.dY {x:V} {ns} (h:RV K A H x (.br ns)):∃a,x= .ref a/\((Rd H a (.lst (ns.map V.int))/\¬A a)\/KL K a (ns.map V.int)):=by unfold RV at h;exact h
def RV.jc {x:V} {ns} (h:RV K A H x (.br ns)):∃a,x= .ref a/\d9 K H a (ns.map V.int):=by
 obtain⟨a,e,h | h⟩:=h.dY
 ·exact⟨a,e,.inl h.1⟩
 ·exact⟨a,e,.inr h⟩
def RV.fY {x:V} {ks vs} (h:RV K A H x (.wx ks vs)):False:=by unfold RV at h;exact h
def RV.f7 {x:V} {ks vs} (h:RV K A H x (.obj ks vs)):False:=by unfold RV at h;exact h
def RV.fQ {x:V} {ks} (h:RV K A H x (.exc ks)):False:=by unfold RV at h;exact h
def RV.gR:RV K A H .bo .bo:=by unfold RV;rfl
def RV.qa {b}:RV K A H (.bl b) (.bl b):=by unfold RV;rfl
def RV.dG {b}:RV K A H (.int b) (.int b):=by unfold RV;rfl
def RV.i8 {b}:RV K A H (.str b) (.str b):=by unfold RV;rfl
def RV.dg {a xs ds} (h:H a=some (.tup xs)) (t:aj K A H xs ds):RV K A H (.ref a) (.tup ds):=by unfold RV;exact⟨a,xs,rfl,h,t⟩
def RV.eY {a xs ds} (h:H a=some (.lst xs)) (n:¬A a) (t:aj K A H xs ds):RV K A H (.ref a) (.lst ds):=by unfold RV;exact⟨a,xs,rfl,h,n,t⟩
def aj.nil:aj K A H [] []:=by unfold aj;trivial
def aj.cons {x d xs ds} (h:RV K A H x d) (t:aj K A H xs ds):aj K A H (x::xs) (d::ds):=by unfold aj;exact⟨h,t⟩
def aj.nil_inv {xs} (h:aj K A H xs []):xs=[]:=by
 cases xs with
 | nil=>rfl
 | cons=>unfold aj at h;exact h.elim
def aj.dJ {ds} (h:aj K A H [] ds):ds=[]:=by
 cases ds with
 | nil=>rfl
 | cons=>unfold aj at h;exact h.elim
def aj.cons_inv {xs d ds} (h:aj K A H xs (d::ds)):∃x r,xs=x::r/\RV K A H x d/\aj K A H r ds:=by
 cases xs with
 | nil=>unfold aj at h;exact h.elim
 | cons x r=>unfold aj at h;exact⟨x,r,rfl,h⟩
def aj.mB {x xs ds} (h:aj K A H (x::xs) ds):∃d r,ds=d::r/\RV K A H x d/\aj K A H xs r:=by
 cases ds with
 | nil=>unfold aj at h;exact h.elim
 | cons d r=>unfold aj at h;exact⟨d,r,rfl,h⟩
def aj.length:∀{xs ds},aj K A H xs ds->xs.length=ds.length
 | [],[],_=>rfl
 | [],_::_,h=>by unfold aj at h;exact h.elim
 | _::_,[],h=>by unfold aj at h;exact h.elim
 | _::xs,_::ds,h=>by unfold aj at h;simp[aj.length h.2]
def aj.get:∀{xs ds} {i:Nat} {x},aj K A H xs ds->xs[i]?=some x->∃d,ds[i]?=some d/\RV K A H x d
 | [],_,_,_,_,e=>by simp at e
 | _::_,[],_,_,h,_=>by unfold aj at h;exact h.elim
 | _::_,_::_,0,_,h,e=>by unfold aj at h;simp at e;subst e;exact⟨_,rfl,h.1⟩
 | _::xs,_::ds,i + 1,x,h,e=>by unfold aj at h;obtain⟨d,e1,e2⟩:=aj.get (i:=i) h.2 (by simpa using e);exact⟨d,by simpa using e1,e2⟩
def aj.getD:∀{xs ds} {i:Nat} {d},aj K A H xs ds->ds[i]?=some d->∃x,xs[i]?=some x/\RV K A H x d
 | _,[],_,_,_,e=>by simp at e
 | [],_::_,_,_,h,_=>by unfold aj at h;exact h.elim
 | _::_,_::_,0,_,h,e=>by unfold aj at h;simp at e;subst e;exact⟨_,rfl,h.1⟩
 | _::xs,_::ds,i + 1,x,h,e=>by unfold aj at h;obtain⟨d,e1,e2⟩:=aj.getD (i:=i) h.2 (by simpa using e);exact⟨d,by simpa using e1,e2⟩
def aj.append:∀{xs ys ds es},aj K A H xs ds->aj K A H ys es->aj K A H (xs++ys) (ds++es)
 | [],_,[],_,_,h=>h
 | [],_,_::_,_,h,_=>by unfold aj at h;exact h.elim
 | _::_,_,[],_,h,_=>by unfold aj at h;exact h.elim
 | _::xs,ys,_::ds,es,h,h'=>by unfold aj at h;exact aj.cons h.1 (aj.append h.2 h')
def aj.take:∀{xs ds} (n:Nat),aj K A H xs ds->aj K A H (xs.take n) (ds.take n)
 | [],ds,n,h=>by rw[h.dJ];simp;exact aj.nil
 | x::xs,[],n,h=>by unfold aj at h;exact h.elim
 | x::xs,d::ds,0,h=>by simp;exact aj.nil
 | x::xs,d::ds,n + 1,h=>by unfold aj at h;simp only[List.take_succ_cons];exact aj.cons h.1 (aj.take n h.2)
def aj.drop:∀{xs ds} (n:Nat),aj K A H xs ds->aj K A H (xs.drop n) (ds.drop n)
 | [],ds,n,h=>by rw[h.dJ];simp;exact aj.nil
 | x::xs,[],n,h=>by unfold aj at h;exact h.elim
 | x::xs,d::ds,0,h=>h
 | x::xs,d::ds,n + 1,h=>by unfold aj at h;simp only[List.drop_succ_cons];exact aj.drop n h.2
def aj.set:∀{xs ds} (n:Nat) {x d},aj K A H xs ds->RV K A H x d->aj K A H (xs.set n x) (ds.set n d)
 | [],ds,n,_,_,h,_=>by rw[h.dJ];simp;exact aj.nil
 | x::xs,[],n,_,_,h,_=>by unfold aj at h;exact h.elim
 | x::xs,d::ds,0,_,_,h,h'=>by unfold aj at h;simp only[List.set_cons_zero];exact aj.cons h' h.2
 | x::xs,d::ds,n + 1,_,_,h,h'=>by unfold aj at h;simp only[List.set_cons_succ];exact aj.cons h.1 (aj.set n h.2 h')
def aj.rep {xs ds} (h:aj K A H xs ds):∀k:Nat,aj K A H (List.replicate k xs).flatten (List.replicate k ds).flatten
 | 0=>by simp;exact aj.nil
 | k + 1=>by rw[List.replicate_succ,List.replicate_succ,List.flatten_cons,List.flatten_cons];exact h.append (aj.rep h k)
structure aX (X:Addr->Prop) (H H':Hp):Prop where
 kp:∀b o,H b=some o->¬X b->H' b=some o
 tp:∀b xs,H b=some (.tup xs)->H' b=some (.tup xs)
def aX.of_same {X:Addr->Prop} (s:bD H H'):aX X H H':=⟨λb o e _=>s b o e,λb xs e=>s b _ e⟩
def aX.refl {X:Addr->Prop}:aX X H H:=⟨λ_ _ e _=>e,λ_ _ e=>e⟩
def aX.trans {X:Addr->Prop} {H1:Hp} (a:aX X H H1) (b:aX X H1 H'):aX X H H':=⟨λc o e n=>b.kp c o (a.kp c o e n) n,λc xs e=>b.tp c xs (a.tp c xs e)⟩
def aX.mono {X Y:Addr->Prop} (a:aX X H H') (h:∀b,X b->Y b):aX Y H H':=⟨λb o e n=>a.kp b o e λz=>n (h b z),a.tp⟩
def xA {X:Addr->Prop} {a:Addr} {u:HO} (e:aX X H H') (n:¬X a) (h:Rd H a u):Rd H' a u:=by grind [HO,aX,Rd]
mutual
def RV.mono {X:Addr->Prop} (e:aX X H H') (hX:∀b,X b->A b) (hB:∀b,B b->A b):∀{x d},RV K A H x d->RV K B H' x d
 | x,.bo,h=>by rw[h.aA];exact RV.gR
 | x,.bl b,h=>by rw[h.aE];exact RV.qa
 | x,.int b,h=>by rw[h.int_inv];exact RV.dG
 | x,.str b,h=>by rw[h.str_inv];exact RV.i8
 | x,.tup ds,h=>by obtain⟨a,xs,rfl,h1,h2⟩:=h.af;exact RV.dg (e.tp _ _ h1) (aj.mono e hX hB h2)
 | x,.lst ds,h=>by obtain⟨a,xs,rfl,h1,h3,h2⟩:=h.lst_inv;exact RV.eY (e.kp _ _ h1 λz=>h3 (hX _ z)) (λz=>h3 (hB _ z)) (aj.mono e hX hB h2)
 | x,.br ns,h=>by
  obtain⟨a,rfl,⟨h1,h3⟩ | h1⟩:=h.dY
  ·unfold RV;exact⟨a,rfl,.inl ⟨xA e (λz=>h3 (hX _ z)) h1,λz=>h3 (hB _ z)⟩⟩
  ·unfold RV;exact⟨a,rfl,.inr h1⟩
 | x,.wx ..,h=>h.fY.elim
 | x,.obj ..,h=>h.f7.elim
 | x,.exc ..,h=>h.fQ.elim
def aj.mono {X:Addr->Prop} (e:aX X H H') (hX:∀b,X b->A b) (hB:∀b,B b->A b):∀{xs ds},aj K A H xs ds->aj K B H' xs ds
 | [],[],_=>aj.nil
 | [],_::_,h=>by unfold aj at h;exact h.elim
 | _::_,[],h=>by unfold aj at h;exact h.elim
 | _::xs,_::ds,h=>by unfold aj at h;exact aj.cons (RV.mono e hX hB h.1) (aj.mono e hX hB h.2)
end
def RV.same {x d} (h:RV K A H x d) (s:bD H H'):RV K A H' x d:=h.mono (X:=λ_=>False) (aX.of_same s) (λ_ z=>z.elim) λ_ z=>z
def aj.same {x d} (h:aj K A H x d) (s:bD H H'):aj K A H' x d:=h.mono (X:=λ_=>False) (aX.of_same s) (λ_ z=>z.elim) λ_ z=>z
def RV.weak {x d} (h:RV K A H x d) (hB:∀b,B b->A b):RV K B H x d:=h.mono (X:=λ_=>False) aX.refl (λ_ z=>z.elim) hB
def aj.weak {x d} (h:aj K A H x d) (hB:∀b,B b->A b):aj K B H x d:=h.mono (X:=λ_=>False) aX.refl (λ_ z=>z.elim) hB
mutual
def RV.avoid {p:Addr} (hp:H p=none):∀{x d},RV K A H x d->RV K (λb=>A b\/b=p) H x d
 | x,.bo,h=>by rw[h.aA];exact RV.gR
 | x,.bl b,h=>by rw[h.aE];exact RV.qa
 | x,.int b,h=>by rw[h.int_inv];exact RV.dG
 | x,.str b,h=>by rw[h.str_inv];exact RV.i8
 | x,.tup ds,h=>by obtain⟨a,xs,rfl,h1,h2⟩:=h.af;exact RV.dg h1 (aj.avoid hp h2)
 | x,.lst ds,h=>by obtain⟨a,xs,rfl,h1,h3,h2⟩:=h.lst_inv;exact RV.eY h1 (λz=>z.elim h3 λe=>by rw[e,hp] at h1;cases h1) (aj.avoid hp h2)
 | x,.br ns,h=>by
  obtain⟨a,rfl,⟨h1,h3⟩ | h1⟩:=h.dY
  ·unfold RV;refine⟨a,rfl,.inl ⟨h1,λz=>z.elim h3 λe=>?_⟩⟩;subst e;rcases h1 with h1 | ⟨o,h1⟩ <;> (rw[hp] at h1;cases h1)
  ·unfold RV;exact⟨a,rfl,.inr h1⟩
 | x,.wx ..,h=>h.fY.elim
 | x,.obj ..,h=>h.f7.elim
 | x,.exc ..,h=>h.fQ.elim
def aj.avoid {p:Addr} (hp:H p=none):∀{xs ds},aj K A H xs ds->aj K (λb=>A b\/b=p) H xs ds
 | [],[],_=>aj.nil
 | [],_::_,h=>by unfold aj at h;exact h.elim
 | _::_,[],h=>by unfold aj at h;exact h.elim
 | _::xs,_::ds,h=>by unfold aj at h;exact aj.cons (RV.avoid hp h.1) (aj.avoid hp h.2)
end
end
section
variable {K:Frag} {A B:Addr->Prop} {H:Hp}
mutual
def RV.bH (hp:∀b,B b->A b\/H b=none):∀{x d},RV K A H x d->RV K B H x d
 | x,.bo,h=>by rw[h.aA];exact RV.gR
 | x,.bl b,h=>by rw[h.aE];exact RV.qa
 | x,.int b,h=>by rw[h.int_inv];exact RV.dG
 | x,.str b,h=>by rw[h.str_inv];exact RV.i8
 | x,.tup ds,h=>by obtain⟨a,xs,rfl,h1,h2⟩:=h.af;exact RV.dg h1 (aj.bH hp h2)
 | x,.lst ds,h=>by obtain⟨a,xs,rfl,h1,h3,h2⟩:=h.lst_inv;exact RV.eY h1 (λz=>(hp a z).elim h3 λe=>by rw[e] at h1;cases h1) (aj.bH hp h2)
 | x,.br ns,h=>by
  obtain⟨a,rfl,⟨h1,h3⟩ | h1⟩:=h.dY
  ·unfold RV;refine⟨a,rfl,.inl ⟨h1,λz=>(hp a z).elim h3 λe=>?_⟩⟩;rcases h1 with h1 | ⟨o,h1⟩ <;> (rw[e] at h1;cases h1)
  ·unfold RV;exact⟨a,rfl,.inr h1⟩
 | x,.wx ..,h=>h.fY.elim
 | x,.obj ..,h=>h.f7.elim
 | x,.exc ..,h=>h.fQ.elim
def aj.bH (hp:∀b,B b->A b\/H b=none):∀{xs ds},aj K A H xs ds->aj K B H xs ds
 | [],[],_=>aj.nil
 | [],_::_,h=>by unfold aj at h;exact h.elim
 | _::_,[],h=>by unfold aj at h;exact h.elim
 | _::xs,_::ds,h=>by unfold aj at h;exact aj.cons (RV.bH hp h.1) (aj.bH hp h.2)
end
end
mutual
def lG:Dt->Bool
 | .bo | .bl _ | .int _ | .str _=>true
 | .tup ds=>i5 ds
 | _=>false
def i5:List Dt->Bool
 | []=>true
 | d::ds=>lG d&&i5 ds
end
mutual
def RV.lG {K:Frag} {A B:Addr->Prop} {H:Hp}:∀{x d},RV K A H x d->lG d=true->RV K B H x d
 | x,.bo,h,_=>by rw[h.aA];exact RV.gR
 | x,.bl b,h,_=>by rw[h.aE];exact RV.qa
 | x,.int b,h,_=>by rw[h.int_inv];exact RV.dG
 | x,.str b,h,_=>by rw[h.str_inv];exact RV.i8
 | x,.tup ds,h,n=>by obtain⟨a,xs,rfl,h1,h2⟩:=h.af;exact RV.dg h1 (aj.i5 h2 (by simpa [Rx.lG] using n))
 | x,.lst ds,_,n=>by simp[Rx.lG] at n
 | x,.br ds,_,n=>by simp[Rx.lG] at n
 | x,.wx ..,h,_=>h.fY.elim
 | x,.obj ..,h,_=>h.f7.elim
 | x,.exc ..,h,_=>h.fQ.elim
def aj.i5 {K:Frag} {A B:Addr->Prop} {H:Hp}:∀{xs ds},aj K A H xs ds->i5 ds=true->aj K B H xs ds
 | [],[],_,_=>aj.nil
 | [],_::_,h,_=>by unfold aj at h;exact h.elim
 | _::_,[],h,_=>by unfold aj at h;exact h.elim
 | _::xs,_::ds,h,n=>by unfold aj at h;simp only[Rx.i5,PX] at n;exact aj.cons (RV.lG h.1 n.1) (aj.i5 h.2 n.2)
end
mutual
def toD:Dt->Option Mx.D
 | .int i=>some (.int i)
 | .str x=>some (.str x)
 | .tup ds=>(kH ds).map Mx.D.tup
 | _=>none
def kH:List Dt->Option (List Mx.D)
 | []=>some []
 | d::ds=>(toD d).bind λm=>(kH ds).map (m:: ·)
end
mutual
def ofD:Mx.D->Dt
 | .int i=> .int i
 | .str x=> .str x
 | .tup ds=> .tup (aa ds)
def aa:List Mx.D->List Dt
 | []=>[]
 | d::ds=>ofD d::aa ds
end
def aK:∀ds:List Mx.D,aa ds=ds.map ofD
 | []=>by simp[aa]
 | d::ds=>by simp[aa,aK ds]
mutual
def DW:∀m:Mx.D,toD (ofD m)=some m
 | .int i=>by simp[ofD,toD]
 | .str x=>by simp[ofD,toD]
 | .tup ds=>by simp[ofD,toD,fZ ds]
def fZ:∀ms:List Mx.D,kH (aa ms)=some ms
 | []=>by simp[aa,kH]
 | m::ms=>by simp[aa,kH,DW m,fZ ms]
end
mutual
def CJ:∀{d:Dt} {m:Mx.D},toD d=some m->d=ofD m
 | .int i,m,h=>by simp[toD] at h;subst h;simp[ofD]
 | .str i,m,h=>by simp[toD] at h;subst h;simp[ofD]
 | .tup ds,m,h=>by simp only[toD,Qe] at h;obtain⟨ms,h1,rfl⟩:=h;rw[nF h1];simp[ofD]
 | .bo,m,h=>by simp[toD] at h
 | .bl _,m,h=>by simp[toD] at h
 | .lst _,m,h=>by simp[toD] at h
 | .br _,m,h=>by simp[toD] at h
 | .wx _ _,m,h=>by simp[toD] at h
 | .obj _ _,m,h=>by simp[toD] at h
 | .exc _,m,h=>by simp[toD] at h
def nF:∀{ds:List Dt} {ms:List Mx.D},kH ds=some ms->ds=aa ms
 | [],ms,h=>by simp[kH] at h;subst h;simp[aa]
 | d::ds,ms,h=>by simp only[kH,PQ,Qe] at h;obtain⟨m,h1,r,h2,rfl⟩:=h;rw[CJ h1,nF h2];simp[aa]
end
mutual
def RV.dv {K:Frag} {A:Addr->Prop} {H:Hp}:∀{x} {m:Mx.D},RV K A H x (ofD m)->Mx.DV H x m
 | x,.int i,h=>by simp only[ofD] at h;rw[h.int_inv];exact Mx.DV.int
 | x,.str i,h=>by simp only[ofD] at h;rw[h.str_inv];exact Mx.DV.str
 | x,.tup ms,h=>by simp only[ofD] at h;obtain⟨a,xs,rfl,h1,h2⟩:=h.af;exact Mx.DV.tup h1 (aj.vt h2)
def aj.vt {K:Frag} {A:Addr->Prop} {H:Hp}:∀{xs} {ms:List Mx.D},aj K A H xs (aa ms)->Mx.aZ H xs ms
 | [],[],_=>Mx.aZ.nil
 | [],_::_,h=>by simp only[aa] at h;unfold aj at h;exact h.elim
 | _::_,[],h=>by simp only[aa] at h;unfold aj at h;exact h.elim
 | _::xs,_::ds,h=>by simp only[aa] at h;unfold aj at h;exact Mx.aZ.cons (RV.dv h.1) (aj.vt h.2)
end
mutual
def RV.Gd {K:Frag} {A:Addr->Prop} {H:Hp}:∀{x} {m:Mx.D},Mx.DV H x m->RV K A H x (ofD m)
 | x,.int i,h=>by simp only[ofD];rw[h.int_inv];exact RV.dG
 | x,.str i,h=>by simp only[ofD];rw[h.str_inv];exact RV.i8
 | x,.tup ms,h=>by simp only[ofD];obtain⟨a,xs,rfl,h1,h2⟩:=h.af;exact RV.dg h1 (aj.oC h2)
def aj.oC {K:Frag} {A:Addr->Prop} {H:Hp}:∀{xs} {ms:List Mx.D},Mx.aZ H xs ms->aj K A H xs (aa ms)
 | [],[],_=>by simp only[aa];exact aj.nil
 | [],_::_,h=>by unfold Mx.aZ at h;exact h.elim
 | _::_,[],h=>by unfold Mx.aZ at h;exact h.elim
 | _::xs,_::ds,h=>by simp only[aa];unfold Mx.aZ at h;exact aj.cons (RV.Gd h.1) (aj.oC h.2)
end
mutual
def bC:Dt->Dt->Bool
 | .bo,.bo=>true
 | .bl a,.bl b=>a==b
 | .int a,.int b=>a==b
 | .bl a,.int b=>(if a then(1:Int) else 0)==b
 | .int a,.bl b=>a==(if b then(1:Int) else 0)
 | .str a,.str b=>a==b
 | .tup a,.tup b=>bU a b
 | .lst a,.lst b=>bU a b
 | _,_=>false
def bU:List Dt->List Dt->Bool
 | [],[]=>true
 | x::xs,y::ys=>bC x y&&bU xs ys
 | _,_=>false
end
mutual
def pl:Dt->Bool
 | .bo | .bl _ | .int _ | .str _=>true
 | .tup ds=>jy ds
 | .lst ds=>jy ds
 | _=>false
def jy:List Dt->Bool
 | []=>true
 | d::ds=>pl d&&jy ds
end
mutual
def dp:Dt->Nat
 | .tup ds=>mH ds + 1
 | .lst ds=>mH ds + 1
 | _=>0
def mH:List Dt->Nat
 | []=>0
 | d::ds=>max (dp d) (mH ds)
end
mutual
def iX:∀d:Dt,pl d=true->bC d d=true
 | .bo,_=>by simp[bC]
 | .bl b,_=>by simp[bC]
 | .int b,_=>by simp[bC]
 | .str b,_=>by simp[bC]
 | .tup ds,h=>by simp only[bC];exact gK ds (by simpa [pl] using h)
 | .lst ds,h=>by simp only[bC];exact gK ds (by simpa [pl] using h)
 | .br _,h=>by simp[pl] at h
 | .wx _ _,h=>by simp[pl] at h
 | .obj _ _,h=>by simp[pl] at h
 | .exc _,h=>by simp[pl] at h
def gK:∀ds:List Dt,jy ds=true->bU ds ds=true
 | [],_=>by simp[bU]
 | d::ds,h=>by simp only[jy,PX] at h;simp only[bU,PX];exact⟨iX d h.1,gK ds h.2⟩
end
mutual
def RV.inj {K:Frag} {A B:Addr->Prop} {H:Hp}:∀{x d e},RV K A H x d->RV K B H x e->pl d=true->pl e=true->d=e
 | x,.bo,e,h,g,_,n=>by have:=h.aA;subst this;cases e <;> first | rfl | (exfalso;unfold RV at g;first | (simp[pl] at n;done) | (obtain⟨_,_,q,_⟩:=g;cases q;done) | (cases g;done))
 | x,.bl b,e,h,g,_,n=>by have:=h.aE;subst this;cases e <;> first | (unfold RV at g;injection g with g;rw[g]) | (exfalso;unfold RV at g;first | (simp[pl] at n;done) | (obtain⟨_,_,q,_⟩:=g;cases q;done) | (cases g;done))
 | x,.int b,e,h,g,_,n=>by have:=h.int_inv;subst this;cases e <;> first | (unfold RV at g;injection g with g;rw[g]) | (exfalso;unfold RV at g;first | (simp[pl] at n;done) | (obtain⟨_,_,q,_⟩:=g;cases q;done) | (cases g;done))
 | x,.str b,e,h,g,_,n=>by have:=h.str_inv;subst this;cases e <;> first | (unfold RV at g;injection g with g;rw[g]) | (exfalso;unfold RV at g;first | (simp[pl] at n;done) | (obtain⟨_,_,q,_⟩:=g;cases q;done) | (cases g;done))
 | x,.tup ds,e,h,g,m,n=>by
  obtain⟨a,xs,rfl,h1,h2⟩:=h.af;cases e with
  | tup es=>obtain⟨b,ys,q,g1,g2⟩:=g.af;cases q;rw[h1] at g1;cases g1;rw[aj.inj h2 g2 (by simpa [pl] using m) (by simpa [pl] using n)]
  | lst es=>obtain⟨b,ys,q,g1,_⟩:=g.lst_inv;cases q;rw[h1] at g1;cases g1
  | _=>exfalso;unfold RV at g;first | (simp[pl] at n;done) | (cases g;done)
 | x,.lst ds,e,h,g,m,n=>by
  obtain⟨a,xs,rfl,h1,_,h2⟩:=h.lst_inv;cases e with
  | lst es=>obtain⟨b,ys,q,g1,_,g2⟩:=g.lst_inv;cases q;rw[h1] at g1;cases g1;rw[aj.inj h2 g2 (by simpa [pl] using m) (by simpa [pl] using n)]
  | tup es=>obtain⟨b,ys,q,g1,_⟩:=g.af;cases q;rw[h1] at g1;cases g1
  | _=>exfalso;unfold RV at g;first | (simp[pl] at n;done) | (cases g;done)
 | x,.br ds,_,_,_,n,_=>by simp[pl] at n
 | x,.wx ..,_,_,_,n,_=>by simp[pl] at n
 | x,.obj ..,_,_,_,n,_=>by simp[pl] at n
 | x,.exc ..,_,_,_,n,_=>by simp[pl] at n
def aj.inj {K:Frag} {A B:Addr->Prop} {H:Hp}:∀{xs ds es},aj K A H xs ds->aj K B H xs es->jy ds=true->jy es=true->ds=es
 | [],ds,es,h,g,_,_=>by rw[h.dJ,g.dJ]
 | x::xs,ds,es,h,g,m,n=>by obtain⟨d,r,rfl,h1,h2⟩:=h.mB;obtain⟨e,t,rfl,g1,g2⟩:=g.mB;simp only[jy,PX] at m n;rw[RV.inj h1 g1 m.1 n.1,aj.inj h2 g2 m.2 n.2]
end
def tG (ds es:List Dt) (j:Nat):Bool:=match ds[j]?,es[j]? with
 | some d,some e=>bC d e
 | _,_=>true
def cW:∀ds es:List Dt,((List.range (min ds.length es.length)).all (tG ds es)&&ds.length==es.length)=bU ds es
 | [],[]=>by simp[bU]
 | [],_::_=>by simp[bU]
 | _::_,[]=>by simp[bU]
 | d::ds,e::es=>by
  have ih:=cW ds es;have hm:min (d::ds).length (e::es).length=min ds.length es.length + 1:=by simp only[Qh];omega
  have e1:((d::ds).length==(e::es).length)=(ds.length==es.length):=by rw[Bool.eq_iff_iff];simp
  rw[hm,List.range_succ_eq_map,List.all_cons,List.all_map,e1,bU,<-ih,Bool.and_assoc];rfl
def kn {d:Dt}:∀{ds:List Dt} {j:Nat},ds[j]?=some d->dp d<=mH ds
 | [],_,h=>by simp at h
 | d'::ds,0,h=>by simp at h;subst h;unfold mH;omega
 | d'::ds,j + 1,h=>by have:=kn (ds:=ds) (j:=j) (by simpa using h);unfold mH;omega
def d4 {d:Dt}:∀{ds:List Dt} {j:Nat},jy ds=true->ds[j]?=some d->pl d=true
 | [],_,_,h=>by simp at h
 | d'::ds,0,n,h=>by simp at h;subst h;simp only[jy,PX] at n;exact n.1
 | d'::ds,j + 1,n,h=>by simp only[jy,PX] at n;exact d4 (ds:=ds) (j:=j) n.2 (by simpa using h)
section
variable {P:Program} {w:World} {K:Frag} {A B:Addr->Prop} {H:Hp} {s:Shared}
def aN (hok:eX P w H s.heap) {a:Addr} {xs:List V} (h:H a=some (.lst xs)):∃its:List Value,aw xs its/\s.heap.IsList a its.toArray:=by obtain⟨_,its,n,r,t⟩:=hok a _ h;exact⟨its,r,⟨_,t,rfl,_,rfl⟩⟩
def B2 (hok:eX P w H s.heap):∀(n:Nat) (d e:Dt) (x y:V) (u v:Value) (R:Around),dp d<=n->pl d=true->pl e=true->R.units + n < cLine->RV K A H x d->RV K B H y e->RelV x u->RelV y v->EqAt R s u v (bC d e):=by
 intro n
 induction n with
 | zero=>
  intro d e x y u v R hd jr fA hu hx hy rx ry;cases d with
  | bo=>
   have:=hx.aA;subst this;cases rx;cases e with
   | bo=>have:=hy.aA;subst this;cases ry;exact EqAt.same _
   | bl j=>have:=hy.aE;subst this;cases ry;exact EqAt.none_bool j
   | int j=>have:=hy.int_inv;subst this;obtain⟨t',rfl⟩:=ry;exact EqAt.none_int j t'
   | str j=>have:=hy.str_inv;subst this;obtain⟨t',rfl⟩:=ry;exact EqAt.none_str j t'
   | tup j=>obtain⟨b,ys,q,f1,f2⟩:=hy.af;subst q;cases ry;obtain⟨its,_,ht⟩:=Mx.ay hok f1;exact EqAt.none_tuple ht (by omega)
   | lst j=>obtain⟨b,ys,q,f1,_,f2⟩:=hy.lst_inv;subst q;cases ry;obtain⟨its,_,ht⟩:=aN hok f1;exact EqAt.none_list ht (by omega)
   | _=>simp[pl] at fA
  | bl i=>
   have:=hx.aE;subst this;cases rx;cases e with
   | bo=>have:=hy.aA;subst this;cases ry;exact EqAt.bool_none _
   | bl j=>have:=hy.aE;subst this;cases ry;exact EqAt.bool_bool i j
   | int j=>have:=hy.int_inv;subst this;obtain⟨t',rfl⟩:=ry;exact EqAt.bool_int i j t'
   | str j=>have:=hy.str_inv;subst this;obtain⟨t',rfl⟩:=ry;exact EqAt.bool_str i j t'
   | tup j=>obtain⟨b,ys,q,f1,f2⟩:=hy.af;subst q;cases ry;obtain⟨its,_,ht⟩:=Mx.ay hok f1;exact EqAt.bool_tuple i ht (by omega)
   | lst j=>obtain⟨b,ys,q,f1,_,f2⟩:=hy.lst_inv;subst q;cases ry;obtain⟨its,_,ht⟩:=aN hok f1;exact EqAt.bool_list i ht (by omega)
   | _=>simp[pl] at fA
  | int i=>
   have:=hx.int_inv;subst this;obtain⟨t,rfl⟩:=rx;cases e with
   | bo=>have:=hy.aA;subst this;cases ry;exact EqAt.int_none i t
   | bl j=>have:=hy.aE;subst this;cases ry;exact EqAt.int_bool i t j
   | int j=>have:=hy.int_inv;subst this;obtain⟨t',rfl⟩:=ry;exact EqAt.int_int i t j t'
   | str j=>have:=hy.str_inv;subst this;obtain⟨t',rfl⟩:=ry;exact EqAt.int_str i t j t'
   | tup j=>obtain⟨b,ys,q,f1,f2⟩:=hy.af;subst q;cases ry;obtain⟨its,_,ht⟩:=Mx.ay hok f1;exact EqAt.int_tuple i t ht (by omega)
   | lst j=>obtain⟨b,ys,q,f1,_,f2⟩:=hy.lst_inv;subst q;cases ry;obtain⟨its,_,ht⟩:=aN hok f1;exact EqAt.int_list i t ht (by omega)
   | _=>simp[pl] at fA
  | str i=>
   have:=hx.str_inv;subst this;obtain⟨t,rfl⟩:=rx;cases e with
   | bo=>have:=hy.aA;subst this;cases ry;exact EqAt.str_none i t
   | bl j=>have:=hy.aE;subst this;cases ry;exact EqAt.str_bool i t j
   | int j=>have:=hy.int_inv;subst this;obtain⟨t',rfl⟩:=ry;exact EqAt.str_int i t j t'
   | str j=>have:=hy.str_inv;subst this;obtain⟨t',rfl⟩:=ry;exact EqAt.str_str i t j t'
   | tup j=>obtain⟨b,ys,q,f1,f2⟩:=hy.af;subst q;cases ry;obtain⟨its,_,ht⟩:=Mx.ay hok f1;exact EqAt.str_tuple i t ht (by omega)
   | lst j=>obtain⟨b,ys,q,f1,_,f2⟩:=hy.lst_inv;subst q;cases ry;obtain⟨its,_,ht⟩:=aN hok f1;exact EqAt.str_list i t ht (by omega)
   | _=>simp[pl] at fA
  | tup ds=>unfold dp at hd;omega
  | lst ds=>unfold dp at hd;omega
  | _=>simp[pl] at jr
 | succ n ih=>
  intro d e x y u v R hd jr fA hu hx hy rx ry;cases d with
  | tup ds=>
   obtain⟨a,xs,q,e1,e2⟩:=hx.af;subst q;cases rx;obtain⟨its,r1,ht⟩:=Mx.ay hok e1;cases e with
   | bo=>have:=hy.aA;subst this;cases ry;exact EqAt.tuple_none ht (by omega)
   | bl j=>have:=hy.aE;subst this;cases ry;exact EqAt.tuple_bool j ht (by omega)
   | int j=>have:=hy.int_inv;subst this;obtain⟨t',rfl⟩:=ry;exact EqAt.tuple_int j t' ht (by omega)
   | str j=>have:=hy.str_inv;subst this;obtain⟨t',rfl⟩:=ry;exact EqAt.tuple_str j t' ht (by omega)
   | lst j=>obtain⟨b,ys,q,f1,_,f2⟩:=hy.lst_inv;subst q;cases ry;obtain⟨aM,_,cm⟩:=aN hok f1;exact EqAt.tuple_list ht cm (by omega)
   | tup es=>
    obtain⟨b,ys,q,f1,f2⟩:=hy.af;subst q;cases ry;obtain⟨aM,r2,cm⟩:=Mx.ay hok f1;by_cases gI:a=b
    ·subst gI;have:=RV.inj hx hy jr fA;cases this;rw[iX _ jr];exact EqAt.same _
    ·have l1:its.toArray.size=ds.length:=by rw[PY,<-r1.length,e2.length]
     have l2:aM.toArray.size=es.length:=by rw[PY,<-r2.length,f2.length]
     have key:=RcAt.tuples (A:=R) (e:=tG ds es) ht cm (by omega) (λj h1 h2=>?_)
     ·have q:=cW ds es;rw[<-l1,<-l2] at q;rw[q] at key;exact EqAt.of_refs gI key
     ·have gS:j < xs.length:=by rw[e2.length,<-l1];exact h1
      have mf:j < ys.length:=by rw[f2.length,<-l2];exact h2
      obtain⟨d,g1,g2⟩:=e2.get (i:=j) (x:=xs[j]) (by simp[gS]);obtain⟨e,k1,k2⟩:=f2.get (i:=j) (x:=ys[j]) (by simp[mf]);obtain⟨u,td,ru⟩:=r1.get (i:=j) (x:=xs[j]) (by simp[gS]);obtain⟨v,BL,rv⟩:=r2.get (i:=j) (x:=ys[j]) (by simp[mf]);have eu:its.toArray[j]=u:=by simp only[List.getElem_toArray];exact(P0.mp td).2
      have ev:aM.toArray[j]=v:=by simp only[List.getElem_toArray];exact(P0.mp BL).2
      rw[eu,ev,show tG ds es j=bC d e by unfold tG;rw[g1,k1]];have:=kn g1;unfold dp at hd;exact ih d e xs[j] ys[j] u v R.in1 (by omega) (d4 (by simpa [pl] using jr) g1) (d4 (by simpa [pl] using fA) k1) (by show R.units + 1 + n < cLine;omega) g2 k2 ru rv
   | _=>simp[pl] at fA
  | lst ds=>
   obtain⟨a,xs,q,e1,_,e2⟩:=hx.lst_inv;subst q;cases rx;obtain⟨its,r1,ht⟩:=aN hok e1;cases e with
   | bo=>have:=hy.aA;subst this;cases ry;exact EqAt.list_none ht (by omega)
   | bl j=>have:=hy.aE;subst this;cases ry;exact EqAt.list_bool j ht (by omega)
   | int j=>have:=hy.int_inv;subst this;obtain⟨t',rfl⟩:=ry;exact EqAt.list_int j t' ht (by omega)
   | str j=>have:=hy.str_inv;subst this;obtain⟨t',rfl⟩:=ry;exact EqAt.list_str j t' ht (by omega)
   | tup j=>obtain⟨b,ys,q,f1,f2⟩:=hy.af;subst q;cases ry;obtain⟨aM,_,cm⟩:=Mx.ay hok f1;exact EqAt.list_tuple ht cm (by omega)
   | lst es=>
    obtain⟨b,ys,q,f1,_,f2⟩:=hy.lst_inv;subst q;cases ry;obtain⟨aM,r2,cm⟩:=aN hok f1;by_cases gI:a=b
    ·subst gI;have:=RV.inj hx hy jr fA;cases this;rw[iX _ jr];exact EqAt.same _
    ·have l1:its.toArray.size=ds.length:=by rw[PY,<-r1.length,e2.length]
     have l2:aM.toArray.size=es.length:=by rw[PY,<-r2.length,f2.length]
     have q:=cW ds es;by_cases hl:ds.length=es.length
     ·have key:=RcAt.lists (A:=R) (e:=tG ds es) ht cm (by omega) (by omega) (λj h1 h2=>?_)
      ·rw[hl,Nat.min_self,beq_self_eq_true,Bool.and_true] at q;rw[l1,hl,q] at key;exact EqAt.of_refs gI key
      ·have gS:j < xs.length:=by rw[e2.length,<-l1];exact h1
       have mf:j < ys.length:=by rw[f2.length,<-l2];exact h2
       obtain⟨d,g1,g2⟩:=e2.get (i:=j) (x:=xs[j]) (by simp[gS]);obtain⟨e,k1,k2⟩:=f2.get (i:=j) (x:=ys[j]) (by simp[mf]);obtain⟨u,td,ru⟩:=r1.get (i:=j) (x:=xs[j]) (by simp[gS]);obtain⟨v,BL,rv⟩:=r2.get (i:=j) (x:=ys[j]) (by simp[mf]);have eu:its.toArray[j]=u:=by simp only[List.getElem_toArray];exact(P0.mp td).2
       have ev:aM.toArray[j]=v:=by simp only[List.getElem_toArray];exact(P0.mp BL).2
       rw[eu,ev,show tG ds es j=bC d e by unfold tG;rw[g1,k1]];have:=kn g1;unfold dp at hd;exact ih d e xs[j] ys[j] u v R.in1 (by omega) (d4 (by simpa [pl] using jr) g1) (d4 (by simpa [pl] using fA) k1) (by show R.units + 1 + n < cLine;omega) g2 k2 ru rv
     ·have key:=RcAt.lists_lengths (A:=R) ht cm (by rw[l1,l2];simpa using hl) (by omega);have hb:(ds.length==es.length)=false:=by simpa using hl
      rw[hb,Bool.and_false] at q;show EqAt R s _ _ (bU ds es);rw[<-q];exact EqAt.of_refs gI key
   | _=>simp[pl] at fA
  | _=>exact ih _ e x y u v R (by unfold dp;omega) jr fA (by omega) hx hy rx ry
end
inductive R (α:Type) where
 | ok (a:α) | ex (c:Nat) | bad
def R.bind {α β:Type}:R α->(α->R β)->R β
 | .ok a,f=>f a
 | .ex c,_=> .ex c
 | .bad,_=> .bad
@[simp] theorem R.ax {α β:Type} (a:α) (f:α->R β):(R.ok a).bind f=f a:=rfl
def R.nx {α:Type}:R α->R α
 | .ok a=> .ok a
 | _=> .bad
abbrev lim:Nat:=1000000
abbrev ak:=List (Option Dt)
abbrev Sx:=Option (List Int)
def ag (b:Bool) {α:Type} (r:R α):R α:=if b then r else .bad
@[simp] theorem guard_true {α:Type} (r:R α):ag true r=r:=rfl
def nh:Operator->Dt->Dt->R Dt
 | .Add,.int i,.int j=> .ok (.int (i + j))
 | .Add,.str x,.str y=>ag (decide (x.length + y.length<=lim)) (.ok (.str (x++y)))
 | .Add,.lst x,.lst y=>ag (decide (x.length + y.length<=lim)) (.ok (.lst (x++y)))
 | .Add,.tup x,.tup y=>ag (decide (x.length + y.length<=lim)) (.ok (.tup (x++y)))
 | .Sub,.int i,.int j=> .ok (.int (i - j))
 | .Mult,.int i,.int j=>ag (decide (i.natAbs < 2 ^ 64)||decide (j.natAbs < 2 ^ 64)) (.ok (.int (i * j)))
 | .Mult,.lst x,.int k=>ag (decide (k.natAbs<=lim)&&decide (x.length * k.toNat<=lim)) (.ok (.lst (List.replicate k.toNat x).flatten))
 | .FloorDiv,.int i,.int j=>ag (decide (0 < j)&&decide (j.natAbs.log2 < 9000)) (.ok (.int (i / j)))
 | .Mod,.int i,.int j=>ag (decide (0 < j)) (.ok (.int (i % j)))
 | .Pow,.int i,.int j=>ag (decide (0<=j)&&decide (j<=1000)&&decide (i.natAbs < 2 ^ 64)) (.ok (.int (i ^ j.toNat)))
 | _,_,_=> .bad
def inD (d:Dt) (ds:List Dt):Bool:=ds.any λe=>bC e d
def f9 (d e:Dt):Bool:=pl d&&pl e&&decide (dp d<=100)
def itemsOf:Dt->Option (List Dt)
 | .lst ds=>some ds
 | .tup ds=>some ds
 | .br ns=>some (ns.map Dt.int)
 | _=>none
def bM:Dt->Option (List Dt)
 | .lst ds=>some ds
 | .tup ds=>some ds
 | _=>none
def c8:CmpOp->Dt->Dt->R Bool
 | .Eq,a,b=>ag (f9 a b) (.ok (bC a b))
 | .NotEq,a,b=>ag (f9 a b) (.ok (!bC a b))
 | .Lt,.int i,.int j=> .ok (decide (i < j))
 | .LtE,.int i,.int j=> .ok (decide (i<=j))
 | .Gt,.int i,.int j=> .ok (decide (j < i))
 | .GtE,.int i,.int j=> .ok (decide (j<=i))
 | .Is,a,.bo=> .ok (match a with | .bo=>true | _=>false)
 | .IsNot,a,.bo=> .ok (match a with | .bo=>false | _=>true)
 | .In,a,.lst ds=>ag (pl a&&jy ds&&decide (mH ds<=100)) (.ok (inD a ds))
 | .In,a,.tup ds=>ag (pl a&&jy ds&&decide (mH ds<=100)) (.ok (inD a ds))
 | .NotIn,a,.lst ds=>ag (pl a&&jy ds&&decide (mH ds<=100)) (.ok (!inD a ds))
 | .NotIn,a,.tup ds=>ag (pl a&&jy ds&&decide (mH ds<=100)) (.ok (!inD a ds))
 | _,_,_=> .bad
def dU:Dt->R Bool
 | .bo=> .ok false
 | .bl b=> .ok b
 | .int i=> .ok (i != 0)
 | .str y=>ag (decide (y.length<=lim)) (.ok ((y.length:Int) != 0))
 | .lst ds=> .ok !ds.isEmpty
 | .tup ds=> .ok !ds.isEmpty
 | .br ds=> .ok !ds.isEmpty
 | _=> .bad
def vZ (ds:List Dt) (i:Int):R Dt:=match ka ds i with
 | some d=> .ok d
 | none=> .bad
def dm:Dt->Dt->R Dt
 | .lst ds,.int i=>vZ ds i
 | .tup ds,.int i=>vZ ds i
 | .br ns,.int i=>vZ (ns.map Dt.int) i
 | .str z,.int i=>ag (decide (z.length<=lim)) (match ka z.cps.toList i with | some c=> .ok (.str ⟨#[c]⟩) | none=> .bad)
 | _,_=> .bad
def cutD {α:Type} (xs:List α) (lo hi:Option Int):List α:=(xs.drop (HT.bQ xs.length 0 lo)).take (HT.bQ xs.length xs.length hi - HT.bQ xs.length 0 lo)
def iB:Dt->Option Int->Option Int->R Dt
 | .lst ds,lo,hi=> .ok (.lst (cutD ds lo hi))
 | .br ds,lo,hi=> .ok (.lst (cutD (ds.map Dt.int) lo hi))
 | .tup ds,lo,hi=> .ok (.tup (cutD ds lo hi))
 | .str z,lo,hi=>ag (decide (z.length<=lim)) (.ok (.str (PySem.Txt.slice z lo hi)))
 | _,_,_=> .bad
inductive BI where
 | len | abs | min2 | max2 | sum | any | all | minL | maxL | sorted | tuple | list | int | isi (T:String) | revL | revT | sset | zipL
 deriving DecidableEq
def intsOf:List Dt->Option (List Int)
 | []=>some []
 | .int i::r=>(intsOf r).map (i:: ·)
 | _=>none
def Hy:List Dt->Option (List Bool)
 | []=>some []
 | .bl i::r=>(Hy r).map (i:: ·)
 | _=>none
def oI (a b:Mx.D):Bool:= !Mx.D.lt b a
def aT (ds:List Mx.D):List Mx.D:=ds.mergeSort oI
mutual
def jT:Mx.D->Mx.D->Bool
 | .int _,.int _=>true
 | .str _,.str _=>true
 | .tup a,.tup b=>iT a b
 | _,_=>false
def iT:List Mx.D->List Mx.D->Bool
 | x::xs,y::ys=>jT x y&&iT xs ys
 | _,_=>true
end
def GC (k:Mx.SK):Mx.D->Bool
 | .tup (.tup _::_)=>k== .tt
 | .tup (.str _::_)=>k== .ts
 | .tup (.int _::_)=>k== .ti
 | .str _=>k== .s
 | .int _=>k== .i
 | _=>false
def iz (ds:List Mx.D):Bool:=decide (ds.length < 1000000)&&(decide (ds.length < 2)||(decide (Mx.D.b8 ds<=100)&&([Mx.SK.tt,.ts,.ti,.s,.i].any λk=>ds.all (GC k))&&ds.all λd=>ds.all λe=>jT d e))
def dd:List Str->List Str
 | []=>[]
 | x::r=>if x∈dd r then dd r else x::dd r
def L0:List Int->Int
 | []=>0
 | [a]=>a
 | a::r=>min a (L0 r)
def strsOf:List Dt->Option (List Str)
 | []=>some []
 | .str i::r=>(strsOf r).map (i:: ·)
 | _=>none
def dR (xs ys:List Dt):List Dt:=List.zipWith (λx y=>Dt.tup [x,y]) xs ys
def dI:Nat->List Dt->List Dt
 | _,[]=>[]
 | i,x::xs=>Dt.tup [.int i,x]::dI (i + 1) xs
def vW (T:String):Dt->R Bool
 | .str _=> .ok (T=="str")
 | .int _=> .ok (T=="int")
 | .bl _=> .ok (T=="bool"||T=="int")
 | .lst _=> .ok (T=="list")
 | .tup _=> .ok (T=="tuple")
 | .bo=> .ok false
 | _=> .bad
def dX:BI->List Dt->R Dt
 | .len,[.str x]=>ag (decide (x.length<=lim)) (.ok (.int x.length))
 | .len,[.lst ds]=> .ok (.int ds.length)
 | .len,[.tup ds]=> .ok (.int ds.length)
 | .len,[.br ds]=> .ok (.int ds.length)
 | .min2,[.int i,.int j]=> .ok (.int (if j < i then j else i))
 | .sum,[.lst ds]=>match intsOf ds with | some ns=> .ok (.int ns.sum) | none=> .bad
 | .sorted,[d]=>match itemsOf d with
  | some ds=>match kH ds with
   | some ms=>ag (iz ms) (.ok (.lst (aa (aT ms))))
   | none=> .bad
  | none=> .bad
 | .tuple,[.lst ds]=> .ok (.tup ds)
 | .tuple,[.tup ds]=> .ok (.tup ds)
 | .list,[.lst ds]=> .ok (.lst ds)
 | .list,[.tup ds]=> .ok (.lst ds)
 | .list,[.br ns]=> .ok (.lst (ns.map Dt.int))
 | .isi T,[d]=>(vW T d).bind λb=> .ok (.bl b)
 | .revL,[.lst ds]=> .ok (.lst ds.reverse)
 | .revT,[.lst ds]=> .ok (.tup ds.reverse)
 | .sset,[d]=>match bM d with
  | some ds=>match strsOf ds with
   | some ys=>ag (decide (ys.length < 4000)) (.ok (.lst (aa (aT ((dd ys).map Mx.D.str)))))
   | none=> .bad
  | none=> .bad
 | .zipL,[a,b]=>match bM a,bM b with
  | some xs,some ys=>ag (decide (xs.length<=lim)) (.ok (.lst (dR xs ys)))
  | _,_=> .bad
 | _,_=> .bad
def isStr:Dt->Bool
 | .str _=>true
 | _=>false
inductive MT where
 | join
 deriving DecidableEq
def Nz:MT->Dt->List Dt->R Dt
 | .join,.str z,[.lst ds]=>match strsOf ds with
  | some ys=>ag (decide ((ys.map (·.length)).sum + ys.length * z.length<=lim)) (.ok (.str (PySem.Txt.join z ys)))
  | none=> .bad
 | _,_,_=> .bad
inductive Tg where
 | nm (i:Nat) | tp (is:List Nat)
 deriving DecidableEq
mutual
inductive C where
 | con (d:Dt) | var (i:Nat) | mvr (i:Nat)
 | bin (o:Operator) (a b:C) | cmp (o:CmpOp) (a b:C) | ch (o p:CmpOp) (a b c:C)
 | neg (a:C) | nt (a:C) | and (a b:C) | or (a b:C) | ite (t a b:C)
 | idx (a b:C) | sliL (a lo:C) | sliH (a hi:C) | sliB (a lo hi:C)
 | tup (es:Cs) | lst (es:Cs)
 | call (f:Nat) (es:Cs) (ds:List Dt) | callD (f:Nat) (es:Cs) | popD | lenD
 | bi (b:BI) (es:Cs) | mt (m:MT) (o:C) (es:Cs)
 | comp (cJ:List (Option Nat)) (it:ql) (tg:Tg) (ts:Cs) (e:C)
 | mY (cJ:List (Option Nat)) (it:ql) (tg:Tg) (ts:Cs) (jD:ql) (oN:Tg) (Fi:Cs) (e:C)
inductive Cs where
 | nil | cons (c:C) (cs:Cs)
inductive ql where
 | seq (c:C) | rng1 (c:C) | rng2 (a b:C) | zip (a b:C) | enum (c:C)
end
def Cs.all (p:C->Bool):Cs->Bool
 | .nil=>true
 | .cons c cs=>p c&&cs.all p
mutual
def lk:C->Nat
 | .mvr _=>1
 | .and _ _=>0
 | .or _ _=>0
 | .ite _ a b=>max (lk a) (lk b)
 | .idx a _=>if lk a<=1 then 0 else 2
 | .sliL a _=>if lk a<=1 then 0 else 2
 | .sliH a _=>if lk a<=1 then 0 else 2
 | .sliB a _ _=>if lk a<=1 then 0 else 2
 | .bin _ a b=>if lk a<=1/\lk b<=1 then 0 else 2
 | .tup es=>if mJ es=0 then 0 else 2
 | .lst es=>if mJ es=0 then 0 else 2
 | .call _ es _=>if mJ es=0 then 0 else 2
 | .callD _ es=>if mJ es=0 then 0 else 2
 | .bi _ es=>if mJ es<=1 then 0 else 2
 | _=>0
def mJ:Cs->Nat
 | .nil=>0
 | .cons c cs=>max (lk c) (mJ cs)
end
def vF:ql->Nat
 | .seq c=>lk c
 | .zip a b=>max (lk a) (lk b)
 | .enum c=>lk c
 | _=>0
def fresh (fr:Nat->Bool):C->Bool
 | .lst _=>true
 | .comp ..=>true
 | .mY ..=>true
 | .bi .sorted _=>true
 | .bi .list _=>true
 | .bi .revL _=>true
 | .bi .sset _=>true
 | .bi .zipL _=>true
 | .bin ..=>true
 | .call f _ _=>fr f
 | .callD f _=>fr f
 | _=>false
def eL (c:C) (d:Dt):Bool:=decide (lk c=0)||lG d
def mn (c:C) (d:Dt):Bool:=decide (lk c=0)||match d with | .lst ds=>i5 ds | d=>lG d
def fN (ρ:ak) (i:Nat):R Dt:=match ρ[i]? with
 | some (some d)=> .ok d
 | _=> .bad
def lM (cJ:List (Option Nat)) (ρ:ak):ak:=cJ.map λo=>o.bind λi=>(ρ[i]?).join
def dZ:List Nat->List Dt->ak->R ak
 | [],[],ρ=> .ok ρ
 | i::is,d::ds,ρ=>dZ is ds (ρ.set i (some d))
 | _,_,_=> .bad
def cA:Tg->Dt->ak->R ak
 | .nm i,d,ρ=> .ok (ρ.set i (some d))
 | .tp is,.tup ds,ρ=>dZ is ds ρ
 | _,_,_=> .bad
def a9 (f:Dt->Sx->R (List Dt×Sx)):List Dt->Sx->R (List Dt×Sx)
 | [],S=> .ok ([],S)
 | x::xs,S=>(f x S).bind λp=>(a9 f xs p.2).bind λq=> .ok (p.1++q.1,q.2)
def bJ (tg:Tg) (Np:ak->Sx->R (Bool×Sx)) (body:ak->Sx->R (List Dt×Sx)) (ρ:ak) (d:Dt) (S:Sx):R (List Dt×Sx):=
 (cA tg d ρ).bind λρ1=>(Np ρ1 S).bind λb=>if b.1 then body ρ1 b.2 else .ok ([],b.2)
def bh (lo:Int) (n:Nat):List Dt:=(List.range n).map λ(i:Nat)=>Dt.int (lo + (i:Int))
abbrev FT:=Nat->List Dt->Sx->R (Dt×Sx)
mutual
def ev (F:FT):C->ak->Sx->R (Dt×Sx)
 | .con d,_,S=> .ok (d,S)
 | .var i,ρ,S=>(fN ρ i).bind λd=> .ok (d,S)
 | .mvr i,ρ,S=>(fN ρ i).bind λd=> .ok (d,S)
 | .bin o a b,ρ,S=>(ev F a ρ S).bind λx=>(ev F b ρ x.2).bind λy=>(nh o x.1 y.1).bind λd=> .ok (d,y.2)
 | .cmp o a b,ρ,S=>(ev F a ρ S).bind λx=>(ev F b ρ x.2).bind λy=>(c8 o x.1 y.1).bind λd=> .ok (.bl d,y.2)
 | .ch o p a b c,ρ,S=>(ev F a ρ S).bind λx=>(ev F b ρ x.2).bind λy=>(c8 o x.1 y.1).bind λd=>
   if d then(ev F c ρ y.2).bind λz=>(c8 p y.1 z.1).bind λe=> .ok (.bl e,z.2) else .ok (.bl false,y.2)
 | .neg a,ρ,S=>(ev F a ρ S).bind λx=>match x.1 with | .int i=> .ok (.int (-i),x.2) | _=> .bad
 | .nt a,ρ,S=>(ev F a ρ S).bind λx=>match x.1 with | .bl b=> .ok (.bl !b,x.2) | _=> .bad
 | .and a b,ρ,S=>(ev F a ρ S).bind λx=>match x.1 with | .bl true=>(ev F b ρ x.2).bind λy=>(match y.1 with | .bl c=> .ok (.bl c,y.2) | _=> .bad) | .bl false=> .ok (.bl false,x.2) | _=> .bad
 | .or a b,ρ,S=>(ev F a ρ S).bind λx=>match x.1 with | .bl false=>(ev F b ρ x.2).bind λy=>(match y.1 with | .bl c=> .ok (.bl c,y.2) | _=> .bad) | .bl true=> .ok (.bl true,x.2) | _=> .bad
 | .ite t a b,ρ,S=>(cq F t ρ S).bind λx=>if x.1 then ev F a ρ x.2 else ev F b ρ x.2
 | .idx a b,ρ,S=>(ev F a ρ S).bind λx=>(ev F b ρ x.2).bind λy=>(dm x.1 y.1).bind λd=> .ok (d,y.2)
 | .sliL a l,ρ,S=>(ev F a ρ S).bind λx=>(ev F l ρ x.2).bind λy=>match y.1 with | .int i=>(iB x.1 (some i) none).bind λd=> .ok (d,y.2) | _=> .bad
 | .sliH a h,ρ,S=>(ev F a ρ S).bind λx=>(ev F h ρ x.2).bind λy=>match y.1 with | .int i=>(iB x.1 none (some i)).bind λd=> .ok (d,y.2) | _=> .bad
 | .sliB a l h,ρ,S=>(ev F a ρ S).bind λx=>(ev F l ρ x.2).bind λy=>match y.1 with | .int i=>(ev F h ρ y.2).bind λz=>(match z.1 with | .int j=>(iB x.1 (some i) (some j)).bind λd=> .ok (d,z.2) | _=> .bad) | _=> .bad
 | .tup es,ρ,S=>(gz F es ρ S).bind λx=>ag (decide (x.1.length<=lim)) (.ok (.tup x.1,x.2))
 | .lst es,ρ,S=>(gz F es ρ S).bind λx=>ag (decide (x.1.length<=lim)) (.ok (.lst x.1,x.2))
 | .call f es ds,ρ,S=>(gz F es ρ S).bind λx=>(F f (x.1++ds) none).bind λy=> .ok (y.1,x.2)
 | .callD f es,ρ,S=>ag S.isSome ((gz F es ρ S).bind λx=>match x.2 with | some s=>F f x.1 (some s) | none=> .bad)
 | .popD,_,S=>match S with | some ns=>ag (!ns.isEmpty) (.ok (.int (ns.getLastD 0),some ns.dropLast)) | none=> .bad
 | .lenD,_,S=>match S with | some ns=> .ok (.int ns.length,S) | none=> .bad
 | .bi b es,ρ,S=>(gz F es ρ S).bind λx=>(dX b x.1).bind λd=> .ok (d,x.2)
 | .mt m o es,ρ,S=>(ev F o ρ S).bind λy=>ag (isStr y.1) ((gz F es ρ y.2).bind λx=>(Nz m y.1 x.1).bind λd=> .ok (d,x.2))
 | .comp cJ it tg ts e,ρ,S=>(eG F it ρ S).bind λx=>ag (decide (x.1.length<=lim)&&(decide (vF it<=1)||ju F it ρ S))
   ((a9 (bJ tg (cU F ts) (λρ1 S1=>(ev F e ρ1 S1).bind λy=>ag (eL e y.1) (.ok ([y.1],y.2))) (lM cJ ρ)) x.1 x.2).bind λq=> .ok (.lst q.1,q.2))
 | .mY cJ it tg ts jD oN Fi e,ρ,S=>(eG F it ρ S).bind λx=>ag (decide (x.1.length<=lim)&&(decide (vF it<=1)||ju F it ρ S))
   ((a9 (bJ tg (cU F ts) (λρ1 S1=>(eG F jD ρ1 S1).bind λx2=>ag (decide (x.1.length * x2.1.length<=lim)&&decide (vF jD=0))
    (a9 (bJ oN (cU F Fi) (λρ2 S2=>(ev F e ρ2 S2).bind λy=>ag (eL e y.1) (.ok ([y.1],y.2))) ρ1) x2.1 x2.2)) (lM cJ ρ)) x.1 x.2).bind λq=> .ok (.lst q.1,q.2))
def cq (F:FT):C->ak->Sx->R (Bool×Sx)
 | .nt a,ρ,S=>(cq F a ρ S).bind λx=> .ok (!x.1,x.2)
 | .and a b,ρ,S=>(cq F a ρ S).bind λx=>if x.1 then cq F b ρ x.2 else .ok (false,x.2)
 | .or a b,ρ,S=>(cq F a ρ S).bind λx=>if x.1 then .ok (true,x.2) else cq F b ρ x.2
 | .cmp o a b,ρ,S=>(ev F a ρ S).bind λx=>(ev F b ρ x.2).bind λy=>(c8 o x.1 y.1).bind λd=> .ok (d,y.2)
 | .ch o p a b c,ρ,S=>(ev F a ρ S).bind λx=>(ev F b ρ x.2).bind λy=>(c8 o x.1 y.1).bind λd=>
   if d then(ev F c ρ y.2).bind λz=>(c8 p y.1 z.1).bind λe=> .ok (e,z.2) else .ok (false,y.2)
 | .var i,ρ,S=>(fN ρ i).bind λd=>(dU d).bind λb=> .ok (b,S)
 | .mvr i,ρ,S=>(fN ρ i).bind λd=>(dU d).bind λb=> .ok (b,S)
 | .call f es ds,ρ,S=>(gz F es ρ S).bind λx=>(F f (x.1++ds) none).bind λy=>(dU y.1).bind λb=> .ok (b,x.2)
 | .callD f es,ρ,S=>ag S.isSome ((gz F es ρ S).bind λx=>match x.2 with | some s=>(F f x.1 (some s)).bind λy=>(dU y.1).bind λb=> .ok (b,y.2) | none=> .bad)
 | .bi b es,ρ,S=>(gz F es ρ S).bind λx=>(dX b x.1).bind λd=>(dU d).bind λb=> .ok (b,x.2)
 | .idx a b,ρ,S=>(ev F a ρ S).bind λx=>(ev F b ρ x.2).bind λy=>(dm x.1 y.1).bind λd=>(dU d).bind λb=> .ok (b,y.2)
 | _,_,_=> .bad
def gz (F:FT):Cs->ak->Sx->R (List Dt×Sx)
 | .nil,_,S=> .ok ([],S)
 | .cons c cs,ρ,S=>(ev F c ρ S).bind λx=>(gz F cs ρ x.2).bind λy=> .ok (x.1::y.1,y.2)
def cU (F:FT):Cs->ak->Sx->R (Bool×Sx)
 | .nil,_,S=> .ok (true,S)
 | .cons c .nil,ρ,S=>cq F c ρ S
 | _,_,_=> .bad
def eG (F:FT):ql->ak->Sx->R (List Dt×Sx)
 | .seq c,ρ,S=>(ev F c ρ S).bind λx=>match itemsOf x.1 with | some ds=> .ok (ds,x.2) | none=> .bad
 | .rng1 c,ρ,S=>(ev F c ρ S).bind λx=>match x.1 with | .int j=>ag (decide (j<=lim)&&decide (-lim<=j)) (.ok (bh 0 j.toNat,x.2)) | _=> .bad
 | .rng2 a b,ρ,S=>(ev F a ρ S).bind λx=>(ev F b ρ x.2).bind λy=>match x.1,y.1 with
   | .int i,.int j=>ag (decide (i.natAbs<=lim)&&decide (j.natAbs<=lim)) (.ok (bh i (j - i).toNat,y.2)) | _,_=> .bad
 | .zip a b,ρ,S=>(ev F a ρ S).bind λx=>(ev F b ρ x.2).bind λy=>match bM x.1,bM y.1 with
   | some xs,some ys=> .ok (dR xs ys,y.2) | _,_=> .bad
 | .enum c,ρ,S=>(ev F c ρ S).bind λx=>match bM x.1 with | some ds=> .ok (dI 0 ds,x.2) | none=> .bad
def ju (F:FT):ql->ak->Sx->Bool
 | .seq c,ρ,S=>match ev F c ρ S with | .ok x=>lG x.1 | _=>false
 | _,_,_=>false
end
inductive Fl where
 | next | brk | cnt | ret (d:Dt)
mutual
inductive T where
 | asg (i:Nat) (c:C) | asgM (i:Nat) (c:C) | asgD (i:Nat) (c:C) | mov (i j:Nat) | asgT (is:List Nat) (c:C)
 | aug (i:Nat) (o:Operator) (c:C)
 | vc (i:Nat) (k v:C) | app (i:Nat) (c:C) | xtd (i:Nat) (c:C) | clr (i:Nat)
 | Km (c:C) | ret (c:C) | retN | ifs (t:C) (a b:Ts) | fr (tg:Tg) (it:ql) (b:Ts) | wh (t:C) (b:Ts)
 | rs (k:Nat) | brk | cnt | pas
inductive Ts where
 | nil | cons (t:T) (ts:Ts)
end
abbrev RS:=R (Fl×ak×Sx)
def forL (tg:Tg) (body:ak->Sx->RS):List Dt->ak->Sx->RS
 | [],ρ,S=> .ok (.next,ρ,S)
 | x::xs,ρ,S=>(cA tg x ρ).bind λρ1=>(body ρ1 S).bind λp=>match p.1 with
  | .next=>forL tg body xs p.2.1 p.2.2
  | .cnt=>forL tg body xs p.2.1 p.2.2
  | .brk=> .ok (.next,p.2)
  | .ret d=> .ok (.ret d,p.2)
def K7 (test:ak->Sx->R (Bool×Sx)) (body:ak->Sx->RS):Nat->ak->Sx->RS
 | 0,_,_=> .bad
 | n + 1,ρ,S=>(test ρ S).bind λb=>if b.1 then(body ρ b.2).bind λp=>match p.1 with
   | .next=>K7 test body n p.2.1 p.2.2
   | .cnt=>K7 test body n p.2.1 p.2.2
   | .brk=> .ok (.next,p.2)
   | .ret d=> .ok (.ret d,p.2)
  else .ok (.next,ρ,b.2)
def FR:Nat:=100000
def isLE (ρ:ak) (i:Nat):Bool:=match ρ[i]? with
 | some (some (.lst _))=>true
 | _=>false
def pZ (ρ:ak) (i:Nat):R (List Dt):=match ρ[i]? with
 | some (some (.lst ds))=> .ok ds
 | _=> .bad
mutual
def ex (F:FT):T->ak->Sx->RS
 | .asg i c,ρ,S=>(ev F c ρ S).bind λx=>ag (eL c x.1) (.ok (.next,ρ.set i (some x.1),x.2))
 | .asgM i c,ρ,S=>(ev F c ρ S).bind λx=>ag (mn c x.1) (.ok (.next,ρ.set i (some x.1),x.2))
 | .asgD i c,ρ,S=>(ev F c ρ S).bind λx=>match x.1 with | .lst ds=>(match intsOf ds with | some ns=>ag (decide (lk c=0)&&decide (i < ρ.length)) (.ok (.next,ρ.set i none,some ns)) | none=> .bad) | _=> .bad
 | .mov i j,ρ,S=>(fN ρ j).bind λd=> .ok (.next,(ρ.set j none).set i (some d),S)
 | .asgT is c,ρ,S=>(ev F c ρ S).bind λx=>ag (eL c x.1) ((cA (.tp is) x.1 ρ).bind λρ1=> .ok (.next,ρ1,x.2))
 | .aug i o c,ρ,S=>(fN ρ i).bind λd=>(ev F c ρ S).bind λx=>match d,x.1 with
   | .int _,.int _=>(nh o d x.1).bind λz=> .ok (.next,ρ.set i (some z),x.2)
   | .str _,.str _=>(nh o d x.1).bind λz=> .ok (.next,ρ.set i (some z),x.2)
   | _,_=> .bad
 | .vc i k v,ρ,S=>ag (isLE ρ i) ((ev F v ρ S).bind λx=>(ev F k ρ x.2).bind λy=>ag (eL v x.1) ((pZ ρ i).bind λds=>match y.1 with
   | .int n=>(match nv ds.length n with | some j=> .ok (.next,ρ.set i (some (.lst (ds.set j x.1))),y.2) | none=> .bad) | _=> .bad))
 | .app i c,ρ,S=>ag (isLE ρ i) ((ev F c ρ S).bind λx=>ag (eL c x.1) ((pZ ρ i).bind λds=>ag (decide (ds.length<=lim)) (.ok (.next,ρ.set i (some (.lst (ds++[x.1]))),x.2))))
 | .xtd i c,ρ,S=>ag (isLE ρ i) ((ev F c ρ S).bind λx=>ag (decide (lk c<=1)) ((pZ ρ i).bind λds=>match x.1 with
   | .lst es=>ag (decide (ds.length + es.length<=lim)) (.ok (.next,ρ.set i (some (.lst (ds++es))),x.2)) | _=> .bad))
 | .clr i,ρ,S=>(pZ ρ i).bind λ_=> .ok (.next,ρ.set i (some (.lst [])),S)
 | .Km c,ρ,S=>(ev F c ρ S).bind λx=> .ok (.next,ρ,x.2)
 | .ret c,ρ,S=>(ev F c ρ S).bind λx=> .ok (.ret x.1,ρ,x.2)
 | .retN,ρ,S=> .ok (.ret .bo,ρ,S)
 | .ifs t a b,ρ,S=>(cq F t ρ S).bind λx=>if x.1 then aQ F a ρ x.2 else aQ F b ρ x.2
 | .fr tg it b,ρ,S=>(eG F it ρ S).bind λx=>ag (decide (vF it=0)||ju F it ρ S) (forL tg (aQ F b) x.1 ρ x.2)
 | .wh t b,ρ,S=>K7 (cq F t) (aQ F b) FR ρ S
 | .rs k,ρ,S=> .ex k
 | .brk,ρ,S=> .ok (.brk,ρ,S)
 | .cnt,ρ,S=> .ok (.cnt,ρ,S)
 | .pas,ρ,S=> .ok (.next,ρ,S)
def aQ (F:FT):Ts->ak->Sx->RS
 | .nil,ρ,S=> .ok (.next,ρ,S)
 | .cons t ts,ρ,S=>(ex F t ρ S).bind λp=>match p.1 with
  | .next=>aQ F ts p.2.1 p.2.2
  | f=> .ok (f,p.2)
end
structure Fn where
 ps:Nat
 n:Nat
 bc:Bool
 body:Ts
def gp (F:FT) (f:Fn) (args:List Dt) (S:Sx):R (Dt×Sx):=
 if args.length + (if f.bc then 1 else 0)=f.ps then
  (aQ F f.body ((if f.bc then[none] else[])++args.map some++List.replicate (f.n - f.ps) none) S).bind λp=>match p.1 with
   | .next=> .ok (.bo,p.2.2)
   | .ret d=> .ok (d,p.2.2)
   | _=> .bad
 else .bad
def aI (fs:List Fn):Nat->FT
 | 0,_,_,_=> .bad
 | n + 1,f,args,S=>match fs[f]? with
  | some g=>gp (aI fs n) g args S
  | none=> .bad
structure G where
 fns:List (Str×Nat×List Dt×Bool)
 cons:List (Str×Dt)
 bls:List Str
 fr:Nat->Bool
structure Gm where
 names:List (Str×NameKind)
 N:List Str
 M:List Bool
 δ:Option Nat
def xY:Option NameKind->Bool
 | some .local=>true
 | some .cell=>true
 | some .free=>true
 | _=>false
def yl:Option NameKind->Bool
 | some .local=>true
 | some .cell=>true
 | _=>false
def yS:Option NameKind->Bool
 | some .globalImplicit=>true
 | _=>false
def Cd (x:Str):List Str->Option Nat
 | []=>none
 | y::r=>if x==y then some 0 else(Cd x r).map (· + 1)
theorem oG {x:Str}:∀{l:List Str} {i:Nat},Cd x l=some i->l[i]?=some x
 | [],i,h=>by simp[Cd] at h
 | y::r,i,h=>by
  unfold Cd at h;by_cases e:(x==y)=true
  ·rw[if_pos e] at h;cases h;have:x=y:=by simpa using e
   simp[this]
  ·rw[if_neg e] at h;obtain⟨j,h1,rfl⟩:=Qe.mp h;simp[oG h1]
def eM (x:Str):Bool:= !(x==("__debug__":Str))&& !(x==("__classdict__":Str))&& !(x==("__name__":Str))
def slot (Γ:Gm) (x:Str):Option Nat:=if xY (Γ.names.lookup x)&&eM x then Cd x Γ.N else none
def gw (Γ:Gm) (x:Str):Option Nat:=if yl (Γ.names.lookup x)&&eM x then Cd x Γ.N else none
def fm (Γ:Gm) (i:Nat):Bool:=Γ.M[i]?==some true
def plainS (Γ:Gm) (i:Nat):Bool:= !fm Γ i&& !(Γ.δ==some i)
def sU (x:Str):List (Str×Nat×List Dt×Bool)->Option (Nat×Nat×List Dt×Bool)
 | []=>none
 | y::r=>if x==y.1 then some (0,y.2) else(sU x r).map λp=>(p.1 + 1,p.2)
def xX:List (Str×Nat×BI):=[("len",1,.len),("min",2,.min2),("sum",1,.sum),("sorted",1,.sorted),("tuple",1,.tuple),("list",1,.list)]
def sv (x:Str) (n:Nat):Option BI:=(xX.find? λt=>t.1==x&&t.2.1==n).map (·.2.2)
def rj (x:Str):Option String:=
 if x==("str":Str) then some "str" else if x==("int":Str) then some "int" else if x==("bool":Str) then some "bool"
 else if x==("list":Str) then some "list" else if x==("tuple":Str) then some "tuple" else none
def mw (Γ:Gm):Expr->Option Nat
 | .Name x _=>(gw Γ x).bind λi=>if plainS Γ i then some i else none
 | _=>none
def i7 (Γ:Gm):List Expr->Option (List Nat)
 | []=>some []
 | e::es=>(mw Γ e).bind λi=>(i7 Γ es).map (i:: ·)
def sM (Γ:Gm):Expr->Option Tg
 | .Name x p=>(mw Γ (.Name x p)).map .nm
 | .Tuple es _ _=>(i7 Γ es).map .tp
 | _=>none
def Lj (names:List (Str×NameKind)):List Str:=names.filterMap λp=>if xY (some p.2) then some p.1 else none
def E5 (names:List (Str×NameKind)) (N:List Str):List (Option Nat):=names.filterMap λp=>match p.2 with
 | .local=>some none
 | .free=>some (Cd p.1 N)
 | .cell=>some none
 | _=>none
def Gh (cJ:List (Option Nat)) (M:List Bool):List Bool:=cJ.map λo=>o.elim false λi=>M[i]?==some true
def Fw (δ:Option Nat):List (Option Nat)->Option Nat
 | []=>none
 | o::r=>if δ.isSome&&o==δ then some 0 else(Fw δ r).map (· + 1)
def aY (Γ:Gm) (sc:Scope):Gm×List (Option Nat):=
 let cJ:=E5 sc.names Γ.N
 (⟨sc.names,Lj sc.names,Gh cJ Γ.M,Fw Γ.δ cJ⟩,cJ)
def aU:Tg->List Nat
 | .nm i=>[i]
 | .tp is=>is
def xf (names on:List (Str×NameKind)) (N' Nn:List Str) (cJ:List (Option Nat)):Bool:=
 names.all (λy=>names.lookup y.1==some y.2&&(y.2 != .free||(on.lookup y.1==some .cell||on.lookup y.1==some .free)))&&
 (cJ.length==N'.length)&&(List.range cJ.length).all (λj=>match cJ[j]? with
  | some (some i)=>(match N'[j]? with
   | some x=>Nn[i]?==some x&&names.lookup x==some .free
   | none=>false)
  | _=>true)
def Kp (Γ:Gm):Expr->Bool
 | .Name x _=>match slot Γ x with
  | some i=>Γ.δ==some i
  | none=>false
 | _=>false
mutual
def cE:Nat->G->Gm->Expr->Option C
 | 0,_,_,_=>none
 | n + 1,g,Γ,e=>match e with
  | .Constant (.int i) _ _=>some (.con (.int i))
  | .Constant (.str x) _ _=>some (.con (.str x))
  | .Constant (.bool x) _ _=>some (.con (.bl x))
  | .Constant .none _ _=>some (.con .bo)
  | .Name x _=>match slot Γ x with
   | some i=>if Γ.δ==some i then none else if fm Γ i then some (.mvr i) else some (.var i)
   | none=>if yS (Γ.names.lookup x)&&eM x then(g.cons.lookup x).map .con else none
  | .BinOp a o b _=>(cE n g Γ a).bind λa'=>(cE n g Γ b).bind λb'=>some (.bin o a' b')
  | .UnaryOp .USub a _=>(cE n g Γ a).bind λa'=>some (.neg a')
  | .UnaryOp .Not a _=>(cE n g Γ a).bind λa'=>some (.nt a')
  | .BoolOp o vs _=>cB n g Γ o vs
  | .IfExp t a b _=>none
  | .Compare a [o] [b] _=>(cE n g Γ a).bind λa'=>(cE n g Γ b).bind λb'=>some (.cmp o a' b')
  | .Compare a [o,p] [b,c] _=>none
  | .Subscript a (.Slice (some l) none none _) _=>(cE n g Γ a).bind λa'=>(cE n g Γ l).bind λl'=>some (.sliL a' l')
  | .Subscript a (.Slice none (some h) none _) _=>(cE n g Γ a).bind λa'=>(cE n g Γ h).bind λh'=>some (.sliH a' h')
  | .Subscript a (.Slice (some l) (some h) none _) _=>none
  | .Subscript a b _=>(cE n g Γ a).bind λa'=>(cE n g Γ b).bind λb'=>some (.idx a' b')
  | .Tuple es _ _=>(wc n g Γ es).bind λde=>some (.tup de)
  | .List es _=>(wc n g Γ es).bind λde=>some (.lst de)
  | .Call (.Name f _) (a::as) [] _=>tv n g Γ f a as
  | .Call (.Attribute (.Name x _) m ap) [] [] pos=>none
  | .Call (.Attribute o m ap) [a] [] pos=>none
  | .ListComp elt [⟨tg,it,ifs,0⟩] sc _=>
   let b:=aY Γ sc
   if sc.kind== .function then(cI n g Γ tg it).bind λjL=>(sM b.1 tg).bind λkg=>(AC n g b.1 ifs).bind λoQ=>(cE n g b.1 elt).bind λe'=>
    if xf sc.names Γ.names b.1.N Γ.N b.2&&decide b.1.N.Nodup then some (.comp b.2 jL kg oQ e') else none
   else none
  | .ListComp elt [⟨tg,it,ifs,0⟩,⟨oN,jD,cz,0⟩] sc _=>
   let b:=aY Γ sc
   if sc.kind== .function then(cI n g Γ tg it).bind λjL=>(sM b.1 tg).bind λkg=>(AC n g b.1 ifs).bind λoQ=>(cI n g b.1 oN jD).bind λpI=>(sM b.1 oN).bind λlB=>(AC n g b.1 cz).bind λqj=>(cE n g b.1 elt).bind λe'=>
    if xf sc.names Γ.names b.1.N Γ.N b.2&&decide b.1.N.Nodup&&(aU lB).all (λi=> !(aU kg).contains i) then some (.mY b.2 jL kg oQ pI lB qj e') else none
   else none
  | _=>none
def wc:Nat->G->Gm->List Expr->Option Cs
 | 0,_,_,_=>none
 | n + 1,g,Γ,es=>match es with
  | []=>some .nil
  | e::es=>(cE n g Γ e).bind λe'=>(wc n g Γ es).bind λde=>some (.cons e' de)
def AC:Nat->G->Gm->List Expr->Option Cs
 | 0,_,_,_=>none
 | n + 1,g,Γ,es=>match es with
  | []=>some .nil
  | [e]=>(cE n g Γ e).bind λe'=>some (.cons e' .nil)
  | _=>none
def cB:Nat->G->Gm->BoolOp->List Expr->Option C
 | 0,_,_,_,_=>none
 | n + 1,g,Γ,o,es=>match es with
  | [e]=>cE n g Γ e
  | e::es=>(cE n g Γ e).bind λe'=>(cB n g Γ o es).bind λde=>some (match o with | .And=> .and e' de | .Or=> .or e' de)
  | []=>none
def cI:Nat->G->Gm->Expr->Expr->Option ql
 | 0,_,_,_,_=>none
 | n + 1,g,Γ,tg,e=>match e with
  | .Call (.Name f p) [a] [] q=>if f==("range":Str) then(if yS (Γ.names.lookup f)&&g.bls.contains f then(cE n g Γ a).bind λa'=>some (.rng1 a') else none)
   else if f==("enumerate":Str) then(match tg with
    | .Tuple ..=>if yS (Γ.names.lookup f)&&g.bls.contains f then(cE n g Γ a).bind λa'=>some (.enum a') else none
    | _=>none)
   else(cE n g Γ (.Call (.Name f p) [a] [] q)).bind λc=>some (.seq c)
  | .Call (.Name f p) [a,b] [] q=>if f==("range":Str) then(if yS (Γ.names.lookup f)&&g.bls.contains f then none else none)
   else if f==("zip":Str) then(match tg with
    | .Tuple ..=>if yS (Γ.names.lookup f)&&g.bls.contains f then(cE n g Γ a).bind λa'=>(cE n g Γ b).bind λb'=>some (.zip a' b') else none
    | _=>none)
   else(cE n g Γ (.Call (.Name f p) [a,b] [] q)).bind λc=>some (.seq c)
  | e=>(cE n g Γ e).bind λc=>some (.seq c)
def tv:Nat->G->Gm->Str->Expr->List Expr->Option C
 | 0,_,_,_,_,_=>none
 | n + 1,g,Γ,f,a,as=>if yS (Γ.names.lookup f)&&eM f then(match sU f g.fns with
  | some (k,np,fP,bc)=>if bc then(match a with
    | .Name x _=>match slot Γ x with
     | some i=>if Γ.δ==some i&&as.length + 1==np then none else none
     | none=>none
    | _=>none)
   else if as.length + 1<=np&&np - (as.length + 1)<=fP.length then(wc n g Γ (a::as)).bind λes=>some (.call k es (fP.drop (fP.length - (np - (as.length + 1))))) else none
  | none=>if g.bls.contains f then
    (if f==("len":Str)&&Kp Γ a&&as.isEmpty then none
    else if f==("isinstance":Str) then(match as with
     | [.Name t _]=>if yS (Γ.names.lookup t)&&g.bls.contains t then(rj t).bind λT=>(cE n g Γ a).bind λa'=>some (.bi (.isi T) (.cons a' .nil)) else none
     | _=>none)
    else match a,as with
     | .Call (.Name r _) [b] [] _,[]=>if r==("reversed":Str) then none
       else if r==("set":Str) then(if yS (Γ.names.lookup r)&&g.bls.contains r&&f==("sorted":Str) then(cE n g Γ b).bind λb'=>some (.bi .sset (.cons b' .nil)) else none)
       else(sv f (as.length + 1)).bind λi=>(wc n g Γ (a::as)).bind λes=>some (.bi i es)
     | .Call (.Name r _) [b,c] [] _,[]=>if r==("zip":Str) then(if yS (Γ.names.lookup r)&&g.bls.contains r&&f==("list":Str) then(wc n g Γ [b,c]).bind λes=>some (.bi .zipL es) else none)
       else(sv f (as.length + 1)).bind λi=>(wc n g Γ (a::as)).bind λes=>some (.bi i es)
     | _,_=>(sv f (as.length + 1)).bind λi=>(wc n g Γ (a::as)).bind λes=>some (.bi i es))
    else none)
  else none
end
section
variable {P:Program} {w:World} {K:Frag} {A B:Addr->Prop} {H:Hp} {s:Shared}
def elts (hok:eX P w H s.heap) {zV gT:List V} {i1 i2:List Dt} {cV aM:List Value} {R:Around} {n:Nat} (g1:aj K A H zV i1) (g2:aj K B H gT i2) (r1:aw zV cV) (r2:aw gT aM) (l1:cV.toArray.size=i1.length) (l2:aM.toArray.size=i2.length)
  (p1:jy i1=true) (p2:jy i2=true) (hd:mH i1<=n) (hu:R.in1.units + n < cLine) (j:Nat) (h1:j < cV.toArray.size) (h2:j < aM.toArray.size):EqAt R.in1 s cV.toArray[j] aM.toArray[j] (tG i1 i2 j):=by
 have gS:j < zV.length:=by rw[g1.length,<-l1];exact h1
 have mf:j < gT.length:=by rw[g2.length,<-l2];exact h2
 obtain⟨d,c1,c2⟩:=g1.get (i:=j) (x:=zV[j]) (by simp[gS]);obtain⟨e,k1,k2⟩:=g2.get (i:=j) (x:=gT[j]) (by simp[mf]);obtain⟨u,td,ru⟩:=r1.get (i:=j) (x:=zV[j]) (by simp[gS]);obtain⟨v,BL,rv⟩:=r2.get (i:=j) (x:=gT[j]) (by simp[mf]);have eu:cV.toArray[j]=u:=by simp only[List.getElem_toArray];exact(P0.mp td).2
 have ev:aM.toArray[j]=v:=by simp only[List.getElem_toArray];exact(P0.mp BL).2
 rw[eu,ev,show tG i1 i2 j=bC d e by unfold tG;rw[c1,k1]];exact B2 hok n d e zV[j] gT[j] u v R.in1 (Qa (kn c1) hd) (d4 p1 c1) (d4 p2 k1) hu c2 k2 ru rv
def HD (hok:eX P w H s.heap) (n:Nat) (d e:Dt) (x y:V) (u v:Value) (R:Around) (hd:dp d<=n + 1) (jr:pl d=true) (fA:pl e=true) (hu:R.units + n + 1 < cLine) (hx:RV K A H x d) (hy:RV K B H y e) (rx:RelV x u) (ry:RelV y v):RcAt R s u v (bC d e):=by
 cases d with
 | bo=>
  have:=hx.aA;subst this;cases rx;cases e with
  | bo=>have:=hy.aA;subst this;cases ry;exact RcAt.none_none
  | bl i2=>have:=hy.aE;subst this;cases ry;exact RcAt.none_bool i2
  | int i2=>have:=hy.int_inv;subst this;obtain⟨t2,rfl⟩:=ry;exact RcAt.none_int i2 t2
  | str i2=>have:=hy.str_inv;subst this;obtain⟨t2,rfl⟩:=ry;exact RcAt.none_str i2 t2
  | tup i2=>obtain⟨a2,gT,q2,f2,g2⟩:=hy.af;subst q2;cases ry;obtain⟨aM,r2,cm⟩:=Mx.ay hok f2;exact RcAt.none_tuple cm (by omega)
  | lst i2=>obtain⟨a2,gT,q2,f2,_,g2⟩:=hy.lst_inv;subst q2;cases ry;obtain⟨aM,r2,cm⟩:=aN hok f2;exact RcAt.none_list cm (by omega)
  | _=>simp[pl] at fA
 | bl i1=>
  have:=hx.aE;subst this;cases rx;cases e with
  | bo=>have:=hy.aA;subst this;cases ry;exact RcAt.bool_none i1
  | bl i2=>have:=hy.aE;subst this;cases ry;exact RcAt.bool_bool i1 i2
  | int i2=>have:=hy.int_inv;subst this;obtain⟨t2,rfl⟩:=ry;exact RcAt.bool_int i1 i2 t2
  | str i2=>have:=hy.str_inv;subst this;obtain⟨t2,rfl⟩:=ry;exact RcAt.bool_str i1 i2 t2
  | tup i2=>obtain⟨a2,gT,q2,f2,g2⟩:=hy.af;subst q2;cases ry;obtain⟨aM,r2,cm⟩:=Mx.ay hok f2;exact RcAt.bool_tuple i1 cm (by omega)
  | lst i2=>obtain⟨a2,gT,q2,f2,_,g2⟩:=hy.lst_inv;subst q2;cases ry;obtain⟨aM,r2,cm⟩:=aN hok f2;exact RcAt.bool_list i1 cm (by omega)
  | _=>simp[pl] at fA
 | int i1=>
  have:=hx.int_inv;subst this;obtain⟨t1,rfl⟩:=rx;cases e with
  | bo=>have:=hy.aA;subst this;cases ry;exact RcAt.int_none i1 t1
  | bl i2=>have:=hy.aE;subst this;cases ry;exact RcAt.int_bool i1 t1 i2
  | int i2=>have:=hy.int_inv;subst this;obtain⟨t2,rfl⟩:=ry;exact RcAt.int_int i1 t1 i2 t2
  | str i2=>have:=hy.str_inv;subst this;obtain⟨t2,rfl⟩:=ry;exact RcAt.int_str i1 t1 i2 t2
  | tup i2=>obtain⟨a2,gT,q2,f2,g2⟩:=hy.af;subst q2;cases ry;obtain⟨aM,r2,cm⟩:=Mx.ay hok f2;exact RcAt.int_tuple i1 t1 cm (by omega)
  | lst i2=>obtain⟨a2,gT,q2,f2,_,g2⟩:=hy.lst_inv;subst q2;cases ry;obtain⟨aM,r2,cm⟩:=aN hok f2;exact RcAt.int_list i1 t1 cm (by omega)
  | _=>simp[pl] at fA
 | str i1=>
  have:=hx.str_inv;subst this;obtain⟨t1,rfl⟩:=rx;cases e with
  | bo=>have:=hy.aA;subst this;cases ry;exact RcAt.str_none i1 t1
  | bl i2=>have:=hy.aE;subst this;cases ry;exact RcAt.str_bool i1 t1 i2
  | int i2=>have:=hy.int_inv;subst this;obtain⟨t2,rfl⟩:=ry;exact RcAt.str_int i1 t1 i2 t2
  | str i2=>have:=hy.str_inv;subst this;obtain⟨t2,rfl⟩:=ry;exact RcAt.str_str i1 t1 i2 t2
  | tup i2=>obtain⟨a2,gT,q2,f2,g2⟩:=hy.af;subst q2;cases ry;obtain⟨aM,r2,cm⟩:=Mx.ay hok f2;exact RcAt.str_tuple i1 t1 cm (by omega)
  | lst i2=>obtain⟨a2,gT,q2,f2,_,g2⟩:=hy.lst_inv;subst q2;cases ry;obtain⟨aM,r2,cm⟩:=aN hok f2;exact RcAt.str_list i1 t1 cm (by omega)
  | _=>simp[pl] at fA
 | tup i1=>
  obtain⟨a1,zV,q1,f1,g1⟩:=hx.af;subst q1;cases rx;obtain⟨cV,r1,hJ⟩:=Mx.ay hok f1;cases e with
  | bo=>have:=hy.aA;subst this;cases ry;exact RcAt.tuple_none hJ (by omega)
  | bl i2=>have:=hy.aE;subst this;cases ry;exact RcAt.tuple_bool i2 hJ (by omega)
  | int i2=>have:=hy.int_inv;subst this;obtain⟨t2,rfl⟩:=ry;exact RcAt.tuple_int i2 t2 hJ (by omega)
  | str i2=>have:=hy.str_inv;subst this;obtain⟨t2,rfl⟩:=ry;exact RcAt.tuple_str i2 t2 hJ (by omega)
  | tup i2=>
   obtain⟨a2,gT,q2,f2,g2⟩:=hy.af;subst q2;cases ry;obtain⟨aM,r2,cm⟩:=Mx.ay hok f2;have l1:cV.toArray.size=i1.length:=by rw[PY,<-r1.length,g1.length]
   have l2:aM.toArray.size=i2.length:=by rw[PY,<-r2.length,g2.length]
   have key:=RcAt.tuples (A:=R) (e:=tG i1 i2) hJ cm (by omega) (elts hok g1 g2 r1 r2 l1 l2 (by simpa [pl] using jr) (by simpa [pl] using fA) (n:=n) (by unfold dp at hd;omega) (by show R.units + 1 + n < cLine;omega));have q:=cW i1 i2;rw[<-l1,<-l2] at q;rw[q] at key;exact key
  | lst i2=>obtain⟨a2,gT,q2,f2,_,g2⟩:=hy.lst_inv;subst q2;cases ry;obtain⟨aM,r2,cm⟩:=aN hok f2;exact RcAt.tuple_list hJ cm (by omega)
  | _=>simp[pl] at fA
 | lst i1=>
  obtain⟨a1,zV,q1,f1,_,g1⟩:=hx.lst_inv;subst q1;cases rx;obtain⟨cV,r1,hJ⟩:=aN hok f1;cases e with
  | bo=>have:=hy.aA;subst this;cases ry;exact RcAt.list_none hJ (by omega)
  | bl i2=>have:=hy.aE;subst this;cases ry;exact RcAt.list_bool i2 hJ (by omega)
  | int i2=>have:=hy.int_inv;subst this;obtain⟨t2,rfl⟩:=ry;exact RcAt.list_int i2 t2 hJ (by omega)
  | str i2=>have:=hy.str_inv;subst this;obtain⟨t2,rfl⟩:=ry;exact RcAt.list_str i2 t2 hJ (by omega)
  | tup i2=>obtain⟨a2,gT,q2,f2,g2⟩:=hy.af;subst q2;cases ry;obtain⟨aM,r2,cm⟩:=Mx.ay hok f2;exact RcAt.list_tuple hJ cm (by omega)
  | lst i2=>
   obtain⟨a2,gT,q2,f2,_,g2⟩:=hy.lst_inv;subst q2;cases ry;obtain⟨aM,r2,cm⟩:=aN hok f2;have l1:cV.toArray.size=i1.length:=by rw[PY,<-r1.length,g1.length]
   have l2:aM.toArray.size=i2.length:=by rw[PY,<-r2.length,g2.length]
   have q:=cW i1 i2;by_cases hl:i1.length=i2.length
   ·have key:=RcAt.lists (A:=R) (e:=tG i1 i2) hJ cm (by omega) (by omega) (elts hok g1 g2 r1 r2 l1 l2 (by simpa [pl] using jr) (by simpa [pl] using fA) (n:=n) (by unfold dp at hd;omega) (by show R.units + 1 + n < cLine;omega));rw[hl,Nat.min_self,beq_self_eq_true,Bool.and_true] at q;rw[l1,hl,q] at key;exact key
   ·have key:=RcAt.lists_lengths (A:=R) hJ cm (by rw[l1,l2];simpa using hl) (by omega);have hb:(i1.length==i2.length)=false:=by simpa using hl
    rw[hb,Bool.and_false] at q;show RcAt R s _ _ (bU i1 i2);rw[<-q];exact key
  | _=>simp[pl] at fA
 | _=>simp[pl] at jr
def AW (hok:eX P w H s.heap) (n:Nat) (d e:Dt) (x y:V) (u v:Value) (R:Around) (hd:dp d<=n + 1) (jr:pl d=true) (fA:pl e=true) (hu:R.units + n + 1 < cLine) (hx:RV K A H x d) (hy:RV K B H y e) (rx:RelV x u) (ry:RelV y v):RcNeAt R s u v (!bC d e):=by
 cases d with
 | bo=>
  have:=hx.aA;subst this;cases rx;cases e with
  | bo=>have:=hy.aA;subst this;cases ry;exact RcNeAt.none_none
  | bl i2=>have:=hy.aE;subst this;cases ry;exact RcNeAt.none_bool i2
  | int i2=>have:=hy.int_inv;subst this;obtain⟨t2,rfl⟩:=ry;exact RcNeAt.none_int i2 t2
  | str i2=>have:=hy.str_inv;subst this;obtain⟨t2,rfl⟩:=ry;exact RcNeAt.none_str i2 t2
  | tup i2=>obtain⟨a2,gT,q2,f2,g2⟩:=hy.af;subst q2;cases ry;obtain⟨aM,r2,cm⟩:=Mx.ay hok f2;exact RcNeAt.none_tuple cm (by omega)
  | lst i2=>obtain⟨a2,gT,q2,f2,_,g2⟩:=hy.lst_inv;subst q2;cases ry;obtain⟨aM,r2,cm⟩:=aN hok f2;exact RcNeAt.none_list cm (by omega)
  | _=>simp[pl] at fA
 | bl i1=>
  have:=hx.aE;subst this;cases rx;cases e with
  | bo=>have:=hy.aA;subst this;cases ry;exact RcNeAt.bool_none i1
  | bl i2=>have:=hy.aE;subst this;cases ry;exact RcNeAt.bool_bool i1 i2
  | int i2=>have:=hy.int_inv;subst this;obtain⟨t2,rfl⟩:=ry;exact RcNeAt.bool_int i1 i2 t2
  | str i2=>have:=hy.str_inv;subst this;obtain⟨t2,rfl⟩:=ry;exact RcNeAt.bool_str i1 i2 t2
  | tup i2=>obtain⟨a2,gT,q2,f2,g2⟩:=hy.af;subst q2;cases ry;obtain⟨aM,r2,cm⟩:=Mx.ay hok f2;exact RcNeAt.bool_tuple i1 cm (by omega)
  | lst i2=>obtain⟨a2,gT,q2,f2,_,g2⟩:=hy.lst_inv;subst q2;cases ry;obtain⟨aM,r2,cm⟩:=aN hok f2;exact RcNeAt.bool_list i1 cm (by omega)
  | _=>simp[pl] at fA
 | int i1=>
  have:=hx.int_inv;subst this;obtain⟨t1,rfl⟩:=rx;cases e with
  | bo=>have:=hy.aA;subst this;cases ry;exact RcNeAt.int_none i1 t1
  | bl i2=>have:=hy.aE;subst this;cases ry;exact RcNeAt.int_bool i1 t1 i2
  | int i2=>have:=hy.int_inv;subst this;obtain⟨t2,rfl⟩:=ry;exact RcNeAt.int_int i1 t1 i2 t2
  | str i2=>have:=hy.str_inv;subst this;obtain⟨t2,rfl⟩:=ry;exact RcNeAt.int_str i1 t1 i2 t2
  | tup i2=>obtain⟨a2,gT,q2,f2,g2⟩:=hy.af;subst q2;cases ry;obtain⟨aM,r2,cm⟩:=Mx.ay hok f2;exact RcNeAt.int_tuple i1 t1 cm (by omega)
  | lst i2=>obtain⟨a2,gT,q2,f2,_,g2⟩:=hy.lst_inv;subst q2;cases ry;obtain⟨aM,r2,cm⟩:=aN hok f2;exact RcNeAt.int_list i1 t1 cm (by omega)
  | _=>simp[pl] at fA
 | str i1=>
  have:=hx.str_inv;subst this;obtain⟨t1,rfl⟩:=rx;cases e with
  | bo=>have:=hy.aA;subst this;cases ry;exact RcNeAt.str_none i1 t1
  | bl i2=>have:=hy.aE;subst this;cases ry;exact RcNeAt.str_bool i1 t1 i2
  | int i2=>have:=hy.int_inv;subst this;obtain⟨t2,rfl⟩:=ry;exact RcNeAt.str_int i1 t1 i2 t2
  | str i2=>have:=hy.str_inv;subst this;obtain⟨t2,rfl⟩:=ry;exact RcNeAt.str_str i1 t1 i2 t2
  | tup i2=>obtain⟨a2,gT,q2,f2,g2⟩:=hy.af;subst q2;cases ry;obtain⟨aM,r2,cm⟩:=Mx.ay hok f2;exact RcNeAt.str_tuple i1 t1 cm (by omega)
  | lst i2=>obtain⟨a2,gT,q2,f2,_,g2⟩:=hy.lst_inv;subst q2;cases ry;obtain⟨aM,r2,cm⟩:=aN hok f2;exact RcNeAt.str_list i1 t1 cm (by omega)
  | _=>simp[pl] at fA
 | tup i1=>
  obtain⟨a1,zV,q1,f1,g1⟩:=hx.af;subst q1;cases rx;obtain⟨cV,r1,hJ⟩:=Mx.ay hok f1;cases e with
  | bo=>have:=hy.aA;subst this;cases ry;exact RcNeAt.tuple_none hJ (by omega)
  | bl i2=>have:=hy.aE;subst this;cases ry;exact RcNeAt.tuple_bool i2 hJ (by omega)
  | int i2=>have:=hy.int_inv;subst this;obtain⟨t2,rfl⟩:=ry;exact RcNeAt.tuple_int i2 t2 hJ (by omega)
  | str i2=>have:=hy.str_inv;subst this;obtain⟨t2,rfl⟩:=ry;exact RcNeAt.tuple_str i2 t2 hJ (by omega)
  | tup i2=>
   obtain⟨a2,gT,q2,f2,g2⟩:=hy.af;subst q2;cases ry;obtain⟨aM,r2,cm⟩:=Mx.ay hok f2;have l1:cV.toArray.size=i1.length:=by rw[PY,<-r1.length,g1.length]
   have l2:aM.toArray.size=i2.length:=by rw[PY,<-r2.length,g2.length]
   have key:=RcNeAt.tuples (A:=R) (e:=tG i1 i2) hJ cm (by omega) (elts hok g1 g2 r1 r2 l1 l2 (by simpa [pl] using jr) (by simpa [pl] using fA) (n:=n) (by unfold dp at hd;omega) (by show R.units + 1 + n < cLine;omega));have q:=cW i1 i2;rw[<-l1,<-l2] at q;rw[q] at key;exact key
  | lst i2=>obtain⟨a2,gT,q2,f2,_,g2⟩:=hy.lst_inv;subst q2;cases ry;obtain⟨aM,r2,cm⟩:=aN hok f2;exact RcNeAt.tuple_list hJ cm (by omega)
  | _=>simp[pl] at fA
 | lst i1=>
  obtain⟨a1,zV,q1,f1,_,g1⟩:=hx.lst_inv;subst q1;cases rx;obtain⟨cV,r1,hJ⟩:=aN hok f1;cases e with
  | bo=>have:=hy.aA;subst this;cases ry;exact RcNeAt.list_none hJ (by omega)
  | bl i2=>have:=hy.aE;subst this;cases ry;exact RcNeAt.list_bool i2 hJ (by omega)
  | int i2=>have:=hy.int_inv;subst this;obtain⟨t2,rfl⟩:=ry;exact RcNeAt.list_int i2 t2 hJ (by omega)
  | str i2=>have:=hy.str_inv;subst this;obtain⟨t2,rfl⟩:=ry;exact RcNeAt.list_str i2 t2 hJ (by omega)
  | tup i2=>obtain⟨a2,gT,q2,f2,g2⟩:=hy.af;subst q2;cases ry;obtain⟨aM,r2,cm⟩:=Mx.ay hok f2;exact RcNeAt.list_tuple hJ cm (by omega)
  | lst i2=>
   obtain⟨a2,gT,q2,f2,_,g2⟩:=hy.lst_inv;subst q2;cases ry;obtain⟨aM,r2,cm⟩:=aN hok f2;have l1:cV.toArray.size=i1.length:=by rw[PY,<-r1.length,g1.length]
   have l2:aM.toArray.size=i2.length:=by rw[PY,<-r2.length,g2.length]
   have q:=cW i1 i2;by_cases hl:i1.length=i2.length
   ·have key:=RcNeAt.lists (A:=R) (e:=tG i1 i2) hJ cm (by omega) (by omega) (elts hok g1 g2 r1 r2 l1 l2 (by simpa [pl] using jr) (by simpa [pl] using fA) (n:=n) (by unfold dp at hd;omega) (by show R.units + 1 + n < cLine;omega));rw[hl,Nat.min_self,beq_self_eq_true,Bool.and_true] at q;rw[l1,hl,q] at key;exact key
   ·have key:=RcNeAt.lists_lengths (A:=R) hJ cm (by rw[l1,l2];simpa using hl) (by omega);have hb:(i1.length==i2.length)=false:=by simpa using hl
    rw[hb,Bool.and_false] at q;show RcNeAt R s _ _ (!bU i1 i2);rw[<-q];exact key
  | _=>simp[pl] at fA
 | _=>simp[pl] at jr
end
end Rx
end
section
namespace HT
open PySem PyProof.Rows
section
variable {prog:Program} {w:World} {A:Around} {E:Value->Shared->Prop} {s:Shared}
def gg {t sl:Addr} {items:Array Value} {vl vu:Value} {lo hi:Option Int} {Q:Value->Shared->Prop} (ht:IsTup s.heap t items) (hs:s.heap.IsSliceOf sl vl vu .none) (pl:IsPart vl lo) (pu:IsPart vu hi)
  (hw:bQ items.size 0 lo=0/\bQ items.size items.size hi=items.size) (h:Q (.ref t) s) (gY:items.size<=sizeLine):wpAny (model prog w) A (getItem (.ref t) (.ref sl)) Q E s:=by
 obtain⟨os,Dj,AE,wO⟩:=id hs;have LL:s.TypeIs (.ref sl) "slice":=⟨os,Dj,AE⟩;unfold getItem
 try with_reducible refine wpAny_holding ?_
 first | refine PP (PV ?_) | skip
 refine PP (wpAny_sequenceKey ht.typeIs (by decide) ?_);refine PP (wpAny_callSpecial?_slot (name:=Str.ofString "__getitem__") ht.typeIs PyProof.Rows.slot_tuple_getitem
  (wpAny_call_entry PyProof.Rows.slot_tuple_getitem ht.typeIs entry_tuple_getitem ?_ (args_tuple_getitem _ _)))
 show wpAny _ _ (Builtin.Tuple.tupleItemsOf (.ref t) >>=_) _ _ s;refine PP (tupleItemsOf_ ht ?_);refine PP (wpAny_typeOf LL ?_);rw[if_pos (by decide)];refine PP (eA hs pl pu ?_);show wpAny _ _ (if (((bQ items.size 0 lo:Nat):Int)==0&&(1:Int)==1&&(bQ items.size items.size hi - bQ items.size 0 lo)==items.size)=true then _ else _) _ _ s;rw[if_pos (by rw[hw.1,hw.2];simp)];refine PP (PP (wpAny_typeOf ht.typeIs (PV ?_)));rw[if_pos (by decide)];refine PP (wpAny_rule ?_);exact PV ⟨_,rfl,PV h⟩
end
end HT
namespace Rx
open PySem PySem.W PySem.Spec PyProof.Rows L2 PySem.SeqAt
abbrev N0:Addr->Prop:=λ_=>False
def ff (K:Frag) (A:Addr->Prop) (H:Hp) (v:V):Dt->Prop
 | .lst ds=>∃a xs,v= .ref a/\H a=some (.lst xs)/\aj K A H xs ds
 | d=>RV K A H v d
def lK (K:Frag) (A:Addr->Prop) (H:Hp):List V->List Dt->Prop
 | [],[]=>True
 | x::xs,d::ds=>ff K A H x d/\lK K A H xs ds
 | _,_=>False
section
variable {K:Frag} {A B:Addr->Prop} {H H':Hp}
def RV.one {v d} (h:RV K A H v d):ff K A H v d:=by
 cases d with
 | lst ds=>obtain⟨a,xs,h1,h2,_,h3⟩:=h.lst_inv;exact⟨a,xs,h1,h2,h3⟩
 | _=>exact h
def ff.ext {X:Addr->Prop} {v d} (h:ff K A H v d) (e:aX X H H') (hX:∀b,X b->A b) (hv:∀ds a,d= .lst ds->v= .ref a->¬X a):ff K A H' v d:=by
 cases d with
 | lst ds=>obtain⟨a,xs,h1,h2,h3⟩:=h;exact⟨a,xs,h1,e.kp _ _ h2 (hv ds a rfl h1),h3.mono e hX λ_ z=>z⟩
 | _=>exact RV.mono e hX (λ_ z=>z) h
def aj.ones:∀{vs ds},aj K A H vs ds->lK K A H vs ds
 | [],[],_=>trivial
 | [],_::_,h=>by unfold aj at h;exact h.elim
 | _::_,[],h=>by unfold aj at h;exact h.elim
 | _::_,_::_,h=>by unfold aj at h;exact⟨h.1.one,h.2.ones⟩
end
structure PR (K:Frag) (fr:Bool) (xs:List V) (ds:List Dt) (H:Hp) (d:Dt) (v:V) (H':Hp):Prop where
 same:bD H H'
 val:∀A:Addr->Prop,(∀a,A a->∃o,H a=some o)->lK K A H xs ds->RV K A H' v d
 fu:fr=true->∀es,d= .lst es->∃a ys,v= .ref a/\H a=none/\H' a=some (.lst ys)/\∀A:Addr->Prop,(∀a,A a->∃o,H a=some o)->lK K A H xs ds->aj K (λb=>A b\/b=a) H' ys es
def rP (K:Frag) (fr:Bool) (f:List Dt->R Dt):List V->Hp->VK->Prop:=λxs H Q=>∃ds d,aj K N0 H xs ds/\f ds= .ok d/\∀v H',PR K fr xs ds H d v H'->Q v H'
section
variable {K:Frag} {fr:Bool} {xs:List V} {ds:List Dt} {H H':Hp} {d:Dt} {v:V}
def oP:Dt->Bool
 | .bo | .bl _ | .int _ | .str _=>true
 | _=>false
def qK:Dt->V
 | .bl b=> .bl b
 | .int b=> .int b
 | .str b=> .str b
 | _=> .bo
def p6 {A:Addr->Prop} (h:oP d=true):RV K A H (qK d) d:=by
 cases d with
 | bo=>exact RV.gR
 | bl b=>exact RV.qa
 | int b=>exact RV.dG
 | str b=>exact RV.i8
 | _=>simp[oP] at h
def PR.sc (h:oP d=true):PR K fr xs ds H d (qK d) H:=⟨bD.refl _,λA _ _=>p6 h,λ_ es e=>by subst e;simp[oP] at h⟩
def PR.nC {p:Addr} {ys:List V} {es:List Dt} (hp:H p=none) (h:∀A:Addr->Prop,lK K A H xs ds->aj K A H ys es):PR K fr xs ds H (.lst es) (.ref p) (upd H p (.lst ys)):=by
 have s:=Mx.cD hp (.lst ys);refine⟨s,λA hA q=>RV.eY aC (λz=>?_) ((h A q).same s),λ_ de e=>?_⟩
 ·obtain⟨o,e⟩:=hA p z;rw[hp] at e;cases e
 ·cases e;exact⟨p,ys,rfl,hp,aC,λA hA q=>((h A q).avoid hp).same s⟩
def PR.E1 {p:Addr} {ys:List V} {es:List Dt} (hp:H p=none) (h:∀A:Addr->Prop,lK K A H xs ds->aj K A H ys es):PR K fr xs ds H (.tup es) (.ref p) (upd H p (.tup ys)):=by have s:=Mx.cD hp (.tup ys);exact⟨s,λA hA q=>RV.dg aC ((h A q).same s),λ_ de e=>by cases e⟩
def PR.uk {p:Addr} {ys:List V} {es:List Dt} (hp:H p=some (.tup ys)) (h:∀A:Addr->Prop,lK K A H xs ds->aj K A H ys es):PR K fr xs ds H (.tup es) (.ref p) H:=
 ⟨bD.refl _,λA hA q=>RV.dg hp (h A q),λ_ de e=>by cases e⟩
def bX:lim<=sizeLine:=by rw[sizeLine_eq];decide
def aR {b:Bool} {α:Type} {r:R α} {a:α} (h:ag b r= .ok a):b=true/\r= .ok a:=by
 cases b with
 | true=>exact⟨rfl,h⟩
 | false=>cases h
def ff.aN {A:Addr->Prop} {a:Addr} {xs:List V} {es:List Dt} (h:ff K A H (.ref a) (.lst es)) (e:H a=some (.lst xs)):aj K A H xs es:=by obtain⟨b,ys,q,h1,h2⟩:=h;cases q;rw[e] at h1;cases h1;exact h2
def ff.ay {A:Addr->Prop} {a:Addr} {xs:List V} {es:List Dt} (h:ff K A H (.ref a) (.tup es)) (e:H a=some (.tup xs)):aj K A H xs es:=by grind [RV.af,V,Dt,ff,aj]
end
section
variable {X:Cx}
def r2 (K:Frag) (f:Dt->Dt->R Dt):R2:=λx y H Q=>∃d e z,RV K N0 H x d/\RV K N0 H y e/\f d e= .ok z/\∀v H',PR K true [x,y] [d,e] H z v H'->Q v H'
def l9 {i:Int} (h:i.natAbs < 2 ^ 64): -(2 ^ 64) < i/\i < 2 ^ 64:=by omega
def E8:jW X (binaryOp .FloorDiv) (rI (λ_ j=>0 < j/\j.natAbs.log2 < 9000) λi j=> .int (i / j)):=IE λi j _ _ _ _ _ hc q=>by have h1:(0:Int) < j:=hc.1;exact floordiv_int (by omega) (by rw[Int.fdiv_eq_ediv_of_nonneg i (by omega)];exact q) (.inl (PyProof.noPylong_of_log2 hc.2))
def EK (o:Operator):jW X (binaryOp o) (r2 X.K (nh o)):=by
 intro pins s σ H x y v u Q I rx ry h;obtain⟨d,e,z,hx,hy,he,q⟩:=h;have Fz:=bX;unfold nh at he;split at he
 ·rename_i i j;cases he;exact CW pins s σ H x y v u Q I rx ry ⟨i,j,hx.int_inv,hy.int_inv,q _ _ (PR.sc (d:= .int _) rfl)⟩
 ·rename_i i j;obtain⟨g,he⟩:=aR he;cases he;exact sN pins s σ H x y v u Q I rx ry ⟨i,j,hx.str_inv,hy.str_inv,Qa (PZ g) Fz,q _ _ (PR.sc (d:= .str _) rfl)⟩
 ·rename_i i j;obtain⟨g,he⟩:=aR he;cases he;obtain⟨a,xs,rfl,h1,_,h2⟩:=hx.lst_inv;obtain⟨b,ys,rfl,k1,_,k2⟩:=hy.lst_inv;refine fJ pins s σ H _ _ v u Q I rx ry ⟨a,b,xs,ys,rfl,rfl,h1,k1,?_,λp hp=>q _ _ (PR.nC hp λA w=>?_)⟩
  ·rw[h2.length,k2.length];exact Qa (PZ g) Fz
  ·exact(ff.aN w.1 h1).append (ff.aN w.2.1 k1)
 ·rename_i i j;obtain⟨g,he⟩:=aR he;cases he;obtain⟨a,xs,rfl,h1,h2⟩:=hx.af;obtain⟨b,ys,rfl,k1,k2⟩:=hy.af;by_cases hd:xs=[]
  ·subst hd;cases h2.dJ;cases rx;cases ry;obtain⟨its,r1,p1,_⟩:=I.tuple (eW.of h1);obtain⟨aM,r2,p2,_⟩:=I.tuple (eW.of k1);cases r1;obtain⟨⟨cls,dd,data,sl⟩,ho,hc,n,A0⟩:=p1;obtain⟨⟨HW,zH,data2,wj⟩,oV,vw,n2,rM⟩:=p2;simp only at hc A0 vw rM;subst hc A0 vw rM;exact concat_meets ⟨_,ho,rfl⟩ ⟨_,oV,rfl⟩ noFill_tuple_add seq_tuple_add PySem.F.slot_tuple_add PySem.F.entry_tuple_add (PySem.F.args_tuple_add_2 _ _)
    (Mx.tuple_addW0 a b _ _ n n2 dd zH sl wj rfl) ⟨ho,oV,⟨.ref b,H,I,rfl,q _ _ (PR.uk k1 λA w=>ff.ay w.2.1 k1)⟩⟩
  ·refine jK pins s σ H (.ref a) (.ref b) v u Q I rx ry ⟨a,b,xs,ys,rfl,rfl,eW.of h1,eW.of k1,hd,?_,λe=>?_,λe p hp=>?_⟩
   ·rw[h2.length,k2.length];exact Qa (PZ g) Fz
   ·subst e;cases k2.dJ;rw[QC] at q;exact q _ _ (PR.uk h1 λA w=>ff.ay w.1 h1)
   ·exact q _ _ (PR.E1 hp λA w=>(ff.ay w.1 h1).append (ff.ay w.2.1 k1))
 ·rename_i i j;cases he;exact C2 pins s σ H x y v u Q I rx ry ⟨i,j,hx.int_inv,hy.int_inv,q _ _ (PR.sc (d:= .int _) rfl)⟩
 ·rename_i i j;obtain⟨g,he⟩:=aR he;cases he;refine Di pins s σ H x y v u Q I rx ry ⟨i,j,hx.int_inv,hy.int_inv,?_,q _ _ (PR.sc (d:= .int _) rfl)⟩;rw[QD] at g;rcases g with g | g
  ·exact .inl (l9 (PZ g))
  ·exact .inr (l9 (PZ g))
 ·rename_i i j;obtain⟨g,he⟩:=aR he;cases he;obtain⟨a,xs,rfl,h1,_,h2⟩:=hx.lst_inv;rw[PX] at g;have g1:=PZ g.1;have g2:=PZ g.2;have cP:lim=1000000:=rfl;refine EZ pins s σ H _ _ v u Q I rx ry ⟨a,j,xs,rfl,hy.int_inv,h1,by omega,by omega,?_,λp hp=>q _ _ (PR.nC hp λA w=>?_)⟩
  ·rw[h2.length];exact Qa g2 Fz
  ·exact(ff.aN w.1 h1).rep _
 ·rename_i i j;obtain⟨g,he⟩:=aR he;cases he;rw[PX] at g;exact E8 pins s σ H x y v u Q I rx ry ⟨i,j,hx.int_inv,hy.int_inv,⟨PZ g.1,PZ g.2⟩,q _ _ (PR.sc (d:= .int _) rfl)⟩
 ·rename_i i j;obtain⟨g,he⟩:=aR he;cases he;exact D2 pins s σ H x y v u Q I rx ry ⟨i,j,hx.int_inv,hy.int_inv,PZ g,q _ _ (PR.sc (d:= .int _) rfl)⟩
 ·rename_i i j;obtain⟨g,he⟩:=aR he;cases he;rw[PX,PX] at g;have g1:=PZ g.1.1;have g2:=PZ g.1.2;have g3:=PZ g.2;exact DT pins s σ H x y v u Q I rx ry ⟨i,j,hx.int_inv,hy.int_inv,⟨g1,by omega,g3⟩,q _ _ (PR.sc (d:= .int _) rfl)⟩
 ·cases he
def rC (K:Frag) (o:CmpOp):R2:=λx y H Q=>∃d e z,RV K N0 H x d/\RV K N0 H y e/\c8 o d e= .ok z/\Q (.bl z) H
def jP {pins:List (Addr×Obj)} {s:Shared} {σ:L2.St} {H:Hp} {K:Frag} (I:Inv X pins σ H s) (hu:X.A.units + 150 < cLine) {xs:List V} {ds:List Dt} {its:List Value} {x:V} {u:Value} {d:Dt} (r:aw xs its) (g:aj K N0 H xs ds) (rx:RelV x u) (hx:RV K N0 H x d) (p1:pl d=true) (p2:jy ds=true) (hd:mH ds<=100):
  ∃e:Value->Bool,(∀y,y∈its.toArray->EqAt X.A.in1 s y u (e y))/\its.toArray.any e=inD d ds:=by
 classical
 let e:Value->Bool:=λy=>decide (∃(j:Nat) (d':Dt),its[j]?=some y/\ds[j]?=some d'/\bC d' d=true)
 have key:∀(j:Nat) (y:Value) (d':Dt),its[j]?=some y->ds[j]?=some d'->e y=bC d' d:=λj y d' h1 h2=>by
  rw[Bool.eq_iff_iff];constructor
  ·intro h;obtain⟨j',PN,k1,k2,k3⟩:=PZ h;have hj:j < xs.length:=by rw[r.length];exact(P0.mp h1).1
   have vR:j' < xs.length:=by rw[r.length];exact(P0.mp k1).1
   obtain⟨u1,a1,a2⟩:=r.get (i:=j) (x:=xs[j]) (by simp[hj]);obtain⟨u2,b1,b2⟩:=r.get (i:=j') (x:=xs[j']) (by simp[vR]);rw[h1] at a1;cases a1;rw[k1] at b1;cases b1;have ex:=RelV.inj a2 b2;obtain⟨d1,c1,c2⟩:=g.get (i:=j) (x:=xs[j]) (by simp[hj]);obtain⟨d2,e1,e2⟩:=g.get (i:=j') (x:=xs[j']) (by simp[vR]);rw[h2] at c1;cases c1;rw[k2] at e1;cases e1;rw[<-ex] at e2;rw[RV.inj c2 e2 (d4 p2 h2) (d4 p2 k2)];exact k3
  ·intro h;exact Qs ⟨j,d',h1,h2,h⟩
 refine⟨e,λy hy=>?_,?_⟩
 ·obtain⟨j,hj⟩:=List.mem_iff_getElem?.mp (by simpa using hy:y∈its);have Mi:j < xs.length:=by rw[r.length];exact(P0.mp hj).1
  obtain⟨d',h1,h2⟩:=g.get (i:=j) (x:=xs[j]) (by simp[Mi]);obtain⟨u1,a1,a2⟩:=r.get (i:=j) (x:=xs[j]) (by simp[Mi]);rw[hj] at a1;cases a1;rw[key j y d' hj h1];exact B2 I.hok 100 d' d xs[j] x y u X.A.in1 (Qa (kn h1) hd) (d4 p2 h1) p1 (by show X.A.units + 1 + 100 < cLine;omega) h2 hx a2 rx
 ·rw[List.any_toArray];unfold inD;have hlen:its.length=ds.length:=by rw[<-r.length,g.length]
  clear_value e
  clear r g p2 hd
  induction its generalizing ds with
  | nil=>
   cases ds with
   | nil=>rfl
   | cons=>simp at hlen
  | cons y ys ih=>
   cases ds with
   | nil=>simp at hlen
   | cons d' vd=>rw[List.any_cons,List.any_cons,key 0 y d' rfl rfl,ih (λj y d' h1 h2=>key (j + 1) y d' (by simpa using h1) (by simpa using h2)) (by simpa using hlen)]
def yJ (o:CmpOp) (hu:X.A.units + 150 < cLine):jW X (compareOp o) (rC X.K o):=by
 intro pins s σ H x y v u Q I rx ry h;obtain⟨d,e,z,hx,hy,he,q⟩:=h;unfold c8 at he;split at he
 ·obtain⟨g,he⟩:=aR he;cases he;unfold f9 at g;rw[PX,PX] at g;exact HD I.hok 100 d e x y v u X.A (Nat.le_succ_of_le (PZ g.2)) g.1.1 g.1.2 (by omega) hx hy rx ry X.prog X.w X.xe (EP X pins σ Q) ⟨.bl _,H,I,rfl,q⟩
 ·obtain⟨g,he⟩:=aR he;cases he;unfold f9 at g;rw[PX,PX] at g;exact AW I.hok 100 d e x y v u X.A (Nat.le_succ_of_le (PZ g.2)) g.1.1 g.1.2 (by omega) hx hy rx ry X.prog X.w X.xe (EP X pins σ Q) ⟨.bl _,H,I,rfl,q⟩
 ·rename_i i j;cases he;exact Hj pins s σ H x y v u Q I rx ry ⟨i,j,hx.int_inv,hy.int_inv,q⟩
 ·rename_i i j;cases he;exact Il pins s σ H x y v u Q I rx ry ⟨i,j,hx.int_inv,hy.int_inv,q⟩
 ·rename_i i j;cases he;exact F7 pins s σ H x y v u Q I rx ry ⟨i,j,hx.int_inv,hy.int_inv,q⟩
 ·rename_i i j;cases he;exact Hk pins s σ H x y v u Q I rx ry ⟨i,j,hx.int_inv,hy.int_inv,q⟩
 ·cases he;refine EN pins s σ H x y v u Q I rx ry ⟨hy.aA,?_⟩;cases d with
  | bo=>rw[hx.aA];exact q
  | bl b=>rw[hx.aE];exact q
  | int b=>rw[hx.int_inv];exact q
  | str b=>rw[hx.str_inv];exact q
  | tup b=>obtain⟨a,xs,rfl,_⟩:=hx.af;exact q
  | lst b=>obtain⟨a,xs,rfl,_⟩:=hx.lst_inv;exact q
  | br b=>obtain⟨a,rfl,_⟩:=hx.dY;exact q
  | wx=>exact hx.fY.elim
  | obj=>exact hx.f7.elim
  | exc=>exact hx.fQ.elim
 ·cases he;refine BD pins s σ H x y v u Q I rx ry ⟨hy.aA,?_⟩;cases d with
  | bo=>rw[hx.aA];exact q
  | bl b=>rw[hx.aE];exact q
  | int b=>rw[hx.int_inv];exact q
  | str b=>rw[hx.str_inv];exact q
  | tup b=>obtain⟨a,xs,rfl,_⟩:=hx.af;exact q
  | lst b=>obtain⟨a,xs,rfl,_⟩:=hx.lst_inv;exact q
  | br b=>obtain⟨a,rfl,_⟩:=hx.dY;exact q
  | wx=>exact hx.fY.elim
  | obj=>exact hx.f7.elim
  | exc=>exact hx.fQ.elim
 ·obtain⟨g,he⟩:=aR he;cases he;rw[PX,PX] at g;obtain⟨a,xs,rfl,h1,_,h2⟩:=hy.lst_inv;cases ry;obtain⟨its,r,t⟩:=aN I.hok h1;obtain⟨e,k1,k2⟩:=jP I hu r h2 rx hx g.1.1 g.1.2 (PZ g.2);exact in_listAt e t k1 ⟨.bl _,H,I,by rw[k2];rfl,q⟩
 ·obtain⟨g,he⟩:=aR he;cases he;rw[PX,PX] at g;obtain⟨a,xs,rfl,h1,h2⟩:=hy.af;cases ry;obtain⟨its,r,t⟩:=Mx.ay I.hok h1;obtain⟨e,k1,k2⟩:=jP I hu r h2 rx hx g.1.1 g.1.2 (PZ g.2);exact in_tupleAt e t k1 ⟨.bl _,H,I,by rw[k2];rfl,q⟩
 ·obtain⟨g,he⟩:=aR he;cases he;rw[PX,PX] at g;obtain⟨a,xs,rfl,h1,_,h2⟩:=hy.lst_inv;cases ry;obtain⟨its,r,t⟩:=aN I.hok h1;obtain⟨e,k1,k2⟩:=jP I hu r h2 rx hx g.1.1 g.1.2 (PZ g.2);exact notIn_listAt e t k1 ⟨.bl _,H,I,by rw[k2];rfl,q⟩
 ·obtain⟨g,he⟩:=aR he;cases he;rw[PX,PX] at g;obtain⟨a,xs,rfl,h1,h2⟩:=hy.af;cases ry;obtain⟨its,r,t⟩:=Mx.ay I.hok h1;obtain⟨e,k1,k2⟩:=jP I hu r h2 rx hx g.1.1 g.1.2 (PZ g.2);exact notIn_tupleAt e t k1 ⟨.bl _,H,I,by rw[k2];rfl,q⟩
 ·cases he
def qQ {ds:List Dt} {i:Int} {d:Dt} (h:vZ ds i= .ok d):ka ds i=some d:=by
 unfold vZ at h;split at h
 ·cases h;assumption
 ·cases h
def jN {K:Frag} {A:Addr->Prop} {H:Hp} {xs:List V} {ds:List Dt} {i:Int} {d:Dt} (g:aj K A H xs ds) (h:ka ds i=some d):∃v,ka xs i=some v/\RV K A H v d:=by
 unfold ka at h ⊢;rw[g.length];cases e:nv ds.length i with
 | none=>rw[e] at h;cases h
 | some j=>rw[e] at h;obtain⟨v,h1,h2⟩:=g.getD (i:=j) h;exact⟨v,h1,h2⟩
def rX (K:Frag):R2:=λx y H Q=>∃d e z,RV K N0 H x d/\RV K N0 H y e/\dm d e= .ok z/\∀v,PR K false [x,y] [d,e] H z v H->Q v H
def DU:FD X (rX X.K):=by
 intro value slice pins s σ H x y v u Q I rx ry h hs;obtain⟨d,e,z,hx,hy,he,q⟩:=h;unfold dm at he;split at he
 ·rename_i ds i;obtain⟨a,xs,rfl,h1,_,h2⟩:=hx.lst_inv;have lD:=qQ he;obtain⟨w,k1,k2⟩:=jN h2 lD;refine tS value slice pins s σ H _ y v u Q I rx ry ⟨a,xs,i,w,rfl,hy.int_inv,d9.of h1,k1,q w ⟨bD.refl _,λA _ q'=>?_,λz=>by cases z⟩⟩ hs;obtain⟨w',m1,m2⟩:=jN (ff.aN q'.1 h1) lD;rw[k1] at m1;cases m1;exact m2
 ·rename_i ds i;obtain⟨a,xs,rfl,h1,h2⟩:=hx.af;have lD:=qQ he;obtain⟨w,k1,k2⟩:=jN h2 lD;refine Df value slice pins s σ H _ y v u Q I rx ry ⟨a,xs,i,w,rfl,hy.int_inv,eW.of h1,k1,q w ⟨bD.refl _,λA _ q'=>?_,λz=>by cases z⟩⟩ hs;obtain⟨w',m1,m2⟩:=jN (ff.ay q'.1 h1) lD;rw[k1] at m1;cases m1;exact m2
 ·rename_i ns i;obtain⟨a,rfl,h1⟩:=hx.jc;have lD:=qQ he;have e1:ka ((ns.map V.int)) i=some (qK z)/\oP z=true:=by
   unfold ka at lD ⊢;rw[P8] at lD ⊢;cases e:nv ns.length i with
   | none=>rw[e] at lD;cases lD
   | some j=>
    rw[e] at lD;simp only[Option.bind_some,Qi] at lD ⊢;cases en:ns[j]? with
    | none=>rw[en] at lD;cases lD
    | some k=>rw[en] at lD;simp at lD;subst lD;exact⟨rfl,rfl⟩
  exact tS value slice pins s σ H _ y v u Q I rx ry ⟨a,_,i,_,rfl,hy.int_inv,h1,e1.1,q _ (PR.sc e1.2)⟩ hs
 ·rename_i w i;obtain⟨g,he⟩:=aR he;split at he
  ·rename_i c hc;cases he;exact Du value slice pins s σ H _ y v u Q I rx ry ⟨w,i,c,hx.str_inv,hy.int_inv,Qa (PZ g) bX,hc,q _ (PR.sc (d:= .str _) rfl)⟩ hs
  ·cases he
 ·cases he
def rS (K:Frag):V->Option Int->Option Int->Hp->VK->Prop:=λx lo hi H Q=>∃d z,RV K N0 H x d/\iB d lo hi= .ok z/\∀v H',PR K true [x] [d] H z v H'->Q v H'
def aj.cut {K:Frag} {A:Addr->Prop} {H:Hp} {xs:List V} {ds:List Dt} {lo hi:Option Int} (g:aj K A H xs ds):aj K A H (lO xs lo hi) (cutD ds lo hi):=by unfold lO cutD;rw[g.length];exact(g.drop _).take _
def rJ {xs:List V} {lo hi:Option Int} (h:HT.bQ xs.length 0 lo=0/\HT.bQ xs.length xs.length hi=xs.length):lO xs lo hi=xs:=by unfold lO;rw[h.1,h.2];simp
def ny:Fk X (λx lo hi H Q=>∃a xs,x= .ref a/\H a=some (.tup xs)/\(HT.bQ xs.length 0 lo=0/\HT.bQ xs.length xs.length hi=xs.length)/\Q (.ref a) H):=by
 intro pins s σ H x v vl vu lo hi sl Q I rx hs pl pu h;obtain⟨a,xs,rfl,hx,hw,q⟩:=h;cases rx;obtain⟨its,r,ht,hz⟩:=I.tuple (eW.of hx);have hlen:its.toArray.size=xs.length:=by rw[PY];exact r.length.symm
 refine⟨"tuple",_,PyProof.Rows.slot_tuple_getitem.lookup,ht.typeIs,?_⟩;refine HT.gg ht hs pl pu (by rw[hlen];exact hw) ⟨.ref a,H,I,rfl,q⟩ (by rw[hlen];exact hz)
def ia {K:Frag} {A:Addr->Prop} {H:Hp}:∀{ns:List Int},aj K A H (ns.map V.int) (ns.map Dt.int)
 | []=>aj.nil
 | _::_=>aj.cons RV.dG ia
def yf:Fk X (rS X.K):=by
 intro pins s σ H x v vl vu lo hi sl Q I rx hs pl pu h;obtain⟨d,z,hx,he,q⟩:=h;unfold iB at he;split at he
 ·cases he;obtain⟨a,xs,rfl,h1,_,h2⟩:=hx.lst_inv;exact tf pins s σ H _ v vl vu lo hi sl Q I rx hs pl pu ⟨a,xs,rfl,d9.of h1,λp hp=>q _ _ (PR.nC hp λA w=>(ff.aN w.1 h1).cut)⟩
 ·cases he;obtain⟨a,rfl,h1⟩:=hx.jc;exact tf pins s σ H _ v vl vu lo hi sl Q I rx hs pl pu ⟨a,_,rfl,h1,λp hp=>q _ _ (PR.nC hp λA w=>aj.cut ia)⟩
 ·cases he;obtain⟨a,xs,rfl,h1,h2⟩:=hx.af;by_cases hw:HT.bQ xs.length 0 lo=0/\HT.bQ xs.length xs.length hi=xs.length
  ·refine ny pins s σ H _ v vl vu lo hi sl Q I rx hs pl pu ⟨a,xs,rfl,h1,hw,q _ _ (PR.uk h1 λA w=>?_)⟩;have:=(ff.ay w.1 h1).cut (lo:=lo) (hi:=hi);rw[rJ hw] at this;exact this
  ·exact CQ pins s σ H _ v vl vu lo hi sl Q I rx hs pl pu ⟨a,xs,rfl,eW.of h1,hw,λp hp=>q _ _ (PR.E1 hp λA w=>(ff.ay w.1 h1).cut)⟩
 ·obtain⟨g,he⟩:=aR he;cases he;exact Mx.Eb pins s σ H _ v vl vu lo hi sl Q I rx hs pl pu ⟨_,hx.str_inv,Qa (PZ g) bX,q _ _ (PR.sc (d:= .str _) rfl)⟩
 ·cases he
def o9 {K:Frag} {A:Addr->Prop} {H:Hp}:∀{xs:List V} {ds:List Dt} {ns:List Int},aj K A H xs ds->intsOf ds=some ns->xs=ns.map V.int
 | xs,[],ns,g,h=>by simp[intsOf] at h;subst h;exact g.nil_inv
 | xs,d::ds,ns,g,h=>by
  obtain⟨x,r,rfl,g1,g2⟩:=g.cons_inv;cases d with
  | int i=>simp only[intsOf,Qe] at h;obtain⟨ms,h1,rfl⟩:=h;rw[o9 g2 h1,g1.int_inv];rfl
  | _=>simp[intsOf] at h
def pS {K:Frag} {A:Addr->Prop} {H:Hp}:∀{xs:List V} {ds:List Dt} {ns:List Str},aj K A H xs ds->strsOf ds=some ns->xs=ns.map V.str
 | xs,[],ns,g,h=>by simp[strsOf] at h;subst h;exact g.nil_inv
 | xs,d::ds,ns,g,h=>by
  obtain⟨x,r,rfl,g1,g2⟩:=g.cons_inv;cases d with
  | str i=>simp only[strsOf,Qe] at h;obtain⟨ms,h1,rfl⟩:=h;rw[pS g2 h1,g1.str_inv];rfl
  | _=>simp[strsOf] at h
def gr:∀{l l':List Mx.D},l.Perm l'->(l.Pairwise λa b=>Mx.D.lt b a=false)->(l'.Pairwise λa b=>Mx.D.lt b a=false)->l=l'
 | [],l',p,_,_=>(List.nil_perm.mp p).symm
 | a::t,l',p,h1,h2=>by
  cases l' with
  | nil=>exact absurd p.length_eq (by simp)
  | cons b t'=>
   rw[List.pairwise_cons] at h1 h2;have gI:a=b:=by
    have ha:a∈b::t':=p.mem_iff.mp P5;have hb:b∈a::t:=p.mem_iff.mpr P5;rcases Qb.mp ha with e | ha
    ·exact e
    rcases Qb.mp hb with e | hb
    ·exact e.symm
    exact Mx.D.ei a b (h2.1 a ha) (h1.1 b hb)
   subst gI;rw[gr (List.perm_cons a |>.mp p) h1.2 h2.2]
def kI (ms:List Mx.D):(aT ms).Perm ms/\(aT ms).Pairwise λa b=>Mx.D.lt b a=false:=by
 unfold aT;refine⟨List.mergeSort_perm ms oI,?_⟩;have h:=List.pairwise_mergeSort (le:=oI) (λa b c h1 h2=>by
  unfold oI at *;simp only[Bool.not_eq_true'] at *;cases h3:Mx.D.lt c a with
  | false=>rfl
  | true=>
   rcases Mx.G0.negTrans c b a h3 with h | h
   ·have h:Mx.D.lt c b=true:=h;rw[h2] at h;cases h
   ·have h:Mx.D.lt b a=true:=h;rw[h1] at h;cases h) (λa b=>by
  unfold oI;cases h:Mx.D.lt b a with
  | false=>rfl
  | true=>
   cases h':Mx.D.lt a b with
   | false=>rfl
   | true=>have:=Mx.D.lt_trans a b a h' h;rw[Mx.D.lt_irrefl] at this;cases this) ms
 exact h.imp λq=>by unfold oI at q;simpa using q
def pE {ms es:List Mx.D} (h:Mx.iM ms es):es=aT ms:=gr (h.1.trans (kI ms).1.symm) h.2 (kI ms).2
mutual
def ud:∀{d e:Mx.D},jT d e=true->Mx.D.eZ d e
 | .int _,.int _,_=>by unfold Mx.D.eZ;trivial
 | .str _,.str _,_=>by unfold Mx.D.eZ;trivial
 | .tup a,.tup b,h=>by unfold Mx.D.eZ;exact mh (by simpa [jT] using h)
 | .int _,.str _,h=>by simp[jT] at h
 | .int _,.tup _,h=>by simp[jT] at h
 | .str _,.int _,h=>by simp[jT] at h
 | .str _,.tup _,h=>by simp[jT] at h
 | .tup _,.int _,h=>by simp[jT] at h
 | .tup _,.str _,h=>by simp[jT] at h
def mh:∀{d e:List Mx.D},iT d e=true->Mx.D.gB d e
 | [],_,_=>by unfold Mx.D.gB;trivial
 | _::_,[],_=>by unfold Mx.D.gB;trivial
 | x::xs,y::ys,h=>by simp only[iT,PX] at h;unfold Mx.D.gB;exact⟨ud h.1,mh h.2⟩
end
def C8 {k:Mx.SK} {d:Mx.D} (h:GC k d=true):k.ok d:=by
 unfold GC at h;split at h
 ·have e:=Qm h;subst e;exact⟨_,_,rfl⟩
 ·have e:=Qm h;subst e;exact⟨_,_,rfl⟩
 ·have e:=Qm h;subst e;exact⟨_,_,rfl⟩
 ·have e:=Qm h;subst e;exact⟨_,rfl⟩
 ·have e:=Qm h;subst e;exact⟨_,rfl⟩
 ·cases h
def Am {ms:List Mx.D} (h:iz ms=true):Mx.kz ms:=by
 unfold iz at h;rw[PX,QD] at h;obtain⟨h1,h2⟩:=h;refine⟨PZ h1,λh3=>?_⟩;rcases h2 with h2 | h2
 ·have:=PZ h2;omega
 ·rw[PX,PX] at h2;obtain⟨⟨h4,h5⟩,h6⟩:=h2;refine⟨PZ h4,?_,λd hd e he=>ud (Qz.mp (Qz.mp h6 d hd) e he)⟩;obtain⟨k,_,hk⟩:=List.any_eq_true.mp h5;exact⟨k,λd hd=>C8 (Qz.mp hk d hd)⟩
def nE:∀(ys:List Str) (y:Str),y∈dd ys↔y∈ys
 | [],y=>by simp[dd]
 | x::r,y=>by
  unfold dd;by_cases h:x∈dd r
  ·rw[if_pos h,nE r y,Qb];constructor
   ·exact .inr
   ·rintro(rfl | q)
    ·exact(nE r y).mp h
    ·exact q
  ·rw[if_neg h,Qb,Qb,nE r y]
def kh:∀ys:List Str,(dd ys).Nodup
 | []=>List.nodup_nil
 | x::r=>by
  unfold dd;by_cases h:x∈dd r
  ·rw[if_pos h];exact kh r
  ·rw[if_neg h];exact List.nodup_cons.mpr ⟨h,kh r⟩
def lJ {α:Type} [DecidableEq α] {a b:List α} (ha:a.Nodup) (hb:b.Nodup) (h:∀x,x∈a↔x∈b):a.Perm b:=by rw[List.perm_iff_count];intro x;rw[ha.count,hb.count];simp[h x]
def yq:∀ys:List Str,(dd ys).length<=ys.length
 | []=>P4 _
 | x::r=>by
  have:=yq r;unfold dd;by_cases h:x∈dd r
  ·rw[if_pos h,Qh];omega
  ·rw[if_neg h,Qh,Qh];omega
end
end Rx
end
section
namespace Rx
open PySem PySem.W PySem.Spec PyProof.Rows L2 PySem.SeqAt
section
variable {X:Cx}
def Fv:BI->Value
 | .len=> .builtin "len" | .abs=> .builtin "abs" | .min2=> .builtin "min" | .max2=> .builtin "max" | .sum=> .builtin "sum" | .any=> .builtin "any" | .all=> .builtin "all" | .minL=> .builtin "min"
 | .maxL=> .builtin "max" | .sorted=> .builtin "sorted" | .tuple=> .type "tuple" | .list=> .type "list" | .int=> .type "int" | _=> .none
def B8:BI->Bool
 | .isi _=>false | .revL=>false | .revT=>false | .sset=>false | .zipL=>false | _=>true
def b9 {K:Frag} {A:Addr->Prop} {H:Hp} {xs:List V} {d:Dt} (h:aj K A H xs [d]):∃x,xs=[x]/\RV K A H x d:=by obtain⟨x,r,rfl,h1,h2⟩:=h.cons_inv;rw[h2.nil_inv];exact⟨x,rfl,h1⟩
def uQ {K:Frag} {A:Addr->Prop} {H:Hp} {xs:List V} {d e:Dt} (h:aj K A H xs [d,e]):∃x y,xs=[x,y]/\RV K A H x d/\RV K A H y e:=by obtain⟨x,r,rfl,h1,h2⟩:=h.cons_inv;obtain⟨y,rfl,h3⟩:=b9 h2;exact⟨x,y,rfl,h1,h3⟩
def Bn (b:BI) (hr:B8 b=true) (hc:X.calm=true) (hu:X.A.units + 150 < cLine):gv X (Fv b) (rP X.K true (dX b)):=by
 intro pins s σ H xs us Q I r h;obtain⟨ds,d,hx,he,q⟩:=h;have Fz:=bX;unfold dX at he;split at he
 ·obtain⟨g,he⟩:=aR he;cases he;obtain⟨x,rfl,h1⟩:=b9 hx;exact iC pins s σ H _ us Q I r ⟨x,_,rfl,by rw[h1.str_inv];exact⟨Qa (PZ g) Fz,rfl⟩,q _ _ (PR.sc (d:= .int _) rfl)⟩
 ·cases he;obtain⟨x,rfl,h1⟩:=b9 hx;obtain⟨a,ys,rfl,h2,_,h3⟩:=h1.lst_inv;exact iC pins s σ H _ us Q I r ⟨_,_,rfl,.inl ⟨ys,d9.of h2,rfl⟩,by rw[h3.length];exact q _ _ (PR.sc (d:= .int _) rfl)⟩
 ·cases he;obtain⟨x,rfl,h1⟩:=b9 hx;obtain⟨a,ys,rfl,h2,h3⟩:=h1.af;exact iC pins s σ H _ us Q I r ⟨_,_,rfl,.inr ⟨ys,eW.of h2,rfl⟩,by rw[h3.length];exact q _ _ (PR.sc (d:= .int _) rfl)⟩
 ·cases he;obtain⟨x,rfl,h1⟩:=b9 hx;obtain⟨a,rfl,h2⟩:=h1.jc;exact iC pins s σ H _ us Q I r ⟨_,_,rfl,.inl ⟨_,h2,rfl⟩,by rw[P8];exact q _ _ (PR.sc (d:= .int _) rfl)⟩
 ·cases he;obtain⟨x,y,rfl,h1,h2⟩:=uQ hx;exact vB hc pins s σ H _ us Q I r ⟨_,_,by rw[h1.int_inv,h2.int_inv],q _ _ (PR.sc (d:= .int _) rfl)⟩
 ·split at he
  ·rename_i ns Fh;cases he;obtain⟨x,rfl,h1⟩:=b9 hx;obtain⟨a,ys,rfl,h2,_,h3⟩:=h1.lst_inv;rw[o9 h3 Fh] at h2;exact Mx.xj hc pins s σ H _ us Q I r ⟨a,ns,rfl,d9.of h2,q _ _ (PR.sc (d:= .int _) rfl)⟩
  ·cases he
 ·rename_i d0;split at he
  ·rename_i es hes;split at he
   ·rename_i ms AR;obtain⟨g,he⟩:=aR he;cases he;have cs:=Am g;obtain⟨x,rfl,h1⟩:=b9 hx;have LP:=nF AR;have go:∀{a:Addr} {ys:List V},x= .ref a->(d9 X.K H a ys\/eW X.K H a ys)->aj X.K N0 H ys es->wpAny (model X.prog X.w) X.A (call (Fv .sorted) us) (EP X pins σ Q) X.xe s:=by intro a ys ex hs g;subst ex;rw[LP] at g;refine Mx.nO hu pins s σ H _ us Q I r ⟨a,ys,ms,rfl,hs,g.vt,cs,λm zs qs hm hz hso=>q _ _ ?_⟩;have e:=pE hso;subst e;exact PR.nC hm λA _=>aj.oC hz
    unfold itemsOf at hes;split at hes
    ·cases hes;obtain⟨a,ys,e1,h2,_,h3⟩:=h1.lst_inv;exact go e1 (.inl (d9.of h2)) h3
    ·cases hes;obtain⟨a,ys,e1,h2,h3⟩:=h1.af;exact go e1 (.inr (eW.of h2)) h3
    ·cases hes;obtain⟨a,e1,h2⟩:=h1.jc;exact go e1 (.inl h2) ia
    ·cases hes
   ·cases he
  ·cases he
 ·cases he;obtain⟨x,rfl,h1⟩:=b9 hx;obtain⟨a,ys,rfl,h2,_,h3⟩:=h1.lst_inv;exact gA pins s σ H _ us Q I r ⟨a,ys,rfl,.inl ⟨d9.of h2,λl hl=>q _ _ (PR.E1 hl λA w=>ff.aN w.1 h2)⟩⟩
 ·cases he;obtain⟨x,rfl,h1⟩:=b9 hx;obtain⟨a,ys,rfl,h2,h3⟩:=h1.af;exact gA pins s σ H _ us Q I r ⟨a,ys,rfl,.inr ⟨eW.of h2,q _ _ (PR.uk h2 λA w=>ff.ay w.1 h2)⟩⟩
 ·cases he;obtain⟨x,rfl,h1⟩:=b9 hx;obtain⟨a,ys,rfl,h2,_,h3⟩:=h1.lst_inv;exact eS pins s σ H _ us Q I r ⟨a,ys,rfl,.inl (d9.of h2),λl hl=>q _ _ (PR.nC hl λA w=>ff.aN w.1 h2)⟩
 ·cases he;obtain⟨x,rfl,h1⟩:=b9 hx;obtain⟨a,ys,rfl,h2,h3⟩:=h1.af;exact eS pins s σ H _ us Q I r ⟨a,ys,rfl,.inr (eW.of h2),λl hl=>q _ _ (PR.nC hl λA w=>ff.ay w.1 h2)⟩
 ·cases he;obtain⟨x,rfl,h1⟩:=b9 hx;obtain⟨a,rfl,h2⟩:=h1.jc;exact eS pins s σ H _ us Q I r ⟨a,_,rfl,.inl h2,λl hl=>q _ _ (PR.nC hl λA w=>ia)⟩
 ·cases hr
 ·cases hr
 ·cases hr
 ·cases hr
 ·cases hr
 ·cases he
end
structure Fm where
 K:Frag
 H0:Hp
 d0:Option Addr
 Ek:Nat->Prop
structure Ow where
 W:Addr->Prop
 A:Addr->Prop
 dr:Option Addr
def Ow.wd (o:Ow):Addr->Prop:=λa=>o.W a\/o.dr=some a
def Ow.d (o:Ow):Addr->Prop:=λa=>o.dr=some a
def OV (K:Frag) (H0:Hp) (o:Ow) (H:Hp) (v:V):Dt->Prop
 | .lst ds=>∃a xs,v= .ref a/\H a=some (.lst xs)/\o.A a/\¬o.W a/\o.dr≠some a/\H0 a=none/\aj K o.A H xs ds
 | d=>RV K o.A H v d
structure ER (Φ:Fm) (Γ:Gm) (o:Ow) (ρ:ak) (S:Sx) (σ:L2.St) (H:Hp):Prop where
 len:σ.length=ρ.length
 wa:∀a,o.W a->o.A a
 da:∀a,o.dr=some a->o.A a
 al:∀a,o.A a->∃x,H a=some x
 val:∀(i:Nat) (d:Dt),ρ[i]?=some (some d)->∃v,σ[i]?=some (some v)/\(if fm Γ i=true then OV Φ.K Φ.H0 o H v d else RV Φ.K o.A H v d)
 inj:∀(i j:Nat) (a:Addr) (d e:List Dt),fm Γ i=true->fm Γ j=true->ρ[i]?=some (some (.lst d))->ρ[j]?=some (some (.lst e))->σ[i]?=some (some (.ref a))->σ[j]?=some (some (.ref a))->i=j
 drw:∀a,o.dr=some a->∃ns:List Int,S=some ns/\H a=some (.lst (ns.map V.int))
 drn:o.dr=none->S=none
 drs:∀(i:Nat) (a:Addr),Γ.δ=some i->o.dr=some a->σ[i]?=some (some (.ref a))
 dr0:∀a,o.dr=some a->Φ.d0=some a\/Φ.H0 a=none
 ent:aX (λb=>Φ.d0=some b) Φ.H0 H
section
variable {Φ:Fm} {Γ:Gm} {o:Ow} {ρ:ak} {S S':Sx} {σ:L2.St} {H H':Hp}
def OV.val {K:Frag} {H0:Hp} {v:V} {d:Dt} (h:OV K H0 o H v d) (wa:∀a,o.W a->o.A a) (da:∀a,o.dr=some a->o.A a):RV K o.wd H v d:=by
 have hw:∀b,o.wd b->o.A b:=λb z=>z.elim (wa b) (da b)
 cases d with
 | lst ds=>obtain⟨a,xs,rfl,h1,h2,h3,h4,_,h5⟩:=h;exact RV.eY h1 (λz=>z.elim h3 h4) (h5.weak hw)
 | _=>exact RV.weak h hw
def OV.one {K:Frag} {H0:Hp} {v:V} {d:Dt} (h:OV K H0 o H v d):ff K o.A H v d:=by
 cases d with
 | lst ds=>obtain⟨a,xs,rfl,h1,h2,h3,h4,_,h5⟩:=h;exact⟨a,xs,rfl,h1,h5⟩
 | _=>exact h
def OV.ext {K:Frag} {H0:Hp} {v:V} {d:Dt} (h:OV K H0 o H v d) (da:∀a,o.dr=some a->o.A a) (e:aX o.d H H'):OV K H0 o H' v d:=by
 cases d with
 | lst ds=>obtain⟨a,xs,rfl,h1,h2,h3,h4,h6,h5⟩:=h;exact⟨a,xs,rfl,e.kp _ _ h1 h4,h2,h3,h4,h6,h5.mono e da λ_ z=>z⟩
 | _=>exact RV.mono e da (λ_ z=>z) h
def ER.gO (er:ER Φ Γ o ρ S σ H):∀b,o.wd b->o.A b:=λb z=>z.elim (er.wa b) (er.da b)
def ER.ym (er:ER Φ Γ o ρ S σ H):∀b,o.wd b->∃x,H b=some x:=λb z=>er.al b (er.gO b z)
def aX.al {X:Addr->Prop} (e:aX X H H') {b:Addr} {x:HO} (h:H b=some x) (hx:X b->∃y,H' b=some y):∃y,H' b=some y:=by
 by_cases z:X b
 ·exact hx z
 ·exact⟨x,e.kp _ _ h z⟩
def ER.step (er:ER Φ Γ o ρ S σ H) (e:aX o.d H H') (hd:∀a,o.dr=some a->∃ns:List Int,S'=some ns/\H' a=some (.lst (ns.map V.int))) (hn:o.dr=none->S'=none):ER Φ Γ o ρ S' σ H' where
 len:=er.len
 wa:=er.wa
 da:=er.da
 al:=λa ha=>by obtain⟨x,hx⟩:=er.al a ha;exact e.al hx λz=>by obtain⟨ns,_,h⟩:=hd a z;exact⟨_,h⟩
 val:=λi d h=>by
  obtain⟨v,h1,h2⟩:=er.val i d h;refine⟨v,h1,?_⟩;by_cases m:fm Γ i=true
  ·rw[if_pos m] at h2 ⊢;exact h2.ext er.da e
  ·rw[if_neg m] at h2 ⊢;exact h2.mono e er.da λ_ z=>z
 inj:=er.inj
 drw:=hd
 drn:=hn
 drs:=er.drs
 dr0:=er.dr0
 ent:=⟨λb x h n=>by
   refine e.kp _ _ (er.ent.kp b x h n) λz=>?_
   rcases er.dr0 b z with q | q
   ·exact n q
   ·(rw[h] at q;cases q),λb xs h=>e.tp _ _ (er.ent.tp b xs h)⟩
def ER.grow (er:ER Φ Γ o ρ S σ H) (s:bD H H'):ER Φ Γ o ρ S σ H':=er.step (aX.of_same s) (λa h=>by
 obtain⟨ns,h1,h2⟩:=er.drw a h;exact⟨ns,h1,s _ _ h2⟩) er.drn
end
def mR (Ek:Nat->Prop) {α:Type} (r:R α) (P:α->Prop):Prop:=match r with
 | .ok a=>P a
 | .ex k=>Ek k
 | .bad=>False
section
variable {Ek:Nat->Prop} {α β:Type}
def ae {r:R α} {f:α->R β} {P:β->Prop}:mR Ek (r.bind f) P↔mR Ek r λa=>mR Ek (f a) P:=by cases r <;> rfl
def ah {r:R α} {P Q:α->Prop} (h:mR Ek r P) (hq:∀a,r= .ok a->P a->Q a):mR Ek r Q:=by
 cases r with
 | ok a=>exact hq a rfl h
 | ex k=>exact h
 | bad=>exact h
def aO {b:Bool} {r:R α} {P:α->Prop} (h:mR Ek (ag b r) P):b=true/\mR Ek r P:=by
 cases b with
 | true=>exact⟨rfl,h⟩
 | false=>exact h.elim
end
structure EO (K:Frag) (fr:Nat->Bool) (o:Ow) (c:C) (H:Hp) (d:Dt) (v:V) (H':Hp):Prop where
 ext:aX o.d H H'
 val:RV K o.wd H' v d
 df:lk c=0->RV K o.A H' v d
 nK:lk c<=1->ff K o.A H' v d
 fu:fresh fr c=true->∀ds,d= .lst ds->∃a xs,v= .ref a/\H a=none/\H' a=some (.lst xs)/\aj K (λb=>o.wd b\/b=a) H' xs ds/\(lk c=0->aj K (λb=>o.A b\/b=a) H' xs ds)
structure Pa (K:Frag) (o:Ow) (cs:Cs) (H:Hp) (ds:List Dt) (vs:List V) (H':Hp):Prop where
 ext:aX o.d H H'
 val:aj K o.wd H' vs ds
 df:mJ cs=0->aj K o.A H' vs ds
 nK:mJ cs<=1->lK K o.A H' vs ds
section
variable (Φ:Fm) (Γ:Gm) (F:FT) (fr:Nat->Bool)
def bT (c:C):TE:=λσ H Q=>∃o ρ S,ER Φ Γ o ρ S σ H/\mR Φ.Ek (ev F c ρ S) λp=>∀v H',EO Φ.K fr o c H p.1 v H'->ER Φ Γ o ρ p.2 σ H'->Q v H'
def fw (c:C):TT:=λσ H Q=>∃o ρ S,ER Φ Γ o ρ S σ H/\mR Φ.Ek (cq F c ρ S) λp=>∀H',aX o.d H H'->ER Φ Γ o ρ p.2 σ H'->Q p.1 H'
def lQ (cs:Cs):TA:=λσ H Q=>∃o ρ S,ER Φ Γ o ρ S σ H/\mR Φ.Ek (gz F cs ρ S) λp=>∀vs H',Pa Φ.K o cs H p.1 vs H'->ER Φ Γ o ρ p.2 σ H'->Q vs H'
def qy (cs:Cs):TT:=λσ H Q=>∃o ρ S,ER Φ Γ o ρ S σ H/\mR Φ.Ek (cU F cs ρ S) λp=>∀H',aX o.d H H'->ER Φ Γ o ρ p.2 σ H'->Q p.1 H'
end
structure Wk (K:Frag) (A X:Addr->Prop) (J:It) (H:Hp) (ds:List Dt):Prop where
 go:∀(i:Nat) (H1:Hp),i < ds.length->aX X H H1->J.go i H1
 stop:∀(H1:Hp),aX X H H1->J.stop ds.length H1
 yld:∀(i:Nat) (x:V) (H1 H2:Hp),i < ds.length->aX X H H1->J.yld i H1 x H2->bD H1 H2/\∃d,ds[i]?=some d/\∀B:Addr->Prop,(∀b,B b->A b\/H b=none)->RV K B H2 x d
structure IO (K:Frag) (o:Ow) (it:ql) (nl:Bool) (H:Hp) (ds:List Dt) (J:It) (H':Hp):Prop where
 ext:aX o.d H H'
 w1:vF it<=1->Wk K o.A o.d J H' ds
 w0:vF it=0->Wk K o.A o.A J H' ds
 w2:nl=true->Wk K o.A o.A J H' ds
def nI (Φ:Fm) (Γ:Gm) (F:FT) (it:ql):TI:=λσ H Q=>∃o ρ S,ER Φ Γ o ρ S σ H/\mR Φ.Ek (eG F it ρ S) λp=>∀J H',IO Φ.K o it (ju F it ρ S) H p.1 J H'->ER Φ Γ o ρ p.2 σ H'->Q J H'
structure GX (g:G) (Γ:Gm) (X:Cx):Prop where
 N:X.N=Γ.N
 nd:Γ.N.Nodup
 vis:∀x,xY (Γ.names.lookup x)=true->FY X.env.scope x
 loc:∀x,yl (Γ.names.lookup x)=true->Loc X.env.scope x/\(X.fn x=true\/X.env.scope.names.lookup x=some .local)
 gl:∀x,yS (Γ.names.lookup x)=true->Gl X x
 fre:∀x,(Γ.names.lookup x=some .cell\/Γ.names.lookup x=some .free)->(X.env.scope.names.lookup x=some .cell\/X.env.scope.names.lookup x=some .free)
 calm:X.calm=true
 un:X.A.units + 150 < cLine
 con:∀x d,g.cons.lookup x=some d->∃u,oP d=true/\X.mg x=some u/\RelV (qK d) u
 bl:∀x∈g.bls,X.mg x=none
structure FO (K:Frag) (W:Addr->Prop) (dr:Option Addr) (fr:Bool) (H:Hp) (d:Dt) (S':Sx) (v:V) (H':Hp):Prop where
 ext:aX (λb=>dr=some b) H H'
 val:RV K W H' v d
 drw:∀a,dr=some a->∃ns:List Int,S'=some ns/\H' a=some (.lst (ns.map V.int))
 fu:fr=true->∀ds,d= .lst ds->∃a xs,v= .ref a/\H a=none/\H' a=some (.lst xs)/\aj K (λb=>W b\/b=a) H' xs ds
def M3 (K:Frag) (xv:Nat->Value) (F:List Dt->Sx->R (Dt×Sx)) (np:Nat) (fr bc:Bool):Sp:=λvs H Q E=>
 vs.length=np/\∃(W:Addr->Prop) (dr:Option Addr) (args:List Dt) (S:Sx) (v7:List V),
  (if bc=true then∃(a:Addr) (ns:List Int),vs= .ref a::v7/\dr=some a/\W a/\S=some ns/\H a=some (.lst (ns.map V.int)) else vs=v7/\dr=none/\S=none)/\
  aj K W H v7 args/\(∀a,W a->∃x,H a=some x)/\
  match F args S with
  | .ok p=>∀v H',FO K W dr fr H p.1 p.2 v H'->Q v H'
  | .ex k=>∀H',aX (λb=>dr=some b) H H'->E (xv k) none H'
  | .bad=>False
def mX (Φ:Fm) (xv:Nat->Value):XK:=λv _ H'=>∃k,v=xv k/\Φ.Ek k/\aX (λb=>Φ.d0=some b) Φ.H0 H'
structure FX (g:G) (xv:Nat->Value) (CX:lE) (P:Program) (w:World) (K:Frag) (mg:Str->Option Value) (base:Heap) (n k:Nat) (F:FT):Prop where
 fn:∀x f np fP bc,sU x g.fns=some (f,np,fP,bc)->∃(fa:Addr) (fd:FuncData) (ps:List Str),ps.length=np/\mg x=some (.ref fa)/\PySem.W.keepIn K (.ref fa)=true/\
  jb P w K mg base CX k fa fd ps (M3 K xv (F f) np (g.fr f) bc)/\(∀j,j<=fP.length->∃ds,aw ((fP.drop j).map qK) ds/\Binds K fd ps ds)/\fP.all oP=true
structure HX (g:G) (xv:Nat->Value) (CX:lE) (k:Nat) (F:FT) (Φ:Fm) (X:Cx):Prop where
 K:Φ.K=X.K
 fx:∃n,FX g xv CX X.prog X.w X.K X.mg X.base n k F
 room:iJ k X.A
 cx:CX=oJ X.prog X.w
 st:fL X
 xgx:∀e s',km X (mX Φ xv) e s'->X.xe e s'
def HX.pass {g:G} {xv:Nat->Value} {CX:lE} {k:Nat} {F:FT} {Φ:Fm} {X:Cx} (h:HX g xv CX k F Φ X):rF CX X (mX Φ xv):=λpins σ H s e s' I c=>by have hc:=h.cx;subst hc;exact h.xgx e s' (yc I h.st.pn c)
def bg {X:Cx} {e:Expr} {t t':TE} (h:PE X e t) (hi:∀σ H Q,t' σ H Q->t σ H Q):PE X e t':=λpins s σ H Q I q=>h pins s σ H Q I (hi σ H Q q)
def sF {X:Cx} {e:Expr} {t t':TT} (h:PT X e t) (hi:∀σ H Q,t' σ H Q->t σ H Q):PT X e t':=λpins s σ H Q I q=>h pins s σ H Q I (hi σ H Q q)
def xW {X:Cx} {e:Expr} {t t':TT} (h:PW X e t) (hi:∀σ H Q,t' σ H Q->t σ H Q):PW X e t':=λwh pins s σ H Q I q=>h wh pins s σ H Q I (hi σ H Q q)
def yx {X:Cx} {e:List Expr} {t t':TA} (h:PA X e t) (hi:∀σ H Q,t' σ H Q->t σ H Q):PA X e t':=λpos pins s σ H Q I q=>h pos pins s σ H Q I (hi σ H Q q)
def oH {X:Cx} {tg e:Expr} {t t':TI} (h:PI X tg e t) (hi:∀σ H Q,t' σ H Q->t σ H Q):PI X tg e t':=λpins s σ H Q I q=>h pins s σ H Q I (hi σ H Q q)
section
variable {Φ:Fm} {Γ:Gm} {F:FT} {fr:Nat->Bool} {o:Ow} {ρ:ak} {S:Sx} {σ:L2.St} {H H':Hp}
def EO.sc {c:C} {d:Dt} (h:oP d=true):EO Φ.K fr o c H d (qK d) H:=⟨aX.refl,p6 h,λ_=>p6 h,λ_=>(p6 h).one,λ_ ds e=>by subst e;simp[oP] at h⟩
def EO.u6 {c:C} {d:Dt} {v:V} {H1:Hp} (e:aX o.d H H1) (h:EO Φ.K fr o c H1 d v H') (hf:fresh fr c=true->∀ds,d= .lst ds->∀a,H1 a=none->H a=none):EO Φ.K fr o c H d v H':=
 ⟨e.trans h.ext,h.val,h.df,h.nK,λf ds ed=>by
  obtain⟨a,xs,h1,h2,h3⟩:=h.fu f ds ed;exact⟨a,xs,h1,hf f ds ed a h2,h3⟩⟩
def yF {X:Addr->Prop} {H1:Hp} (e:aX X H H1) (hx:∀b,X b->∃y,H1 b=some y) {a:Addr} (h:H1 a=none):H a=none:=by
 cases q:H a with
 | none=>rfl
 | some x=>obtain⟨y,z⟩:=e.al q (hx a);rw[h] at z;cases z
def ER.eD {S1:Sx} {H1:Hp} (aF:ER Φ Γ o ρ S1 σ H1) (e:aX o.d H H1) {a:Addr} (h:H1 a=none):H a=none:=yF e (λb z=>aF.al b (aF.da b z)) h
def EO.keep {c:C} {d:Dt} {v:V} {H1 H2:Hp} (h:EO Φ.K fr o c H d v H1) (e:aX o.d H1 H2) (wa:∀b,o.wd b->o.A b):RV Φ.K o.wd H2 v d/\(lk c=0->RV Φ.K o.A H2 v d)/\(lk c<=1->ff Φ.K o.A H2 v d):=by
 have hd:∀b,o.d b->o.wd b:=λb z=> .inr z
 refine⟨h.val.mono e hd λ_ z=>z,λl=>(h.df l).mono e (λb z=>wa b (hd b z)) λ_ z=>z,λl=>?_⟩;refine(h.nK l).ext e (λb z=>wa b (hd b z)) λds a ed ev z=>?_
 subst ed ev;obtain⟨b,xs,q,_,n,_⟩:=h.val.lst_inv;cases q;exact n (.inr z)
def EO.pr {c:C} {xs:List V} {ds:List Dt} {d:Dt} {v:V} {H1 H2:Hp} {S1:Sx} {f:Bool} (aF:ER Φ Γ o ρ S1 σ H1) (e:aX o.d H H1) (hv:aj Φ.K o.wd H1 xs ds) (h1:lk c<=1->lK Φ.K o.A H1 xs ds) (hl:lk c=0\/lk c=2)
  (pr:PR Φ.K f xs ds H1 d v H2) (hf:fresh fr c=true->f=true):EO Φ.K fr o c H d v H2/\ER Φ Γ o ρ S1 σ H2:=by
 have q0:lk c=0->RV Φ.K o.A H2 v d:=λl=>pr.val o.A aF.al (h1 (by omega))
 refine⟨⟨e.trans (aX.of_same pr.same),pr.val o.wd aF.ym hv.ones,q0,λl=>(q0 (by omega)).one,λfc es ed=>?_⟩,aF.grow pr.same⟩;obtain⟨a,ys,k1,k2,k3,k4⟩:=pr.fu (hf fc) es ed;exact⟨a,ys,k1,aF.eD e k2,k3,k4 o.wd aF.ym hv.ones,λl=>k4 o.A aF.al (h1 (by omega))⟩
def gW {A:Addr->Prop} {K:Frag} {v:V} {d:Dt} (h:RV K A H v d):RV K N0 H v d:=h.weak λ_ z=>z.elim
def D8 {A:Addr->Prop} {K:Frag} {v:List V} {d:List Dt} (h:aj K A H v d):aj K N0 H v d:=h.weak λ_ z=>z.elim
end
section
variable {X:Cx} {Φ:Fm} {Γ:Gm} {F:FT} {fr:Nat->Bool} {g:G}
def qg {e:Expr} {d:Dt} (hd:oP d=true) (h:PE X e (tC (qK d))):PE X e (bT Φ Γ F fr (.con d)):=bg h λσ H Q q=>by obtain⟨o,ρ,S,er,q⟩:=q;exact q _ _ (EO.sc hd) er
def nk {Ek:Nat->Prop} {ρ:ak} {i:Nat} {P:Dt->Prop} (h:mR Ek (fN ρ i) P):∃d,ρ[i]?=some (some d)/\P d:=by
 unfold fN at h;split at h
 ·exact⟨_,by assumption,h⟩
 ·exact h.elim
def Ga {e:Expr} {i:Nat} (h:PE X e (lI i)) (hm:fm Γ i=false):PE X e (bT Φ Γ F fr (.var i)):=bg h λσ H Q q=>by obtain⟨o,ρ,S,er,q⟩:=q;unfold ev at q;rw[ae] at q;obtain⟨d,hd,q⟩:=nk q;obtain⟨v,h1,h2⟩:=er.val i d hd;rw[hm,if_neg (by simp)] at h2;exact⟨v,h1,q v H ⟨aX.refl,h2.weak er.gO,λ_=>h2,λ_=>h2.one,λz=>by simp[fresh] at z⟩ er⟩
def G8 {e:Expr} {i:Nat} (h:PE X e (lI i)) (hm:fm Γ i=true):PE X e (bT Φ Γ F fr (.mvr i)):=bg h λσ H Q q=>by obtain⟨o,ρ,S,er,q⟩:=q;unfold ev at q;rw[ae] at q;obtain⟨d,hd,q⟩:=nk q;obtain⟨v,h1,h2⟩:=er.val i d hd;rw[hm,if_pos rfl] at h2;exact⟨v,h1,q v H ⟨aX.refl,h2.val er.wa er.da,λz=>by simp[lk] at z,λ_=>h2.one,λz=>by simp[fresh] at z⟩ er⟩
def jM {Ek:Nat->Prop} {r:R Dt} {P:Dt->Prop} (oU:∀k,r≠ .ex k) (h:mR Ek r P):∃d,r= .ok d/\P d:=by grind [ex,R,Dt,mR]
theorem c9 {b:Bool} {α:Type} {r:R α} (h:∀k,r≠ .ex k):∀k,ag b r≠ .ex k:=by
 intro k;cases b
 ·intro z;cases z
 ·exact h k
def CF (o:Operator) (d e:Dt):∀k,nh o d e≠ .ex k:=by intro k;unfold nh;split <;> first | (intro z;cases z;done) | (exact c9 (λk z=>by cases z) k)
def ua (o:CmpOp) (d e:Dt):∀k,c8 o d e≠ .ex k:=by intro k;unfold c8;split <;> first | (intro z;cases z;done) | (exact c9 (λk z=>by cases z) k)
theorem EI (ds:List Dt) (i:Int):∀k,vZ ds i≠ .ex k:=by intro k;unfold vZ;split <;> (intro z;cases z)
def BM (d e:Dt):∀k,dm d e≠ .ex k:=by grind [dm,EI,c9,Dt,ex]
def Bk (d:Dt) (lo hi:Option Int):∀k,iB d lo hi≠ .ex k:=by grind [iB,c9,Dt,ex]
def BB (d:Dt):∀k,dU d≠ .ex k:=by grind [dU,c9,Dt,ex]
def ik {Ek:Nat->Prop} {r:R Bool} {P:Bool->Prop} (oU:∀k,r≠ .ex k) (h:mR Ek r P):∃d,r= .ok d/\P d:=by grind [ex,R,mR]
def rZ {op:Operator} {a b:C}:(lk (.bin op a b)=0\/lk (.bin op a b)=2)/\(lk (.bin op a b)<=1->lk a<=1/\lk b<=1):=by grind [lk]
def FM {a b:Expr} {a' b':C} {op:Operator} {pos:Pos} (hK:Φ.K=X.K) (ha:PE X a (bT Φ Γ F fr a')) (hb:PE X b (bT Φ Γ F fr b')):PE X (.BinOp a op b pos) (bT Φ Γ F fr (.bin op a' b')):=bg (Hv (EK op) ha hb) λσ H Q q=>by
 obtain⟨o,ρ,S,er,q⟩:=q;unfold ev at q;rw[ae] at q;refine⟨o,ρ,S,er,ah q λp _ q x H1 a8 aF=>?_⟩;rw[ae] at q;refine⟨o,ρ,p.2,aF,ah q λp2 _ q y H2 eo2 gi=>?_⟩;rw[ae] at q;obtain⟨z,hz,q⟩:=jM (CF _ _ _) q;obtain⟨k1,k2,k3⟩:=a8.keep eo2.ext er.gO;refine⟨p.1,p2.1,z,hK▸gW k1,hK▸gW eo2.val,hz,λv H3 pr=>?_⟩;rw[<-hK] at pr;obtain⟨e1,e2⟩:=EO.pr (fr:=fr) (H:=H) (c:= .bin op a' b') gi (a8.ext.trans eo2.ext) (aj.cons k1 (aj.cons eo2.val aj.nil)) (λl=>⟨k3 (rZ.2 l).1,eo2.nK (rZ.2 l).2,trivial⟩) rZ.1 pr λ_=>rfl
 exact q v H3 e1 e2
def HS {a b:Expr} {a' b':C} {op:CmpOp} {pos:Pos} (hK:Φ.K=X.K) (hu:X.A.units + 150 < cLine) (hm:behindInMarks op b=false) (ha:PE X a (bT Φ Γ F fr a')) (hb:PE X b (bT Φ Γ F fr b')):PE X (.Compare a [op] [b] pos) (bT Φ Γ F fr (.cmp op a' b')):=bg (A2 (yJ op hu) ha hb hm) λσ H Q q=>by obtain⟨o,ρ,S,er,q⟩:=q;unfold ev at q;rw[ae] at q;refine⟨o,ρ,S,er,ah q λp _ q x H1 a8 aF=>?_⟩;rw[ae] at q;refine⟨o,ρ,p.2,aF,ah q λp2 _ q y H2 eo2 gi=>?_⟩;rw[ae] at q;obtain⟨z,hz,q⟩:=ik (ua _ _ _) q;obtain⟨k1,k2,k3⟩:=a8.keep eo2.ext er.gO;refine⟨p.1,p2.1,z,hK▸gW k1,hK▸gW eo2.val,hz,q _ _ ?_ gi⟩;have:=EO.sc (Φ:=Φ) (fr:=fr) (o:=o) (H:=H2) (c:= .cmp op a' b') (d:= .bl z) rfl;exact this.u6 (a8.ext.trans eo2.ext) λf=>by simp[fresh] at f
def C6 {a b:Expr} {a' b':C} {op:CmpOp} {pos:Pos} (hK:Φ.K=X.K) (hu:X.A.units + 150 < cLine) (hm:behindInMarks op b=false) (ha:PE X a (bT Φ Γ F fr a')) (hb:PE X b (bT Φ Γ F fr b')):PT X (.Compare a [op] [b] pos) (fw Φ Γ F (.cmp op a' b')):=sF (AJ (yJ op hu) ha hb hm) λσ H Q q=>by obtain⟨o,ρ,S,er,q⟩:=q;unfold cq at q;rw[ae] at q;refine⟨o,ρ,S,er,ah q λp _ q x H1 a8 aF=>?_⟩;rw[ae] at q;refine⟨o,ρ,p.2,aF,ah q λp2 _ q y H2 eo2 gi=>?_⟩;rw[ae] at q;obtain⟨z,hz,q⟩:=ik (ua _ _ _) q;obtain⟨k1,k2,k3⟩:=a8.keep eo2.ext er.gO;exact⟨p.1,p2.1,z,hK▸gW k1,hK▸gW eo2.val,hz,z,rfl,q _ (a8.ext.trans eo2.ext) gi⟩
end
section
variable {X:Cx} {Φ:Fm} {Γ:Gm} {F:FT} {fr:Nat->Bool} {g:G}
def aj.emp {K:Frag} {A:Addr->Prop} {H:Hp} {xs:List V} {ds:List Dt} (h:aj K A H xs ds):ds.isEmpty=xs.isEmpty:=by
 have:=h.length;cases xs with
 | nil=>cases ds with
  | nil=>rfl
  | cons=>simp at this
 | cons=>cases ds with
  | nil=>simp at this
  | cons=>rfl
def Gz {a:Expr} {a':C} {pos:Pos} (ha:PE X a (bT Φ Γ F fr a')):PE X (.UnaryOp .USub a pos) (bT Φ Γ F fr (.neg a')):=bg (Gk C0 ha) λσ H Q q=>by
 obtain⟨o,ρ,S,er,q⟩:=q;unfold ev at q;rw[ae] at q;refine⟨o,ρ,S,er,ah q λp _ q x H1 a8 aF=>?_⟩;split at q
 ·rename_i i hi;have:=a8.val;rw[hi] at this;refine⟨i,this.int_inv,q _ _ ?_ aF⟩;exact(EO.sc (Φ:=Φ) (fr:=fr) (o:=o) (H:=H1) (c:= .neg a') (d:= .int (-i)) rfl).u6 a8.ext λf=>by simp[fresh] at f
 ·exact q.elim
def Kw {a:Expr} {a':C} {pos:Pos} (ha:PE X a (bT Φ Γ F fr a')):PE X (.UnaryOp .Not a pos) (bT Φ Γ F fr (.nt a')):=bg (DC ha) λσ H Q q=>by
 obtain⟨o,ρ,S,er,q⟩:=q;unfold ev at q;rw[ae] at q;refine⟨o,ρ,S,er,ah q λp _ q x H1 a8 aF=>?_⟩;split at q
 ·rename_i i hi;have:=a8.val;rw[hi] at this;refine⟨i,this.aE,q _ _ ?_ aF⟩;exact(EO.sc (Φ:=Φ) (fr:=fr) (o:=o) (H:=H1) (c:= .nt a') (d:= .bl (!i)) rfl).u6 a8.ext λf=>by simp[fresh] at f
 ·exact q.elim
def Hx {a:Expr} {a':C} {pos:Pos} (ha:PT X a (fw Φ Γ F a')):PT X (.UnaryOp .Not a pos) (fw Φ Γ F (.nt a')):=sF (ED ha) λσ H Q q=>by obtain⟨o,ρ,S,er,q⟩:=q;unfold cq at q;rw[ae] at q;exact⟨o,ρ,S,er,ah q λp _ q H1 e1 aF=>q _ e1 aF⟩
def Gn {a b:Expr} {rest:List Expr} {a' b':C} {pos:Pos} (ha:PE X a (bT Φ Γ F fr a')) (hb:PE X (.BoolOp .And (b::rest) pos) (bT Φ Γ F fr b')):PE X (.BoolOp .And (a::b::rest) pos) (bT Φ Γ F fr (.and a' b')):=bg (E6 ha hb) λσ H Q q=>by
 obtain⟨o,ρ,S,er,q⟩:=q;unfold ev at q;rw[ae] at q;refine⟨o,ρ,S,er,ah q λp _ q x H1 a8 aF=>?_⟩;have sc:∀(H3:Hp) (t:Bool),aX o.d H H3->EO Φ.K fr o (.and a' b') H (.bl t) (.bl t) H3:=λH3 t e3=>
  (EO.sc (Φ:=Φ) (fr:=fr) (o:=o) (H:=H3) (c:= .and a' b') (d:= .bl t) rfl).u6 e3 λf=>by simp[fresh] at f
 split at q
 ·rename_i hi;have:=a8.val;rw[hi] at this;refine⟨true,this.aE,?_⟩;rw[ae] at q;refine⟨o,ρ,p.2,aF,ah q λp2 _ q y H2 eo2 gi=>?_⟩;split at q
  ·rename_i c hc;have h2:=eo2.val;rw[hc] at h2;rw[h2.aE];exact q _ _ (sc H2 c (a8.ext.trans eo2.ext)) gi
  ·exact q.elim
 ·rename_i hi;have:=a8.val;rw[hi] at this;exact⟨false,this.aE,q _ _ (sc H1 false a8.ext) aF⟩
 ·exact q.elim
def Ky {a b:Expr} {rest:List Expr} {a' b':C} {pos:Pos} (ha:PE X a (bT Φ Γ F fr a')) (hb:PE X (.BoolOp .Or (b::rest) pos) (bT Φ Γ F fr b')):PE X (.BoolOp .Or (a::b::rest) pos) (bT Φ Γ F fr (.or a' b')):=bg (HB ha hb) λσ H Q q=>by
 obtain⟨o,ρ,S,er,q⟩:=q;unfold ev at q;rw[ae] at q;refine⟨o,ρ,S,er,ah q λp _ q x H1 a8 aF=>?_⟩;have sc:∀(H3:Hp) (t:Bool),aX o.d H H3->EO Φ.K fr o (.or a' b') H (.bl t) (.bl t) H3:=λH3 t e3=>
  (EO.sc (Φ:=Φ) (fr:=fr) (o:=o) (H:=H3) (c:= .or a' b') (d:= .bl t) rfl).u6 e3 λf=>by simp[fresh] at f
 split at q
 ·rename_i hi;have:=a8.val;rw[hi] at this;refine⟨false,this.aE,?_⟩;rw[ae] at q;refine⟨o,ρ,p.2,aF,ah q λp2 _ q y H2 eo2 gi=>?_⟩;split at q
  ·rename_i c hc;have h2:=eo2.val;rw[hc] at h2;rw[h2.aE];exact q _ _ (sc H2 c (a8.ext.trans eo2.ext)) gi
  ·exact q.elim
 ·rename_i hi;have:=a8.val;rw[hi] at this;exact⟨true,this.aE,q _ _ (sc H1 true a8.ext) aF⟩
 ·exact q.elim
def DR {a b:Expr} {rest:List Expr} {a' b':C} {pos:Pos} (ha:PT X a (fw Φ Γ F a')) (hb:PW X (.BoolOp .And (b::rest) pos) (fw Φ Γ F b')):PW X (.BoolOp .And (a::b::rest) pos) (fw Φ Γ F (.and a' b')):=xW (E9 ha hb) λσ H Q q=>by
 obtain⟨o,ρ,S,er,q⟩:=q;unfold cq at q;rw[ae] at q;refine⟨o,ρ,S,er,ah q λp _ q H1 e1 aF=>?_⟩;cases hp:p.1 with
 | true=>rw[hp] at q;rw[if_pos rfl];exact⟨o,ρ,p.2,aF,ah q λp2 _ q H2 e2 gi=>q _ (e1.trans e2) gi⟩
 | false=>rw[hp] at q;rw[if_neg (by simp)];exact q _ e1 aF
def FS {a b:Expr} {rest:List Expr} {a' b':C} {pos:Pos} (ha:PT X a (fw Φ Γ F a')) (hb:PW X (.BoolOp .Or (b::rest) pos) (fw Φ Γ F b')):PW X (.BoolOp .Or (a::b::rest) pos) (fw Φ Γ F (.or a' b')):=xW (HL ha hb) λσ H Q q=>by
 obtain⟨o,ρ,S,er,q⟩:=q;unfold cq at q;rw[ae] at q;refine⟨o,ρ,S,er,ah q λp _ q H1 e1 aF=>?_⟩;cases hp:p.1 with
 | false=>rw[hp] at q;rw[if_neg (by simp)];exact⟨o,ρ,p.2,aF,ah q λp2 _ q H2 e2 gi=>q _ (e1.trans e2) gi⟩
 | true=>rw[hp] at q;rw[if_pos rfl];exact q _ e1 aF
def x6 {a b:C}:(lk (.idx a b)=0\/lk (.idx a b)=2)/\(lk (.idx a b)<=1->lk a<=1):=by grind [lk]
def Gw {a b:Expr} {a' b':C} {pos:Pos} (hK:Φ.K=X.K) (hs:nX b) (ha:PE X a (bT Φ Γ F fr a')) (hb:PE X b (bT Φ Γ F fr b')):PE X (.Subscript a b pos) (bT Φ Γ F fr (.idx a' b')):=bg (HF DU ha hb hs) λσ H Q q=>by
 obtain⟨o,ρ,S,er,q⟩:=q;unfold ev at q;rw[ae] at q;refine⟨o,ρ,S,er,ah q λp _ q x H1 a8 aF=>?_⟩;rw[ae] at q;refine⟨o,ρ,p.2,aF,ah q λp2 _ q y H2 eo2 gi=>?_⟩;rw[ae] at q;obtain⟨z,hz,q⟩:=jM (BM _ _) q;obtain⟨k1,k2,k3⟩:=a8.keep eo2.ext er.gO;refine⟨p.1,p2.1,z,hK▸gW k1,hK▸gW eo2.val,hz,λv pr=>?_⟩;rw[<-hK] at pr;have Nj:∃i,p2.1= .int i:=by
  cases hd:p2.1 with
  | int i=>exact⟨i,rfl⟩
  | _=>rw[hd] at hz;unfold dm at hz;split at hz <;> first | (rename_i h;cases h;done) | (cases hz;done) | contradiction
 obtain⟨i,hi⟩:=Nj;have v2:∀A:Addr->Prop,ff Φ.K A H2 y p2.1:=λA=>by have:=eo2.val;rw[hi] at this ⊢;rw[this.int_inv];exact(RV.dG (K:=Φ.K) (A:=A)).one
 obtain⟨e1,e2⟩:=EO.pr (fr:=fr) (H:=H) (c:= .idx a' b') gi (a8.ext.trans eo2.ext) (aj.cons k1 (aj.cons eo2.val aj.nil)) (λl=>⟨k3 (x6.2 l),v2 _,trivial⟩) x6.1 pr λz=>by simp[fresh] at z
 exact q v H2 e1 e2
def jY {a:Expr} {a':C} (hK:Φ.K=X.K) (ha:PE X a (bT Φ Γ F fr a')) (he:∀whole,isTrue a X.env whole=(do let v<-whole;standAt a.pos;holding [v] (truthy v)))
  (Mr:∀ρ S,cq F a' ρ S=(ev F a' ρ S).bind λx=>(dU x.1).bind λb=> .ok (b,x.2)):PT X a (fw Φ Γ F a'):=sF (xy ha he) λσ H Q q=>by
 obtain⟨o,ρ,S,er,q⟩:=q;rw[Mr,ae] at q;refine⟨o,ρ,S,er,ah q λp _ q x H1 a8 aF=>?_⟩;rw[ae] at q;obtain⟨b,hb,q⟩:=ik (BB _) q;refine⟨b,?_,q _ a8.ext aF⟩;have hv:=a8.val;rw[hK] at hv;unfold dU at hb;split at hb
 ·rename_i hd;rw[hd] at hv;cases hb;rw[hv.aA];rfl
 ·rename_i hd;rw[hd] at hv;cases hb;rw[hv.aE];rfl
 ·rename_i hd;rw[hd] at hv;cases hb;rw[hv.int_inv];rfl
 ·rename_i hd;rw[hd] at hv;obtain⟨g1,hb⟩:=aR hb;cases hb;rw[hv.str_inv];exact⟨Qa (PZ g1) bX,rfl⟩
 ·rename_i hd;rw[hd] at hv;cases hb;obtain⟨a,xs,rfl,h1,_,h2⟩:=hv.lst_inv;refine .inl ⟨xs,d9.of h1,?_⟩;rw[h2.emp]
 ·rename_i hd;rw[hd] at hv;cases hb;obtain⟨a,xs,rfl,h1,h2⟩:=hv.af;refine .inr (.inl ⟨xs,eW.of h1,?_⟩);rw[h2.emp]
 ·rename_i hd;rw[hd] at hv;cases hb;obtain⟨a,rfl,h1⟩:=hv.jc;refine .inl ⟨_,h1,?_⟩;simp
 ·cases hb
end
section
variable {X:Cx} {Φ:Fm} {Γ:Gm} {F:FT} {fr:Nat->Bool} {g:G}
def CG {a b:C} {c:C} (hc:lk c=if lk a<=1 then 0 else 2):(lk c=0\/lk c=2)/\(lk c<=1->lk a<=1):=by grind
def t7 {o:Ow} {ρ:ak} {S:Sx} {σ:L2.St} {H H1 H2:Hp} {a' c:C} {d:Dt} {x:V} {lo hi:Option Int} {Q:VK} (hK:Φ.K=X.K) (hc:lk c=if lk a'<=1 then 0 else 2) (hf:fresh fr c=true->True) (er:ER Φ Γ o ρ S σ H2) (a8:EO Φ.K fr o a' H d x H1) (e:aX o.d H1 H2)
  (q:mR Φ.Ek (iB d lo hi) λz=>∀v H3,EO Φ.K fr o c H z v H3->ER Φ Γ o ρ S σ H3->Q v H3):rS X.K x lo hi H2 Q:=by
 obtain⟨z,hz,q⟩:=jM (Bk _ _ _) q;obtain⟨k1,k2,k3⟩:=a8.keep e er.gO;refine⟨d,z,hK▸gW k1,hz,λv H3 pr=>?_⟩;rw[<-hK] at pr;have hl:=CG (b:=c) hc;obtain⟨e1,e2⟩:=EO.pr (fr:=fr) (H:=H) (c:=c) er (a8.ext.trans e) (aj.cons k1 aj.nil) (λl=>⟨k3 (hl.2 l),trivial⟩) hl.1 pr λ_=>rfl
 exact q v H3 e1 e2
def CI {a l:Expr} {a' l':C} {p2 pos:Pos} (hK:Φ.K=X.K) (ha:PE X a (bT Φ Γ F fr a')) (hl:PE X l (bT Φ Γ F fr l')):PE X (.Subscript a (.Slice (some l) none none p2) pos) (bT Φ Γ F fr (.sliL a' l')):=bg (pR yf ha (uV hl) uU) λσ H Q q=>by
 obtain⟨o,ρ,S,er,q⟩:=q;unfold ev at q;rw[ae] at q;refine⟨o,ρ,S,er,ah q λp _ q x H1 a8 aF=>?_⟩;rw[ae] at q;refine⟨o,ρ,p.2,aF,ah q λp2 _ q y H2 eo2 gi=>?_⟩;split at q
 ·rename_i i hi;have hv:=eo2.val;rw[hi] at hv;refine⟨i,hv.int_inv,?_⟩;rw[ae] at q;exact t7 hK (by rw[lk]) (λ_=>trivial) gi a8 eo2.ext (ah q λz _ q v H3 e1 e2=>q v H3 e1 e2)
 ·exact q.elim
def Dw {a l:Expr} {a' l':C} {p2 pos:Pos} (hK:Φ.K=X.K) (ha:PE X a (bT Φ Γ F fr a')) (hl:PE X l (bT Φ Γ F fr l')):PE X (.Subscript a (.Slice none (some l) none p2) pos) (bT Φ Γ F fr (.sliH a' l')):=bg (pR yf ha uU (uV hl)) λσ H Q q=>by
 obtain⟨o,ρ,S,er,q⟩:=q;unfold ev at q;rw[ae] at q;refine⟨o,ρ,S,er,ah q λp _ q x H1 a8 aF=>?_⟩;rw[ae] at q;refine⟨o,ρ,p.2,aF,ah q λp2 _ q y H2 eo2 gi=>?_⟩;split at q
 ·rename_i i hi;have hv:=eo2.val;rw[hi] at hv;refine⟨i,hv.int_inv,?_⟩;rw[ae] at q;exact t7 hK (by rw[lk]) (λ_=>trivial) gi a8 eo2.ext (ah q λz _ q v H3 e1 e2=>q v H3 e1 e2)
 ·exact q.elim
def Hm:PA X [] (lQ Φ Γ F .nil):=yx gD λσ H Q q=>by obtain⟨o,ρ,S,er,q⟩:=q;exact q _ _ ⟨aX.refl,aj.nil,λ_=>aj.nil,λ_=>trivial⟩ er
def DS {e:Expr} {es:List Expr} {c:C} {cs:Cs} (hs:starEach (e::es) X.env=(false,eval e X.env)::starEach es X.env) (h:PE X e (bT Φ Γ F fr c)) (hr:PA X es (lQ Φ Γ F cs)):PA X (e::es) (lQ Φ Γ F (.cons c cs)):=yx (dy h hr hs) λσ H Q q=>by
 obtain⟨o,ρ,S,er,q⟩:=q;unfold gz at q;rw[ae] at q;refine⟨o,ρ,S,er,ah q λp _ q x H1 a8 aF=>?_⟩;rw[ae] at q;refine⟨o,ρ,p.2,aF,ah q λp2 _ q xs H2 eo2 gi=>?_⟩;obtain⟨k1,k2,k3⟩:=a8.keep eo2.ext er.gO;have el:mJ (.cons c cs)=max (lk c) (mJ cs):=by rw[mJ]
 exact q _ _ ⟨a8.ext.trans eo2.ext,aj.cons k1 eo2.val,λl=>aj.cons (k2 (by omega)) (eo2.df (by omega)),λl=>⟨k3 (by omega),eo2.nK (by omega)⟩⟩ gi
def Cr {cs:Cs} {c:C} (hc:lk c=if mJ cs=0 then 0 else 2):(lk c<=1->lk c=0)/\(lk c=0->mJ cs=0):=by grind
def GE {es:List Expr} {cs:Cs} {x1:Nat} {pos:Pos} (h:PA X es (lQ Φ Γ F cs)):PE X (.Tuple es x1 pos) (bT Φ Γ F fr (.tup cs)):=bg (CY h) λσ H Q q=>by
 obtain⟨o,ρ,S,er,q⟩:=q;unfold ev at q;rw[ae] at q;refine⟨o,ρ,S,er,ah q λp _ q xs H1 a8 aF=>?_⟩;obtain⟨g1,q⟩:=aO q;refine⟨by rw[a8.val.length];exact Qa (PZ g1) bX,λa ha=>?_⟩;have s:=Mx.cD ha (.tup xs);have hl:=Cr (cs:=cs) (c:= .tup cs) (by rw[lk]);have q0:lk (.tup cs)=0->RV Φ.K o.A (upd H1 a (.tup xs)) (.ref a) (.tup p.1):=λl=>RV.dg aC ((a8.df (hl.2 l)).same s)
 exact q _ _ ⟨a8.ext.trans (aX.of_same s),RV.dg aC (a8.val.same s),q0,λl=>(q0 (hl.1 l)).one,λz=>by simp[fresh] at z⟩ (aF.grow s)
def Gy {es:List Expr} {cs:Cs} {pos:Pos} (h:PA X es (lQ Φ Γ F cs)):PE X (.List es pos) (bT Φ Γ F fr (.lst cs)):=bg (EH h) λσ H Q q=>by
 obtain⟨o,ρ,S,er,q⟩:=q;unfold ev at q;rw[ae] at q;refine⟨o,ρ,S,er,ah q λp _ q xs H1 a8 aF=>?_⟩;obtain⟨g1,q⟩:=aO q;refine⟨by rw[a8.val.length];exact Qa (PZ g1) bX,λa ha=>?_⟩;have s:=Mx.cD ha (.lst xs);have hl:=Cr (cs:=cs) (c:= .lst cs) (by rw[lk]);have na:¬o.A a:=λz=>by obtain⟨y,hy⟩:=aF.al a z;rw[ha] at hy;cases hy
 have q0:lk (.lst cs)=0->RV Φ.K o.A (upd H1 a (.lst xs)) (.ref a) (.lst p.1):=λl=>RV.eY aC na ((a8.df (hl.2 l)).same s)
 refine q _ _ ⟨a8.ext.trans (aX.of_same s),RV.eY aC (λz=>na (aF.gO a z)) (a8.val.same s),q0,λl=>(q0 (hl.1 l)).one,λ_ ds e=>?_⟩ (aF.grow s);cases e;exact⟨a,xs,rfl,aF.eD a8.ext ha,aC,(a8.val.avoid ha).same s,λl=>((a8.df (hl.2 l)).avoid ha).same s⟩
def DH (b:BI) (ds:List Dt):∀k,dX b ds≠ .ex k:=by
 intro k;unfold dX;split
 all_goals first
  | (intro z;cases z;done)
  | (exact c9 (λk z=>by cases z) k)
  | (split <;> first | (intro z;cases z;done) | (exact c9 (λk z=>by cases z) k) | (split <;> first | (intro z;cases z;done) | (exact c9 (λk z=>by cases z) k)))
  | (rename_i T d;unfold vW;split <;> (intro z;cases z))
def tP {b:BI} {cs:Cs}:(lk (.bi b cs)=0\/lk (.bi b cs)=2)/\(lk (.bi b cs)<=1->mJ cs<=1):=by grind [lk,mJ]
def yA {b:BI} {cs:Cs} {σ:L2.St} {H:Hp} {Q:VK} (hK:Φ.K=X.K) (q:bT Φ Γ F fr (.bi b cs) σ H Q):KB (rP X.K true (dX b)) (lQ Φ Γ F cs) σ H Q:=by
 obtain⟨o,ρ,S,er,q⟩:=q;unfold ev at q;rw[ae] at q;refine⟨o,ρ,S,er,ah q λp _ q xs H1 a8 aF=>?_⟩;rw[ae] at q;obtain⟨z,hz,q⟩:=jM (DH _ _) q;refine⟨p.1,z,hK▸D8 a8.val,hz,λv H3 pr=>?_⟩;rw[<-hK] at pr;obtain⟨e1,e2⟩:=EO.pr (fr:=fr) (H:=H) (c:= .bi b cs) aF a8.ext a8.val (λl=>a8.nK (tP.2 l)) tP.1 pr λ_=>rfl
 exact q v H3 e1 e2
end
def Cs.len:Cs->Nat
 | .nil=>0
 | .cons _ cs=>cs.len + 1
def uh {F:FT}:∀{cs:Cs} {ρ:ak} {S:Sx} {p:List Dt×Sx},gz F cs ρ S= .ok p->p.1.length=cs.len
 | .nil,ρ,S,p,h=>by unfold gz at h;cases h;rfl
 | .cons c cs,ρ,S,p,h=>by
  unfold gz at h;cases h1:ev F c ρ S with
  | ok x=>
   rw[h1] at h;simp only[R.ax] at h;cases h2:gz F cs ρ x.2 with
   | ok y=>rw[h2] at h;cases h;simp[Cs.len,uh h2]
   | ex k=>rw[h2] at h;cases h
   | bad=>rw[h2] at h;cases h
  | ex k=>rw[h1] at h;cases h
  | bad=>rw[h1] at h;cases h
section
variable {X:Cx} {Φ:Fm} {Γ:Gm} {F:FT} {g:G} {xv:Nat->Value} {CX:lE} {k:Nat}
def qo {H H':Hp} (e:aX (λb=>(none:Option Addr)=some b) H H'):bD H H':=λb o h=>e.kp b o h (by simp)
def rO {K:Frag} {A:Addr->Prop} {H:Hp}:∀{ds:List Dt},ds.all oP=true->aj K A H (ds.map qK) ds
 | [],_=>aj.nil
 | d::ds,h=>by rw[List.all_cons,PX] at h;exact aj.cons (p6 h.1) (rO h.2)
def s_call {x:Str} {f np j:Nat} {fP:List Dt} {e:Expr} {es:List Expr} {cs:Cs} {p pos:Pos} (hX:HX g xv CX k F Φ X) (hG:Gl X x) (zX:(x==("__debug__":Str))=false) (wM:sU x g.fns=some (f,np,fP,false)) (hj:j<=fP.length) (hn:cs.len + (fP.drop j).length=np)
  (hs:starEach (e::es) X.env=(false,eval e X.env)::starEach es X.env) (gL:(backTo pos (starEach es X.env)).any (·.1)=false) (ha:PA X (e::es) (lQ Φ Γ F cs)):PE X (.Call (.Name x p) (e::es) [] pos) (bT Φ Γ F g.fr (.call f cs (fP.drop j))):=by
 obtain⟨n,fx⟩:=hX.fx;obtain⟨fa,fd,ps,yo,hmg,N6,hok,hb,Gb⟩:=fx.fn x f np fP false wM;obtain⟨vt,oR,MZ⟩:=hb j hj;refine bg (Bt hok hX.room hG hmg N6 MZ oR hX.pass ha zX hs gL) λσ H Q q=>?_
 obtain⟨o,ρ,S,er,q⟩:=q;unfold ev at q;rw[ae] at q;refine⟨o,ρ,S,er,ah q λp hp q vs H1 a8 aF=>?_⟩;have Mf:(fP.drop j).all oP=true:=Qz.mpr λd hd=>Qz.mp Gb d (List.mem_of_mem_drop hd)
 rw[ae] at q;have el:lk (.call f cs (fP.drop j))=if mJ cs=0 then 0 else 2:=by rw[lk]
 refine⟨?_,?_⟩
 ·rw[Qf,a8.val.length,P8,uh hp];exact hn
 by_cases hl:mJ cs=0
 ·rw[if_pos hl] at el;refine⟨o.A,none,p.1++fP.drop j,none,vs++(fP.drop j).map qK,⟨rfl,rfl,rfl⟩,?_,aF.al,?_⟩
  ·rw[<-hX.K];exact(a8.df hl).append (rO Mf)
  ·cases hr:F f (p.1++fP.drop j) none with
   | ok y=>rw[hr] at q;intro v H' fo;rw[<-hX.K] at fo;have sm:=qo fo.ext;refine q v H' ⟨a8.ext.trans (aX.of_same sm),fo.val.weak aF.gO,λ_=>fo.val,λ_=>fo.val.one,λfc ds ed=>?_⟩ (aF.grow sm);obtain⟨a,xs,h1,h2,h3,h4⟩:=fo.fu fc ds ed;exact⟨a,xs,h1,aF.eD a8.ext h2,h3,h4.weak λb z=>z.elim (λz=> .inl (aF.gO b z)) .inr,λ_=>h4⟩
   | ex kk=>rw[hr] at q;intro H' e';exact⟨kk,rfl,q,aF.ent.trans (e'.mono λb z=>by cases z)⟩
   | bad=>rw[hr] at q;exact q.elim
 ·rw[if_neg hl] at el;refine⟨o.wd,none,p.1++fP.drop j,none,vs++(fP.drop j).map qK,⟨rfl,rfl,rfl⟩,?_,aF.ym,?_⟩
  ·rw[<-hX.K];exact a8.val.append (rO Mf)
  ·cases hr:F f (p.1++fP.drop j) none with
   | ok y=>rw[hr] at q;intro v H' fo;rw[<-hX.K] at fo;have sm:=qo fo.ext;refine q v H' ⟨a8.ext.trans (aX.of_same sm),fo.val,λz=>by rw[el] at z;omega,λz=>by rw[el] at z;omega,λfc ds ed=>?_⟩ (aF.grow sm);obtain⟨a,xs,h1,h2,h3,h4⟩:=fo.fu fc ds ed;exact⟨a,xs,h1,aF.eD a8.ext h2,h3,h4,λz=>by rw[el] at z;omega⟩
   | ex kk=>rw[hr] at q;intro H' e';exact⟨kk,rfl,q,aF.ent.trans (e'.mono λb z=>by cases z)⟩
   | bad=>rw[hr] at q;exact q.elim
def Aj {t:Str} {T:String} (h:rj t=some T):bootBuiltins t=some (.type T):=by
 unfold rj at h;split at h
 ·rename_i e;cases h;rw[Qm e];exact PyProof.Rows.boot_str
 split at h
 ·rename_i e;cases h;rw[Qm e];exact PyProof.Rows.boot_int
 split at h
 ·rename_i e;cases h;rw[Qm e];exact PyProof.Rows.boot_bool
 split at h
 ·rename_i e;cases h;rw[Qm e];exact PyProof.Rows.boot_list
 split at h
 ·rename_i e;cases h;rw[Qm e];exact PyProof.Rows.boot_tuple
 ·cases h
def Bc {t:Str} {T:String} (h:rj t=some T):T="str"\/T="int"\/T="bool"\/T="list"\/T="tuple":=by grind [rj]
def Dk {K:Frag} {A:Addr->Prop} {H:Hp} {x:V} {d:Dt} {T:String} {b:Bool} (hT:T="str"\/T="int"\/T="bool"\/T="list"\/T="tuple") (hx:RV K A H x d) (h:vW T d= .ok b):∃t,iL K H x t/\PySem.W.kitOne K t (.type T)=some b:=by
 unfold vW at h;split at h
 ·cases h;rw[hx.str_inv];refine⟨_,.str _,?_⟩;rcases hT with rfl | rfl | rfl | rfl | rfl <;> rfl
 ·cases h;rw[hx.int_inv];refine⟨_,.int _,?_⟩;rcases hT with rfl | rfl | rfl | rfl | rfl <;> rfl
 ·cases h;rw[hx.aE];refine⟨_,.bl _,?_⟩;rcases hT with rfl | rfl | rfl | rfl | rfl <;> rfl
 ·cases h;obtain⟨a,xs,rfl,h1,_⟩:=hx.lst_inv;refine⟨_,.lst h1,?_⟩;rcases hT with rfl | rfl | rfl | rfl | rfl <;> rfl
 ·cases h;obtain⟨a,xs,rfl,h1,_⟩:=hx.af;refine⟨_,.tup h1,?_⟩;rcases hT with rfl | rfl | rfl | rfl | rfl <;> rfl
 ·cases h;rw[hx.aA];refine⟨_,.bo,?_⟩;rcases hT with rfl | rfl | rfl | rfl | rfl <;> rfl
 ·cases h
def Aa (T:String) (d:Dt):∀k,vW T d≠ .ex k:=by intro k;unfold vW;split <;> (intro z;cases z)
def Ig {a:Expr} {a':C} {t:Str} {T:String} {p tp pos:Pos} (hK:Φ.K=X.K) (hG:Gl X "isinstance") (hm:X.mg "isinstance"=none) (ND:Gl X t) (OG:X.mg t=none) (hT:rj t=some T) (hn:t≠"__name__") (zX:(t==("__debug__":Str))=false)
  (hs:starEach (a::[.Name t tp]) X.env=(false,eval a X.env)::starEach [.Name t tp] X.env) (ha:PE X a (bT Φ Γ F g.fr a')):PE X (.Call (.Name "isinstance" p) [a,.Name t tp] [] pos) (bT Φ Γ F g.fr (.bi (.isi T) (.cons a' .nil))):=by
 refine bg (qx Mx.wL hG hm PyProof.Rows.boot_isinstance (dy ha (dy (A4 (v:= .ty T) ND OG (Aj hT) rfl hn zX) gD) hs) (by decide) (by decide) hs) λσ H Q q=>?_
 obtain⟨o,ρ,S,er,q⟩:=q;unfold ev gz gz at q;rw[ae,ae] at q;refine⟨o,ρ,S,er,ah q λp hp q x H1 a8 aF=>?_⟩;simp only[R.ax] at q;have q:mR Φ.Ek ((dX (.isi T) [p.1]).bind λd=>R.ok (d,p.2)) _:=q;unfold dX at q;simp only at q;rw[ae,ae] at q;obtain⟨b,hb,q⟩:=ik (Aa _ _) q;obtain⟨ty,k1,k2⟩:=Dk (Bc hT) (hK▸a8.val) hb;refine⟨x,T,ty,b,rfl,k1,k2,q _ _ ?_ aF⟩;exact(EO.sc (Φ:=Φ) (fr:=g.fr) (o:=o) (H:=H1) (c:= .bi (.isi T) (.cons a' .nil)) (d:= .bl b) rfl).u6 a8.ext λf=>by simp[fresh] at f
def boot_set:bootBuiltins "set"=some (.type "set"):=by decide +kernel
def Ha (te:TE):TE:=λσ H Q=>te σ H λv H1=>∃b l ys,v= .ref l/\H1 l=some (Mx.g9 b (ys.map V.str))/\ys.length < 4000/\∀n zs es,H1 n=none->Mx.aZ H1 zs es->es=aT ((dd ys).map Mx.D.str)->Q (.ref n) (upd H1 n (.lst zs))
def Bi {e:Expr} {te:TE} {p p2 pos fz:Pos} (hc:X.calm=true) (hu:X.A.units + 150 < cLine) (hg:Gl X "sorted") (hm:X.mg "sorted"=none) (oY:Gl X "set") (zN:X.mg "set"=none) (he:PE X e te)
  (hs:starEach [e] X.env=[(false,eval e X.env)]) (rL:starEach [.Call (.Name "set" p2) [e] [] fz] X.env=[(false,eval (.Call (.Name "set" p2) [e] [] fz) X.env)]:=by rfl):
  PE X (.Call (.Name "sorted" p) [.Call (.Name "set" p2) [e] [] fz] [] pos) (Ha te):=by
 intro pins s σ H Q I h;refine wpAny_Call_Name_kw (d5 I hg hm PyProof.Rows.boot_sorted ?_ (by decide) (by decide));refine PyProof.Rows.callWith_builtin1 ?_ (by rw[rL];rfl) (by rfl);rw[rL];show wpAny _ _ (spliced ((false,eval (.Call (.Name "set" p2) [e] [] fz) X.env)::backTo pos [])) _ _ s;refine Calls.spliced_cons ?_;refine wpAny_Call_Name_kw (d5 I oY zN boot_set ?_ (by decide) (by decide));refine PyProof.Rows.callWith_type1 ?_ (by rw[hs];rfl) (by rfl);rw[hs];show wpAny _ _ (spliced ((false,eval e X.env)::backTo fz [])) _ _ s;refine Calls.spliced_cons (bN (he pins s σ H _ I h) λu s1 ⟨v,H1,I1,r1,b,l,ys,e1,hl,hlen,q⟩=>?_);subst e1;cases r1;refine Calls.spliced_nil ?_;obtain⟨its,r',pl⟩:=Mx.bp I1 hl;have Mm:its.toArray.size=ys.length:=by have:=r'.length;rw[P8] at this;simp[this]
 refine Mx.nD (I1.ok.hd hc) pl (by simpa using r') (by rw[Mm];unfold scanBound;omega) λh' tk ks hS zt kk=>?_
 refine Calls.spliced_nil ?_;have I2:Inv X pins σ H1 {s1 with heap:=h',toks:=tk}:=I1.kept kk;have fU:ks.Nodup:=by obtain⟨_,_,_,_,z,_⟩:=hS;exact z
 have pm:ks.Perm (dd ys):=lJ fU (kh ys) λx=>(zt x).trans (nE ys x).symm
 refine Mx.rg hu hc I2 hS (by rw[pm.length_eq];exact Nat.lt_of_le_of_lt (yq ys) (Nat.lt_trans hlen (by decide))) λn zs es hn hz hso=>q n zs es hn hz ?_
 exact pE ⟨hso.1.trans (pm.map _),hso.2⟩
def gH {K:Frag} {A:Addr->Prop} {H:Hp} {x:V} {d:Dt} {ds:List Dt} (h:bM d=some ds) (hv:RV K A H x d):∃b l xs,x= .ref l/\H l=some (Mx.g9 b xs)/\aj K A H xs ds:=by
 unfold bM at h;split at h
 ·cases h;obtain⟨a,xs,rfl,f1,fn,f2⟩:=hv.lst_inv;exact⟨false,a,xs,rfl,f1,f2⟩
 ·cases h;obtain⟨a,xs,rfl,f1,f2⟩:=hv.af;exact⟨true,a,xs,rfl,f1,f2⟩
 ·cases h
def El {a:Expr} {a':C} {p p2 pos fz:Pos} (hK:Φ.K=X.K) (hc:X.calm=true) (hu:X.A.units + 150 < cLine) (hG:Gl X "sorted") (hm:X.mg "sorted"=none) (KY:Gl X "set") (zN:X.mg "set"=none) (hs:starEach [a] X.env=[(false,eval a X.env)]) (ha:PE X a (bT Φ Γ F g.fr a')):
  PE X (.Call (.Name "sorted" p) [.Call (.Name "set" p2) [a] [] fz] [] pos) (bT Φ Γ F g.fr (.bi .sset (.cons a' .nil))):=by
 refine bg (Bi hc hu hG hm KY zN ha hs) λσ H Q q=>?_
 obtain⟨o,ρ,S,er,q⟩:=q;unfold ev gz gz at q;rw[ae,ae] at q;refine⟨o,ρ,S,er,ah q λp hp q x H1 a8 aF=>?_⟩;simp only[R.ax] at q;have q:mR Φ.Ek ((dX .sset [p.1]).bind λd=>R.ok (d,p.2)) _:=q;unfold dX at q;simp only at q;split at q
 ·rename_i ds wO;split at q
  ·rename_i ys hys;rw[ae] at q;obtain⟨gl,q⟩:=aO q;obtain⟨b,l,xs,rfl,f1,f2⟩:=gH wO a8.val;rw[pS f2 hys] at f1;refine⟨b,l,ys,rfl,f1,PZ gl,λn zs es hn hz LP=>?_⟩;have pr:PR Φ.K true [.ref l] [p.1] H1 (.lst (aa es)) (.ref n) (upd H1 n (.lst zs)):=PR.nC hn λA w=>aj.oC hz
   have hl:=tP (b:= .sset) (cs:= .cons a' .nil);have el:mJ (.cons a' .nil)=max (lk a') 0:=by rw[mJ,mJ]
   obtain⟨e1,e2⟩:=EO.pr (fr:=g.fr) (H:=H) (c:= .bi .sset (.cons a' .nil)) aF a8.ext (aj.cons a8.val aj.nil) (λl=>⟨a8.nK (by have:=hl.2 l;omega),trivial⟩) hl.1 pr λ_=>rfl
   rw[LP] at e1;exact q _ _ e1 e2
  ·exact q.elim
 ·exact q.elim
def jX {K:Frag} {A:Addr->Prop} {H:Hp} {l:Addr} {d:Dt} {ds:List Dt} {b:Bool} {xs:List V} (h:bM d=some ds) (w:ff K A H (.ref l) d) (f:H l=some (Mx.g9 b xs)):True/\aj K A H xs ds:=by
 refine⟨trivial,?_⟩;unfold bM at h;split at h
 ·cases h;obtain⟨a,nN,e,f1,f2⟩:=w;cases e;rw[f] at f1;cases b with
  | false=>cases f1;exact f2
  | true=>cases f1
 ·cases h;obtain⟨a,nN,e,f1,f2⟩:=w;cases e;rw[f] at f1;cases b with
  | false=>cases f1
  | true=>cases f1;exact f2
 ·cases h
def sf {K:Frag} {A:Addr->Prop} {H:Hp}:∀{xs ys:List V} {ps:List Addr} {ds es:List Dt},aj K A H xs ds->aj K A H ys es->ps.length=min xs.length ys.length->Mx.Zd xs ys H ps->aj K A H (ps.map V.ref) (dR ds es)
 | [],ys,ps,ds,es,h1,h2,hl,hz=>by
  have:ps=[]:=List.length_eq_zero_iff.mp (by simpa using hl);subst this;have e:ds=[]:=by
   cases ds with
   | nil=>rfl
   | cons d r=>exact absurd h1.length (by simp)
  subst e;exact aj.nil
 | x::xs,[],ps,ds,es,h1,h2,hl,hz=>by
  have:ps=[]:=List.length_eq_zero_iff.mp (by simpa using hl);subst this;have e:es=[]:=by
   cases es with
   | nil=>rfl
   | cons d r=>exact absurd h2.length (by simp)
  subst e;unfold dR;rw[List.zipWith_nil_right];exact aj.nil
 | x::xs,y::ys,ps,ds,es,h1,h2,hl,hz=>by
  cases ds with
  | nil=>exact absurd h1.length (by simp)
  | cons d ds=>
   cases es with
   | nil=>exact absurd h2.length (by simp)
   | cons e es=>
    cases ps with
    | nil=>simp at hl
    | cons p ps=>obtain⟨x',r1,e1,k1,k2⟩:=h1.cons_inv;cases e1;obtain⟨y',r2,e2,l1,l2⟩:=h2.cons_inv;cases e2;refine aj.cons (RV.dg (hz 0 x y p rfl rfl rfl) (aj.cons k1 (aj.cons l1 aj.nil))) ?_;exact sf k2 l2 (by simp at hl;omega) λj a b q h1 h2 h3=>hz (j + 1) a b q h1 h2 h3
def EX {a b:Expr} {a' b':C} {p p2 pos fz:Pos} (hK:Φ.K=X.K) (hc:X.calm=true) (hG:Gl X "list") (hm:X.mg "list"=none) (KY:Gl X "zip") (zN:X.mg "zip"=none) (hs:starEach [a,b] X.env=[(false,eval a X.env),(false,eval b X.env)]) (qW:starEach [b] X.env=[(false,eval b X.env)]) (ha:PA X [a,b] (lQ Φ Γ F (.cons a' (.cons b' .nil)))):
  PE X (.Call (.Name "list" p) [.Call (.Name "zip" p2) [a,b] [] fz] [] pos) (bT Φ Γ F g.fr (.bi .zipL (.cons a' (.cons b' .nil)))):=by
 refine bg (Mx.sV hc hG hm KY zN ha hs qW) λσ H Q q=>?_
 obtain⟨o,ρ,S,er,q⟩:=q;unfold ev at q;rw[ae] at q;refine⟨o,ρ,S,er,ah q λp hp q vs H1 eo aF=>?_⟩;obtain⟨p1,p2⟩:=p;have hlen:=eo.val.length
 match p1,vs,eo,q with
 | [d,e],vs,eo,q=>
  obtain⟨x,y,rfl,hx,hy⟩:=uQ eo.val;unfold dX at q;simp only at q;split at q
  ·rename_i ds es wO hes;rw[ae] at q;obtain⟨gl,q⟩:=aO q;obtain⟨b1,l1,xs,rfl,f1,f2⟩:=gH wO hx;obtain⟨b2,l2,ys,rfl,g1,g2⟩:=gH hes hy;refine⟨b1,b2,l1,l2,xs,ys,rfl,f1,g1,?_,λn ps H2 hn uT hN yo hz=>?_⟩
   ·rw[f2.length];exact Qa (PZ gl) bX
   ·have pr:PR Φ.K true [.ref l1,.ref l2] [d,e] H1 (.lst (dR ds es)) (.ref n) H2:=by
     have rv:∀A:Addr->Prop,lK Φ.K A H1 [.ref l1,.ref l2] [d,e]->aj Φ.K A H2 (ps.map V.ref) (dR ds es):=λA w=>by obtain⟨MS,k1⟩:=jX wO w.1 f1;obtain⟨Pm,k2⟩:=jX hes w.2.1 g1;exact sf (k1.same uT) (k2.same uT) yo hz
     refine⟨uT,λA hA w=>RV.eY hN (λz=>?_) (rv A w),λ_ de ee=>⟨n,_,rfl,hn,hN,λA hA w=>?_⟩⟩
     ·obtain⟨o',oO⟩:=hA n z;rw[hn] at oO;cases oO
     ·cases ee;refine(sf ?_ ?_ yo hz)
      ·obtain⟨MS,k1⟩:=jX wO w.1 f1;exact(k1.bH (B:=λb=>A b\/b=n) λb z=>z.elim .inl λe=> .inr (by rw[e];exact hn)).same uT
      ·obtain⟨MS,k1⟩:=jX hes w.2.1 g1;exact(k1.bH (B:=λb=>A b\/b=n) λb z=>z.elim .inl λe=> .inr (by rw[e];exact hn)).same uT
    have hl:=tP (b:= .zipL) (cs:= .cons a' (.cons b' .nil));obtain⟨e1,e2⟩:=EO.pr (fr:=g.fr) (H:=H) (c:= .bi .zipL (.cons a' (.cons b' .nil))) aF eo.ext eo.val (λl=>eo.nK (hl.2 l)) hl.1 pr λ_=>rfl
    exact q _ _ e1 e2
  ·exact q.elim
 | [],vs,eo,q=>exact q.elim
 | [d],vs,eo,q=>exact q.elim
 | d::e::f::r,vs,eo,q=>exact q.elim
end
def KO (K:Frag) (tl:TE):TI:=λσ H R=>tl σ H λx H1=>(∃a xs,x= .ref a/\d9 K H1 a xs/\R (IQ K a) H1)\/(∃a xs,x= .ref a/\eW K H1 a xs/\R (KG K a) H1)
def C1 {X:Cx} {tg l:Expr} {tl:TE} (hl:PE X l tl):PI X tg l (KO X.K tl):=by
 intro pins s σ H R I h;refine bN (hl pins s σ H _ I h) λv s1 ⟨x,H1,I1,r1,q1⟩=>?_
 rcases q1 with ⟨a,xs,e,hq,q⟩ | ⟨a,xs,e,hq,q⟩
 ·subst e;cases r1;obtain⟨its,rv,p,hz⟩:=I1.list hq;refine wpAny_pyIter_list p.isList ?_;refine⟨s1.heap.objs.size,[s1.heap.objs.size],_,_,H1,rfl,I1.kept (t':=s1.toks) λb o e=>PU _ e,ve a _,⟨_,P6 _ rfl,rfl,rfl⟩,λb hb=>?_,q⟩;have e:b=s1.heap.objs.size:=by simpa using hb
  subst e;exact I1.qh (P4 _) (I1.hok.fresh (P4 _))
 ·subst e;cases r1;obtain⟨its,rv,p,hz⟩:=I1.tuple hq;refine wpAny_pyIter_tuple (show s1.heap.IsTuple a its.toArray from p) ?_;refine⟨s1.heap.objs.size,[s1.heap.objs.size],_,_,H1,rfl,I1.kept (t':=s1.toks) λb o e=>PU _ e,sr a _,⟨_,P6 _ rfl,rfl,rfl⟩,λb hb=>?_,q⟩;have e:b=s1.heap.objs.size:=by simpa using hb
  subst e;exact I1.qh (P4 _) (I1.hok.fresh (P4 _))
section
variable {X:Cx} {Φ:Fm} {Γ:Gm} {F:FT} {g:G} {xv:Nat->Value} {CX:lE} {k:Nat} {K:Frag}
def uC {A Y:Addr->Prop} {a:Addr} {xs:List V} {ds:List Dt} {H:Hp} (ha:H a=some (.lst xs)) (hn:¬Y a) (hY:∀b,Y b->A b) (h:aj K A H xs ds):Wk K A Y (IQ K a) H ds where
 go:=λi H1 hi e=>⟨xs,xs[i]'(by rw[h.length];exact hi),d9.of (e.kp _ _ ha hn),by simp⟩
 stop:=λH1 e=>⟨xs,d9.of (e.kp _ _ ha hn),by rw[h.length];exact P4 _⟩
 yld:=λi x H1 H2 hi e y=>by obtain⟨rfl,y⟩:=y;obtain⟨d,h1,h2⟩:=h.get (y xs (d9.of (e.kp _ _ ha hn)));exact⟨bD.refl _,d,h1,λB hB=>(h2.bH (B:=λb=>A b\/B b) λb z=>z.elim .inl (hB b)).mono e (λb z=> .inl (hY b z)) λ_ z=> .inr z⟩
def rY {A Y:Addr->Prop} {a:Addr} {xs:List V} {ds:List Dt} {H:Hp} (ha:H a=some (.tup xs)) (hY:∀b,Y b->A b) (h:aj K A H xs ds):Wk K A Y (KG K a) H ds where
 go:=λi H1 hi e=>⟨xs,xs[i]'(by rw[h.length];exact hi),eW.of (e.tp _ _ ha),by simp⟩
 stop:=λH1 e=>⟨xs,eW.of (e.tp _ _ ha),by rw[h.length];exact P4 _⟩
 yld:=λi x H1 H2 hi e y=>by obtain⟨rfl,y⟩:=y;obtain⟨d,h1,h2⟩:=h.get (y xs (eW.of (e.tp _ _ ha)));exact⟨bD.refl _,d,h1,λB hB=>(h2.bH (B:=λb=>A b\/B b) λb z=>z.elim .inl (hB b)).mono e (λb z=> .inl (hY b z)) λ_ z=> .inr z⟩
def ye {A Y:Addr->Prop} {a:Addr} {ns:List Int} {H:Hp} (ha:(Rd H a (.lst (ns.map V.int))/\¬Y a)\/KL K a (ns.map V.int)):Wk K A Y (IQ K a) H (ns.map Dt.int):=by
 have sq:∀H1,aX Y H H1->d9 K H1 a (ns.map V.int):=λH1 e=>by
  rcases ha with ⟨h,n⟩ | h
  ·exact .inl (xA e n h)
  ·exact .inr h
 refine⟨λi H1 hi e=>?_,λH1 e=>⟨_,sq H1 e,by simp⟩,λi x H1 H2 hi e y=>?_⟩
 ·rw[P8] at hi;exact⟨_,.int ns[i],sq H1 e,by simp[hi]⟩
 ·obtain⟨rfl,y⟩:=y;have:=y _ (sq _ e);rw[Qi] at this;obtain⟨m,h1,rfl⟩:=Qe.mp this;exact⟨bD.refl _,.int m,by simp[h1],λ_ _=>RV.dG⟩
def qR {A Y:Addr->Prop} {lo:Int} {n:Nat} {H:Hp}:Wk K A Y (Jq lo n) H (bh lo n) where
 go:=λi H1 hi e=>by unfold bh at hi;simp at hi;exact hi
 stop:=λH1 e=>by unfold bh;simp only[P8,List.length_range];exact P4 _
 yld:=λi x H1 H2 hi e y=>by obtain⟨rfl,rfl⟩:=y;unfold bh at hi;simp at hi;exact⟨bD.refl _,.int (lo + i),by unfold bh;simp[hi],λ_ _=>RV.dG⟩
def wU {tg a:Expr} {a':C} (hK:Φ.K=X.K) (ha:PE X a (bT Φ Γ F g.fr a')):PI X tg a (nI Φ Γ F (.seq a')):=oH (C1 ha) λσ H Q q=>by
 obtain⟨o,ρ,S,er,q⟩:=q;unfold eG at q;rw[ae] at q;refine⟨o,ρ,S,er,ah q λp he q x H1 a8 aF=>?_⟩;have u4:vF (.seq a')=lk a':=rfl;cases hd:p.1 with
 | lst ds=>
  rw[hd] at q;have hv:=a8.val;have h0:=a8.df;have h1:=a8.nK;rw[hd] at hv h0 h1;obtain⟨b,xs,rfl,f1,fn,f2⟩:=hv.lst_inv;refine .inl ⟨b,xs,rfl,d9.of f1,q _ _ ⟨a8.ext,λl=>?_,λl=>?_,λl=>by unfold ju at l;rw[he] at l;simp only[hd,lG] at l;cases l⟩ aF⟩
  ·rw[<-hK];exact uC f1 (λz=>fn (.inr z)) aF.da (ff.aN (h1 (by rw[u4] at l;exact l)) f1)
  ·rw[<-hK];have:=h0 (by rw[u4] at l;exact l);obtain⟨b',nN,e',g1,gn,g2⟩:=this.lst_inv;cases e';exact uC g1 gn (λ_ z=>z) g2
 | tup ds=>
  rw[hd] at q;have hv:=a8.val;have h0:=a8.df;have h1:=a8.nK;rw[hd] at hv h0 h1;obtain⟨b,xs,rfl,f1,f2⟩:=hv.af;refine .inr ⟨b,xs,rfl,eW.of f1,q _ _ ⟨a8.ext,λl=>?_,λl=>?_,λl=>?_⟩ aF⟩
  ·rw[<-hK];exact rY f1 aF.da (ff.ay (h1 (by rw[u4] at l;exact l)) f1)
  ·rw[<-hK];exact rY f1 (λ_ z=>z) (ff.ay (h0 (by rw[u4] at l;exact l)).one f1)
  ·rw[<-hK];unfold ju at l;rw[he] at l;simp only[hd] at l;exact rY f1 (λ_ z=>z) (ff.ay (hv.lG l:RV Φ.K o.A H1 (.ref b) (.tup ds)).one f1)
 | br ns=>
  rw[hd] at q;have hv:=a8.val;have h0:=a8.df;rw[hd] at hv h0;obtain⟨b,rfl,hb⟩:=hv.dY;have IT:d9 X.K H1 b (ns.map V.int):=by
   rw[<-hK];rcases hb with hb | hb
   ·exact .inl hb.1
   ·exact .inr hb
  refine .inl ⟨b,_,rfl,IT,q _ _ ⟨a8.ext,λl=>?_,λl=>?_,λl=>by unfold ju at l;rw[he] at l;simp only[hd,lG] at l;cases l⟩ aF⟩
  ·rw[<-hK];exact ye (hb.imp (λz=>⟨z.1,λw=>z.2 (.inr w)⟩) id)
  ·rw[<-hK];obtain⟨b',e',jA⟩:=(h0 (by rw[u4] at l;exact l)).dY;cases e';exact ye jA
 | _=>rw[hd] at q;exact q.elim
def CP {tg a:Expr} {a':C} {p pos:Pos} (hG:Gl X "range") (hm:X.mg "range"=none) (hs:starEach [a] X.env=[(false,eval a X.env)]) (ha:PE X a (bT Φ Γ F g.fr a')):PI X tg (.Call (.Name "range" p) [a] [] pos) (nI Φ Γ F (.rng1 a')):=
 oH (u9 hG hm (dy ha gD (by rw[hs];rfl)) hs) λσ H Q q=>by
 obtain⟨o,ρ,S,er,q⟩:=q;unfold eG at q;rw[ae] at q;refine⟨o,ρ,S,er,ah q λp _ q x H1 a8 aF=>?_⟩;cases hd:p.1 with
 | int j=>rw[hd] at q;obtain⟨g1,q⟩:=aO q;rw[PX] at g1;have a1:=PZ g1.1;have a2:=PZ g1.2;have hl:lim=1000000:=rfl;have hv:=a8.val;rw[hd] at hv;exact⟨j,by rw[hv.int_inv],by omega,by omega,q _ _ ⟨a8.ext,λ_=>qR,λ_=>qR,λ_=>qR⟩ aF⟩
 | _=>rw[hd] at q;exact q.elim
def wB {A Y:Addr->Prop} {b1 b2:Bool} {l1 l2:Addr} {xs ys:List V} {ds es:List Dt} {H:Hp} (h1:H l1=some (Mx.g9 b1 xs)) (h2:H l2=some (Mx.g9 b2 ys)) (n1:b1=false->¬Y l1) (n2:b2=false->¬Y l2) (hY:∀b,Y b->A b) (g1:aj K A H xs ds) (g2:aj K A H ys es):Wk K A Y (Mx.K8 b1 b2 l1 l2) H (dR ds es):=by
 have k1:∀H1,aX Y H H1->H1 l1=some (Mx.g9 b1 xs):=λH1 e=>by
  cases b1 with
  | false=>exact e.kp _ _ h1 (n1 rfl)
  | true=>exact e.tp _ _ h1
 have k2:∀H1,aX Y H H1->H1 l2=some (Mx.g9 b2 ys):=λH1 e=>by
  cases b2 with
  | false=>exact e.kp _ _ h2 (n2 rfl)
  | true=>exact e.tp _ _ h2
 have hz:(dR ds es).length=min xs.length ys.length:=by unfold dR;rw[List.length_zipWith,g1.length,g2.length]
 refine⟨λi H1 hi e=>?_,λH1 e=>?_,λi x H1 H2 hi e y=>?_⟩
 ·rw[hz] at hi;exact⟨xs,ys,xs[i]'(by omega),ys[i]'(by omega),k1 H1 e,k2 H1 e,by simp,by simp⟩
 ·exact⟨xs,ys,k1 H1 e,k2 H1 e,by omega⟩
 ·obtain⟨p,x1,y1,rfl,hp,rfl,q⟩:=y;obtain⟨q1,q2⟩:=q xs ys (k1 H1 e) (k2 H1 e);obtain⟨d,a1,a2⟩:=g1.get q1;obtain⟨c,c1,c2⟩:=g2.get q2;have s:=Mx.cD hp (.tup [x1,y1]);refine⟨s,.tup [d,c],by unfold dR;rw[List.getElem?_zipWith,a1,c1],λB hB=>RV.dg aC ?_⟩;have av:∀{v:V} {dd:Dt},RV K A H v dd->RV K B (upd H1 p (.tup [x1,y1])) v dd:=λh=>((h.bH (B:=λb=>A b\/B b) λb z=>z.elim .inl (hB b)).mono e (λb z=> .inl (hY b z)) λ_ z=> .inr z).same s
  exact aj.cons (av a2) (aj.cons (av c2) aj.nil)
def cN {A B:Addr->Prop} {H:Hp} {x:V} {d:Dt} {ds:List Dt} (h:bM d=some ds) (hv:RV K A H x d) (h1:ff K B H x d):∃b l xs,x= .ref l/\H l=some (Mx.g9 b xs)/\(b=false->¬A l)/\aj K B H xs ds:=by
 unfold bM at h;split at h
 ·cases h;obtain⟨a,xs,rfl,f1,fn,f2⟩:=hv.lst_inv;exact⟨false,a,xs,rfl,f1,λ_=>fn,ff.aN h1 f1⟩
 ·cases h;obtain⟨a,xs,rfl,f1,f2⟩:=hv.af;exact⟨true,a,xs,rfl,f1,λz=>(by cases z),ff.ay h1 f1⟩
 ·cases h
def GM {es:List Expr} {kk:Nat} {tp:Pos} {a b:Expr} {a' b':C} {p pos:Pos} (hK:Φ.K=X.K) (hG:Gl X "zip") (hm:X.mg "zip"=none) (hs:starEach [a,b] X.env=[(false,eval a X.env),(false,eval b X.env)]) (rL:starEach [b] X.env=[(false,eval b X.env)]) (ha:PE X a (bT Φ Γ F g.fr a')) (hb:PE X b (bT Φ Γ F g.fr b')):
  PI X (.Tuple es kk tp) (.Call (.Name "zip" p) [a,b] [] pos) (nI Φ Γ F (.zip a' b')):=
 oH (Mx.Az hG hm (dy ha (dy hb gD (by rw[rL];rfl)) (by rw[hs,rL])) hs rL) λσ H Q q=>by
 obtain⟨o,ρ,S,er,q⟩:=q;unfold eG at q;rw[ae] at q;refine⟨o,ρ,S,er,ah q λp _ q x H1 a8 aF=>?_⟩;rw[ae] at q;refine⟨o,ρ,p.2,aF,ah q λp2 _ q y H2 eo2 gi=>?_⟩;have u4:vF (.zip a' b')=max (lk a') (lk b'):=rfl;split at q
 ·rename_i ds es e1 e2;obtain⟨k1,k2,k3⟩:=a8.keep eo2.ext er.gO;obtain⟨c1,l1,xs,rfl,f1,J7,f2⟩:=cN e1 k1 k1.one;obtain⟨c2,l2,ys,rfl,g1,NL,g2⟩:=cN e2 eo2.val eo2.val.one;refine⟨c1,c2,l1,l2,xs,ys,rfl,f1,g1,q _ _ ⟨a8.ext.trans eo2.ext,λl=>?_,λl=>?_,λl=>by unfold ju at l;cases l⟩ gi⟩
  ·rw[u4] at l;obtain⟨yC,J5,nN,e',qN,_,Eo⟩:=cN e1 k1 (k3 (by omega));obtain⟨Gx,Oo,Jc,Cu,DE,_,LO⟩:=cN e2 eo2.val (eo2.nK (by omega));cases e';cases Cu;have i1:c1=yC/\xs=nN:=by rw[f1] at qN;cases c1 <;> cases yC <;> first | (cases qN;exact⟨rfl,rfl⟩) | cases qN
   have i2:c2=Gx/\ys=Jc:=by rw[g1] at DE;cases c2 <;> cases Gx <;> first | (cases DE;exact⟨rfl,rfl⟩) | cases DE
   obtain⟨rfl,rfl⟩:=i1;obtain⟨rfl,rfl⟩:=i2;exact wB f1 g1 (λz w=>J7 z (.inr w)) (λz w=>NL z (.inr w)) gi.da Eo LO
  ·rw[u4] at l;obtain⟨yC,J5,nN,e',qN,GW,Eo⟩:=cN e1 (k2 (by omega)) (k2 (by omega)).one;obtain⟨Gx,Oo,Jc,Cu,DE,Jb,LO⟩:=cN e2 (eo2.df (by omega)) (eo2.df (by omega)).one;cases e';cases Cu;have i1:c1=yC/\xs=nN:=by rw[f1] at qN;cases c1 <;> cases yC <;> first | (cases qN;exact⟨rfl,rfl⟩) | cases qN
   have i2:c2=Gx/\ys=Jc:=by rw[g1] at DE;cases c2 <;> cases Gx <;> first | (cases DE;exact⟨rfl,rfl⟩) | cases DE
   obtain⟨rfl,rfl⟩:=i1;obtain⟨rfl,rfl⟩:=i2;exact wB f1 g1 GW Jb (λ_ z=>z) Eo LO
 ·exact q.elim
def mL:∀(ds:List Dt) (k i:Nat) (d:Dt),ds[i]?=some d->(dI k ds)[i]?=some (.tup [.int ((k + i:Nat):Int),d])
 | [],k,i,d,h=>by simp at h
 | x::ds,k,0,d,h=>by simp at h;subst h;rfl
 | x::ds,k,i + 1,d,h=>by have:=mL ds (k + 1) i d (by simpa using h);show (dI (k + 1) ds)[i]?=_;rw[this,show k + 1 + i=k + (i + 1) by omega]
def mq:∀(ds:List Dt) (k:Nat),(dI k ds).length=ds.length
 | [],_=>rfl
 | x::ds,k=>by show (dI (k + 1) ds).length + 1=_;rw[mq ds (k + 1)];rfl
def tO {A Y:Addr->Prop} {b:Bool} {l:Addr} {xs:List V} {ds:List Dt} {H:Hp} (h1:H l=some (Mx.g9 b xs)) (n1:b=false->¬Y l) (hY:∀b,Y b->A b) (g1:aj K A H xs ds):Wk K A Y (Mx.LA b l) H (dI 0 ds):=by
 have k1:∀H1,aX Y H H1->H1 l=some (Mx.g9 b xs):=λH1 e=>by
  cases b with
  | false=>exact e.kp _ _ h1 (n1 rfl)
  | true=>exact e.tp _ _ h1
 have hl:=g1.length;have hz:=mq ds 0;refine⟨λi H1 hi e=>?_,λH1 e=>?_,λi x H1 H2 hi e y=>?_⟩
 ·exact⟨xs,xs[i]'(by omega),k1 H1 e,by simp⟩
 ·exact⟨xs,k1 H1 e,by omega⟩
 ·obtain⟨p,x1,rfl,hp,rfl,q⟩:=y;have q1:=q xs (k1 H1 e);obtain⟨d,a1,a2⟩:=g1.get q1;have s:=Mx.cD hp (.tup [.int i,x1]);refine⟨s,.tup [.int i,d],by rw[mL ds 0 i d a1,Nat.zero_add],λB hB=>RV.dg aC ?_⟩;exact aj.cons RV.dG (aj.cons (((a2.bH (B:=λb=>A b\/B b) λb z=>z.elim .inl (hB b)).mono e (λb z=> .inl (hY b z)) λ_ z=> .inr z).same s) aj.nil)
def C4 {es:List Expr} {kk:Nat} {tp:Pos} {a:Expr} {a':C} {p pos:Pos} (hK:Φ.K=X.K) (hG:Gl X "enumerate") (hm:X.mg "enumerate"=none) (hs:starEach [a] X.env=[(false,eval a X.env)]) (ha:PE X a (bT Φ Γ F g.fr a')):
  PI X (.Tuple es kk tp) (.Call (.Name "enumerate" p) [a] [] pos) (nI Φ Γ F (.enum a')):=
 oH (Mx.xH hG hm (dy ha gD (by rw[hs];rfl)) hs) λσ H Q q=>by
 obtain⟨o,ρ,S,er,q⟩:=q;unfold eG at q;rw[ae] at q;refine⟨o,ρ,S,er,ah q λp _ q x H1 a8 aF=>?_⟩;have u4:vF (.enum a')=lk a':=rfl;split at q
 ·rename_i ds e1;obtain⟨c1,l1,xs,rfl,f1,J7,f2⟩:=cN e1 a8.val a8.val.one;refine⟨c1,l1,xs,rfl,f1,q _ _ ⟨a8.ext,λl=>?_,λl=>?_,λl=>by unfold ju at l;cases l⟩ aF⟩
  ·rw[u4] at l;obtain⟨yC,J5,nN,e',qN,_,Eo⟩:=cN e1 a8.val (a8.nK l);cases e';have i1:c1=yC/\xs=nN:=by rw[f1] at qN;cases c1 <;> cases yC <;> first | (cases qN;exact⟨rfl,rfl⟩) | cases qN
   obtain⟨rfl,rfl⟩:=i1;exact tO f1 (λz w=>J7 z (.inr w)) aF.da Eo
  ·rw[u4] at l;obtain⟨yC,J5,nN,e',qN,GW,Eo⟩:=cN e1 (a8.df l) (a8.df l).one;cases e';have i1:c1=yC/\xs=nN:=by rw[f1] at qN;cases c1 <;> cases yC <;> first | (cases qN;exact⟨rfl,rfl⟩) | cases qN
   obtain⟨rfl,rfl⟩:=i1;exact tO f1 GW (λ_ z=>z) Eo
 ·exact q.elim
end
def y8:List Nat->zC
 | []=>De
 | i::is=>xC (eB i) (y8 is)
def Cf (K:Frag):Tg->TG
 | .nm i=>eB i
 | .tp is=>E0 K is.length (y8 is)
section
variable {X:Cx} {Φ:Fm} {Γ:Gm} {F:FT} {g:G} {xv:Nat->Value} {CX:lE} {k:Nat} {K:Frag}
theorem lC {x:Str} {i:Nat} (h:gw Γ x=some i):yl (Γ.names.lookup x)=true/\eM x=true/\Γ.N[i]?=some x:=by grind [gw,oG]
def u3 {x:Str} {i:Nat} (h:slot Γ x=some i):xY (Γ.names.lookup x)=true/\eM x=true/\Γ.N[i]?=some x:=by grind [slot,oG]
theorem iA {e:Expr} {i:Nat} (h:mw Γ e=some i):∃x p,e= .Name x p/\gw Γ x=some i/\plainS Γ i=true:=by
 unfold mw at h;split at h
 ·rename_i x p;obtain⟨j,h1,h2⟩:=PQ.mp h;split at h2
  ·cases h2;exact⟨x,p,rfl,h1,by assumption⟩
  ·cases h2
 ·cases h
def BS {e:Expr} {i:Nat} (gx:GX g Γ X) (h:mw Γ e=some i):PG X e (eB i):=by grind [iA,lC,Ah,GX,mw,PG,eB]
def B6 (gx:GX g Γ X):∀{es:List Expr} {is:List Nat},i7 Γ es=some is->Hu X es (y8 is)/\es.length=is.length/\∀e∈es,∃x p,e= .Name x p
 | [],is,h=>by cases h;exact⟨Bu,rfl,λe z=>by cases z⟩
 | e::es,is,h=>by
  unfold i7 at h;obtain⟨i,h1,h2⟩:=PQ.mp h;obtain⟨js,h3,rfl⟩:=Qe.mp h2;obtain⟨k1,k2,k3⟩:=B6 gx h3;obtain⟨x,p,ex,_⟩:=iA h1;refine⟨yD (BS gx h1) k1 (by subst ex;rfl),by simp[k2],λe' z=>?_⟩;rcases Qb.mp z with rfl | z
  ·exact⟨x,p,ex⟩
  ·exact k3 e' z
def kO {env:Env}:∀{es:List Expr},(∀e∈es,∃x p,e=Expr.Name x p)->(assignEach es env).length=es.length/\(assignEach es env).findIdx? (·.1)=none
 | [],_=>⟨rfl,rfl⟩
 | e::es,h=>by
  obtain⟨x,p,rfl⟩:=h e P5;obtain⟨h1,h2⟩:=kO (es:=es) (env:=env) λe' z=>h e' (P1 _ z)
  have q:assignEach (Expr.Name x p::es) env=(false,assign (.Name x p) env)::assignEach es env:=rfl;rw[q];refine⟨by simp[h1],?_⟩;rw[List.findIdx?_cons];simp[h2]
def sT {e:Expr} {t:Tg} (gx:GX g Γ X) (h:sM Γ e=some t):PG X e (Cf X.K t):=by
 unfold sM at h;split at h
 ·obtain⟨i,h1,rfl⟩:=Qe.mp h;exact BS gx h1
 ·obtain⟨is,h1,rfl⟩:=Qe.mp h;obtain⟨k1,k2,k3⟩:=B6 gx h1;obtain⟨n1,n2⟩:=kO (env:=X.env) k3;exact Dd gx.calm k1 (by rw[n1,k2]) n2
 ·cases h
def fE {e:Expr} {t:Tg} (h:sM Γ e=some t):∀i∈aU t,plainS Γ i=true/\∃x,gw Γ x=some i:=by
 have many:∀{es:List Expr} {is:List Nat},i7 Γ es=some is->∀i∈is,plainS Γ i=true/\∃x,gw Γ x=some i:=by
  intro es
  induction es with
  | nil=>intro is h i hi;cases h;cases hi
  | cons e es ih=>
   intro is h i hi;unfold i7 at h;obtain⟨j,h1,h2⟩:=PQ.mp h;obtain⟨js,h3,rfl⟩:=Qe.mp h2;rcases Qb.mp hi with rfl | hi
   ·obtain⟨x,p,_,k1,k2⟩:=iA h1;exact⟨k2,x,k1⟩
   ·exact ih h3 i hi
 unfold sM at h;split at h
 ·obtain⟨j,h1,rfl⟩:=Qe.mp h;intro i hi;have:i=j:=by simpa [aU] using hi
  subst this;obtain⟨x,p,_,k1,k2⟩:=iA h1;exact⟨k2,x,k1⟩
 ·obtain⟨is,h1,rfl⟩:=Qe.mp h;exact many h1
 ·cases h
def iq {i:Nat} (h:plainS Γ i=true):fm Γ i=false/\Γ.δ≠some i:=by grind [plainS]
def ER.set {o:Ow} {ρ:ak} {S:Sx} {σ:L2.St} {H:Hp} {i:Nat} {v:V} {d:Dt} (er:ER Φ Γ o ρ S σ H) (hp:plainS Γ i=true) (h:RV Φ.K o.A H v d):ER Φ Γ o (ρ.set i (some d)) S (σ.set i (some v)) H where
 len:=by rw[List.length_set,List.length_set];exact er.len
 wa:=er.wa
 da:=er.da
 al:=er.al
 val:=λj e he=>by
  by_cases hj:j=i
  ·subst hj;rw[List.getElem?_set] at he;simp only[if_true] at he;split at he
   ·rename_i cQ;cases he;refine⟨v,by rw[QI (by rw[er.len];exact cQ)],?_⟩;rw[(iq hp).1,if_neg (by simp)];exact h
   ·cases he
  ·rw[Qg (Ne.symm hj)] at he;obtain⟨w,h1,h2⟩:=er.val j e he;exact⟨w,by rw[Qg (Ne.symm hj)];exact h1,h2⟩
 inj:=λa b c e f ha hb h1 h2 h3 h4=>by
  have na:a≠i:=λz=>by rw[z,(iq hp).1] at ha;cases ha
  have nb:b≠i:=λz=>by rw[z,(iq hp).1] at hb;cases hb
  rw[Qg (Ne.symm na)] at h1 h3;rw[Qg (Ne.symm nb)] at h2 h4;exact er.inj a b c e f ha hb h1 h2 h3 h4
 drw:=er.drw
 drn:=er.drn
 drs:=λj a hj ha=>by rw[Qg (λz=>(iq hp).2 (by rw[z];exact hj))];exact er.drs j a hj ha
 dr0:=er.dr0
 ent:=er.ent
def tF {o:Ow} {S:Sx} {H:Hp} {Q:L2.St->Hp->Prop}:∀{is:List Nat} {ds:List Dt} {xs:List V} {ρ ρ1:ak} {σ:L2.St},ER Φ Γ o ρ S σ H->(∀i∈is,plainS Γ i=true)->aj Φ.K o.A H xs ds->dZ is ds ρ= .ok ρ1->(∀σ1,ER Φ Γ o ρ1 S σ1 H->(∀k,k∉is->σ1[k]?=σ[k]?/\ρ1[k]?=ρ[k]?)->Q σ1 H)->y8 is xs σ H Q/\xs.length=is.length
 | [],ds,xs,ρ,ρ1,σ,er,_,hx,h,q=>by
  cases ds with
  | nil=>cases h;rw[hx.nil_inv];exact⟨⟨rfl,q σ er λ_ _=>⟨rfl,rfl⟩⟩,rfl⟩
  | cons=>cases h
 | i::is,ds,xs,ρ,ρ1,σ,er,hp,hx,h,q=>by
  cases ds with
  | nil=>cases h
  | cons d ds=>
   obtain⟨x,r,rfl,h1,h2⟩:=hx.cons_inv;obtain⟨k1,k2⟩:=tF (er.set (hp i P5) h1) (λj hj=>hp j (P1 _ hj)) h2 h λσ1 aF hk=>q σ1 aF λk wo=>by
    have n1:k≠i:=λz=>wo (by rw[z];exact P5)
    obtain⟨a1,a2⟩:=hk k λz=>wo (P1 _ z)
    rw[Qg (Ne.symm n1)] at a1 a2;exact⟨a1,a2⟩
   exact⟨⟨x,r,rfl,k1⟩,by simp[k2]⟩
def w5 {o:Ow} {S:Sx} {H:Hp} {Q:L2.St->Hp->Prop} {t:Tg} {d:Dt} {x:V} {ρ ρ1:ak} {σ:L2.St} (er:ER Φ Γ o ρ S σ H) (hp:∀i∈aU t,plainS Γ i=true) (hx:RV Φ.K o.A H x d) (h:cA t d ρ= .ok ρ1) (q:∀σ1,ER Φ Γ o ρ1 S σ1 H->(∀k,k∉aU t->σ1[k]?=σ[k]?/\ρ1[k]?=ρ[k]?)->Q σ1 H):Cf Φ.K t x σ H Q:=by
 cases t with
 | nm i=>
  cases h;exact q _ (er.set (hp i (by simp[aU])) hx) λk hk=>by
   have n1:k≠i:=λz=>hk (by simp[aU,z])
   rw[Qg (Ne.symm n1),Qg (Ne.symm n1)];exact⟨rfl,rfl⟩
 | tp is=>
  unfold cA at h;cases d with
  | tup ds=>obtain⟨a,xs,rfl,h1,h2⟩:=hx.af;obtain⟨k1,k2⟩:=tF er hp h2 h q;exact⟨a,xs,rfl,eW.of h1,k2,k1⟩
  | _=>cases h
def pK:∀(is:List Nat) (ds:List Dt) (ρ:ak) (k:Nat),dZ is ds ρ≠ .ex k
 | [],[],_,_=>λz=>by cases z
 | [],_::_,_,_=>λz=>by cases z
 | _::_,[],_,_=>λz=>by cases z
 | _::is,_::ds,ρ,k=>pK is ds _ k
def qC (t:Tg) (d:Dt) (ρ:ak):∀k,cA t d ρ≠ .ex k:=by
 intro k;cases t with
 | nm i=>intro z;cases z
 | tp is=>
  cases d with
  | tup ds=>exact pK is ds ρ k
  | _=>intro z;cases z
def o4 {Ek:Nat->Prop} {α:Type} {r:R α} {P:α->Prop} (oU:∀k,r≠ .ex k) (h:mR Ek r P):∃d,r= .ok d/\P d:=by grind [ex,R,mR]
def rQ {sc:Scope} (gx:GX g Γ X) (hk:sc.kind= .function) (hb:xf sc.names Γ.names (aY Γ sc).1.N Γ.N (aY Γ sc).2=true):eU X sc (aY Γ sc).1.N (aY Γ sc).2:=by grind [xf,aY,GX,eU]
def eN {sc:Scope} {C:Addr} {s:Shared} {H:Hp} {fp:List Addr} {xe:Value->Shared->Prop} (gx:GX g Γ X) (B:eU X sc (aY Γ sc).1.N (aY Γ sc).2) (fU:(aY Γ sc).1.N.Nodup):GX g (aY Γ sc).1 (fq X sc (aY Γ sc).1.N C s H fp xe) where
 N:=rfl
 nd:=fU
 vis:=λx h=>by
  have hn:(aY Γ sc).1.names=sc.names:=rfl;rw[hn] at h;cases hl:sc.names.lookup x with
  | none=>rw[hl] at h;cases h
  | some kk=>
   have q:=aV (env:=X.env) hl;have q':(fq X sc (aY Γ sc).1.N C s H fp xe).env.scope.names.lookup x=_:=q;by_cases hc:(kk==NameKind.free&&X.env.scope.kind== .function&&X.env.kindOf x==some .cell)=true
   ·rw[if_pos hc] at q';exact .inr (.inl q')
   ·rw[if_neg hc] at q';rw[hl] at h;cases kk with
    | «local»=>exact .inl q'
    | cell=>exact .inr (.inl q')
    | free=>exact .inr (.inr q')
    | globalExplicit=>cases h
    | globalImplicit=>cases h
 loc:=λx h=>by
  have hn:(aY Γ sc).1.names=sc.names:=rfl;rw[hn] at h;cases hl:sc.names.lookup x with
  | none=>rw[hl] at h;cases h
  | some kk=>
   have q:=aV (env:=X.env) hl;have q':(fq X sc (aY Γ sc).1.N C s H fp xe).env.scope.names.lookup x=_:=q;rw[hl] at h;cases kk with
   | «local»=>rw[if_neg (by simp)] at q';exact⟨.inl q',.inr q'⟩
   | cell=>rw[if_neg (by simp)] at q';exact⟨.inr q',.inl (by show (sc.names.lookup x==some .cell)=true;rw[hl];rfl)⟩
   | free=>cases h
   | globalExplicit=>cases h
   | globalImplicit=>cases h
 gl:=λx h=>by
  have hn:(aY Γ sc).1.names=sc.names:=rfl;rw[hn] at h;cases hl:sc.names.lookup x with
  | none=>rw[hl] at h;cases h
  | some kk=>
   have q:=aV (env:=X.env) hl;have q':(fq X sc (aY Γ sc).1.N C s H fp xe).env.scope.names.lookup x=_:=q;rw[hl] at h;cases kk with
   | globalImplicit=>rw[if_neg (by simp)] at q';exact q'
   | «local»=>cases h
   | cell=>cases h
   | free=>cases h
   | globalExplicit=>cases h
 fre:=λx h=>by
  have hn:(aY Γ sc).1.names=sc.names:=rfl;rw[hn] at h;rcases h with hl | hl
  ·have q:=aV (env:=X.env) hl;have q':(fq X sc (aY Γ sc).1.N C s H fp xe).env.scope.names.lookup x=_:=q;rw[if_neg (by simp)] at q';exact .inl q'
  ·have q:=aV (env:=X.env) hl;have q':(fq X sc (aY Γ sc).1.N C s H fp xe).env.scope.names.lookup x=_:=q;by_cases hc:(NameKind.free==NameKind.free&&X.env.scope.kind== .function&&X.env.kindOf x==some .cell)=true
   ·rw[if_pos hc] at q';exact .inl q'
   ·rw[if_neg hc] at q';exact .inr q'
 calm:=gx.calm
 un:=gx.un
 con:=gx.con
 bl:=gx.bl
end
def join_some {α:Type} {o:Option (Option α)} {a:α} (h:o.join=some a):o=some (some a):=by
 cases o with
 | none=>cases h
 | some x=>cases x with
  | none=>cases h
  | some y=>simp at h;rw[h]
def iN {cJ:List (Option Nat)} {ρ:ak} {j:Nat} {d:Dt} (h:(lM cJ ρ)[j]?=some (some d)):∃i,cJ[j]?=some (some i)/\ρ[i]?=some (some d):=by
 unfold lM at h;rw[Qi] at h;cases hc:cJ[j]? with
 | none=>rw[hc] at h;cases h
 | some o=>
  rw[hc] at h;cases o with
  | none=>cases h
  | some i=>refine⟨i,rfl,join_some ?_⟩;simpa using h
def ek {cJ:List (Option Nat)} {σ:L2.St} {i j:Nat} {v:V} (hc:cJ[j]?=some (some i)) (h:σ[i]?=some (some v)):(dc cJ σ)[j]?=some (some v):=by unfold dc;rw[Qi,hc];simp[h]
def uw {δ:Option Nat}:∀{cJ:List (Option Nat)} {j:Nat},Fw δ cJ=some j->∃i,δ=some i/\cJ[j]?=some (some i)
 | [],j,h=>by simp[Fw] at h
 | o::r,j,h=>by
  unfold Fw at h;split at h
  ·rename_i c;rw[PX] at c;cases h;cases δ with
   | none=>simp at c
   | some i=>exact⟨i,rfl,by simp[Qm c.2]⟩
  ·obtain⟨k,h1,rfl⟩:=Qe.mp h;obtain⟨i,h2,h3⟩:=uw h1;exact⟨i,h2,by simpa using h3⟩
section
variable {X:Cx} {Φ:Fm} {Γ:Gm} {F:FT} {g:G} {xv:Nat->Value} {CX:lE} {k:Nat} {K:Frag}
def Ow.plus (o:Ow) (D:Addr):Ow:=⟨o.W,λb=>o.A b\/b=D,o.dr⟩
def jG {sc:Scope} {i j:Nat} (hc:(aY Γ sc).2[j]?=some (some i)):fm (aY Γ sc).1 j=fm Γ i:=by grind [aY,Gh,fm]
theorem ER.aY {sc:Scope} {o:Ow} {ρ:ak} {S:Sx} {σ:L2.St} {H:Hp} {D:Addr} (er:ER Φ Γ o ρ S σ H) (B:eU X sc (aY Γ sc).1.N (aY Γ sc).2) (fU:(Rx.aY Γ sc).1.N.Nodup) (hD:H D=none):
  ER Φ (Rx.aY Γ sc).1 (o.plus D) (lM (Rx.aY Γ sc).2 ρ) S (dc (Rx.aY Γ sc).2 σ) (upd H D (.lst [])):=by
 have s:=Mx.cD hD (.lst []);have av:∀b,(o.A b\/b=D)->o.A b\/H b=none:=λb z=>z.elim .inl λe=> .inr (by rw[e];exact hD)
 refine⟨?_,λa h=> .inl (er.wa a h),λa h=> .inl (er.da a h),λa h=>?_,λj d h=>?_,λj j' a d e hm hm' h1 h2 h3 h4=>?_,λa h=>?_,er.drn,λj a hj ha=>?_,er.dr0,er.ent.trans (aX.of_same s)⟩
 ·unfold dc lM;rw[P8,P8]
 ·rcases h with h | h
  ·obtain⟨x,hx⟩:=er.al a h;exact⟨x,s _ _ hx⟩
  ·subst h;exact⟨_,aC⟩
 ·obtain⟨i,hc,hr⟩:=iN h;obtain⟨v,h1,h2⟩:=er.val i d hr;refine⟨v,ek hc h1,?_⟩;rw[jG hc];by_cases hm:fm Γ i=true
  ·rw[if_pos hm] at h2 ⊢;cases d with
   | lst ds=>obtain⟨a,xs,e1,e2,e3,e4,e5,e6,e7⟩:=h2;exact⟨a,xs,e1,s _ _ e2,.inl e3,e4,e5,e6,(e7.bH av).same s⟩
   | _=>exact RV.same (RV.bH av h2) s
  ·rw[if_neg hm] at h2 ⊢;exact(h2.bH av).same s
 ·obtain⟨i,hc,hr⟩:=iN h1;obtain⟨i',n9,cX⟩:=iN h2;rw[jG hc] at hm;rw[jG n9] at hm';obtain⟨v,k1,_⟩:=er.val i _ hr;obtain⟨v',Jk,_⟩:=er.val i' _ cX;rw[ek hc k1] at h3;rw[ek n9 Jk] at h4;cases h3;cases h4;have:=er.inj i i' a d e hm hm' hr cX k1 Jk;subst this;obtain⟨x,n1,n2,_⟩:=B.Aq j i hc;obtain⟨x',GW,Jb,_⟩:=B.Aq j' i n9;rw[n2] at Jb;cases Jb;exact kY fU n1 GW
 ·obtain⟨ns,e1,e2⟩:=er.drw a h;exact⟨ns,e1,s _ _ e2⟩
 ·obtain⟨i,h1,h2⟩:=uw (show Fw Γ.δ (Rx.aY Γ sc).2=some j from hj);exact ek h2 (er.drs i a h1 ha)
def wX {sc:Scope} {x:Str} {i:Nat} (B:eU X sc (aY Γ sc).1.N (aY Γ sc).2) (h:gw (aY Γ sc).1 x=some i):(aY Γ sc).2[i]?=some none:=by
 obtain⟨a,b,c⟩:=lC h;have cQ:i < (aY Γ sc).2.length:=by rw[B.len];exact(P0.mp c).1
 cases hc:(aY Γ sc).2[i]? with
 | none=>rw[List.getElem?_eq_none_iff] at hc;omega
 | some o=>
  cases o with
  | none=>rfl
  | some j=>obtain⟨y,n1,_,n3⟩:=B.Aq i j hc;rw[c] at n1;cases n1;have hn:(aY Γ sc).1.names=sc.names:=rfl;rw[hn,n3] at a;cases a
def qY {cJ:List (Option Nat)} {σ:L2.St} {i:Nat} (h:cJ[i]?=some none):(dc cJ σ)[i]?=some none:=by unfold dc;rw[Qi,h];rfl
def kE {σ0:L2.St} {t:Tg} {K:Frag} (h:∀i∈aU t,σ0[i]?=some none):GL σ0 (Cf K t):=by
 have many:∀{is:List Nat},(∀i∈is,σ0[i]?=some none)->Iu σ0 (y8 is):=by
  intro is
  induction is with
  | nil=>intro _;exact BH
  | cons i is ih=>intro hs;exact wu (hs i P5) (ih λj hj=>hs j (P1 _ hj))
 cases t with
 | nm i=>exact AK (h i (by simp[aU]))
 | tp is=>exact DX (many h)
def ou {sc:Scope} {e:Expr} {t:Tg} {σ:L2.St} (B:eU X sc (aY Γ sc).1.N (aY Γ sc).2) (h:sM (aY Γ sc).1 e=some t):∀i∈aU t,(dc (aY Γ sc).2 σ)[i]?=some none:=λi hi=>by obtain⟨_,x,hx⟩:=fE h i hi;exact qY (wX B hx)
def EC (Γ:Gm) (ρ:ak) (σ:L2.St) (D:Addr):Prop:=∀(j:Nat) (d:List Dt),fm Γ j=true->ρ[j]?=some (some (.lst d))->σ[j]?≠some (some (.ref D))
def uB {H:Hp} {D:Addr} {acc d6:List V} (hD:H D=some (.lst acc)):aX (λb=>b=D) H (upd H D (.lst d6)):=⟨λb o h n=>by rw[ao n];exact h,Mx.ll hD⟩
def ER.emit {o:Ow} {ρ:ak} {S:Sx} {σ:L2.St} {H:Hp} {D:Addr} {acc d6:List V} (er:ER Φ Γ o ρ S σ H) (hD:H D=some (.lst acc)) (hn:EC Γ ρ σ D) (oD:o.A D) (nd:o.dr≠some D) (h0:∀x,Φ.H0 D=some x->Φ.d0=some D):ER Φ Γ o ρ S σ (upd H D (.lst d6)):=by
 have up:aX (λb=>b=D) H (upd H D (.lst d6)):=uB hD;have uA:∀b,b=D->o.A b:=λb z=>by rw[z];exact oD
 refine⟨er.len,er.wa,er.da,λa ha=>?_,λj dd h=>?_,er.inj,λa ha=>?_,er.drn,er.drs,er.dr0,?_⟩
 ·obtain⟨x,hx⟩:=er.al a ha;exact up.al hx λz=>⟨_,by rw[z];exact aC⟩
 ·obtain⟨w,h1,h2⟩:=er.val j dd h;refine⟨w,h1,?_⟩;by_cases hm:fm Γ j=true
  ·rw[if_pos hm] at h2 ⊢;cases dd with
   | lst ds=>
    obtain⟨a,xs,e1,e2,e3,e4,e5,e6,e7⟩:=h2;have aD:a≠D:=λz=>hn j ds hm h (by rw[h1,e1,z])
    exact⟨a,xs,e1,up.kp _ _ e2 aD,e3,e4,e5,e6,e7.mono up uA λ_ z=>z⟩
   | _=>exact RV.mono up uA (λ_ z=>z) h2
  ·rw[if_neg hm] at h2 ⊢;exact h2.mono up uA λ_ z=>z
 ·obtain⟨ns,e1,e2⟩:=er.drw a ha;exact⟨ns,e1,up.kp _ _ e2 (λz=>nd (by rw[<-z];exact ha))⟩
 ·refine⟨λb x h n=>up.kp _ _ (er.ent.kp b x h n) λz=>?_,λb xs h=>up.tp _ _ (er.ent.tp b xs h)⟩;subst z;exact n (h0 x h)
def Wk.less {A Y Y':Addr->Prop} {J:It} {H:Hp} {ds:List Dt} (w:Wk K A Y J H ds) (h:∀b,Y' b->Y b):Wk K A Y' J H ds:=⟨λi H1 hi e=>w.go i H1 hi (e.mono h),λH1 e=>w.stop H1 (e.mono h),λi x H1 H2 hi e y=>w.yld i x H1 H2 hi (e.mono h) y⟩
def IO.Mo {Φ:Fm} {Γ:Gm} {o:Ow} {ρ:ak} {S:Sx} {σ:L2.St} {it:ql} {nl:Bool} {H H1:Hp} {ds:List Dt} {J:It} (io:IO Φ.K o it nl H ds J H1) (er:ER Φ Γ o ρ S σ H1) (h:(decide (vF it<=1)||nl)=true):Wk Φ.K o.A o.d J H1 ds:=by
 rcases Bool.or_eq_true_iff.mp h with h | h
 ·exact io.w1 (PZ h)
 ·exact(io.w2 h).less er.da
def Wk.plus {A Y:Addr->Prop} {J:It} {H:Hp} {ds:List Dt} {D:Addr} (w:Wk K A Y J H ds) (hD:H D=none):Wk K (λb=>A b\/b=D) (λb=>Y b\/b=D) J (upd H D (.lst [])) ds:=by
 have ex:∀H1,aX (λb=>Y b\/b=D) (upd H D (.lst [])) H1->aX Y H H1:=λH1 e=>⟨λb o h n=>by
   have nb:b≠D:=λz=>by rw[z,hD] at h;cases h
   exact e.kp b o (by rw[ao nb];exact h) λz=>z.elim n nb,λb xs h=>by
   have nb:b≠D:=λz=>by rw[z,hD] at h;cases h
   exact e.tp b xs (by rw[ao nb];exact h)⟩
 refine⟨λi H1 hi e=>w.go i H1 hi (ex H1 e),λH1 e=>w.stop H1 (ex H1 e),λi x H1 H2 hi e y=>?_⟩;obtain⟨s,d,hd,hv⟩:=w.yld i x H1 H2 hi (ex H1 e) y;refine⟨s,d,hd,λB hB=>hv B λb hb=>?_⟩;rcases hB b hb with (z | z) | z
 ·exact .inl z
 ·exact .inr (by rw[z];exact hD)
 ·by_cases nb:b=D
  ·exact .inr (by rw[nb];exact hD)
  ·rw[ao nb] at z;exact .inr z
structure AL (Φ:Fm) (Γ:Gm) (o:Ow) (D:Addr) (ρ:ak) (σ:L2.St) (S:Sx) (acc:List V) (es:List Dt) (H:Hp):Prop where
 at':H D=some (.lst acc)
 rv:aj Φ.K o.A H acc es
 er:ER Φ Γ o ρ S σ H
structure IY (Φ:Fm) (o:Ow) (D:Addr):Prop where
 oD:o.A D
 nd:o.dr≠some D
 h0:∀x,Φ.H0 D=some x->Φ.d0=some D
def Yd (o:Ow) (D:Addr):Addr->Prop:=λb=>o.d b\/b=D
def ER.back {o:Ow} {ρ ρ':ak} {S S':Sx} {σ σ':L2.St} {H H':Hp} {D:Addr} (fx:IY Φ o D) (hn:EC Γ ρ σ D) (er:ER Φ Γ o ρ S σ H) (Es:ER Φ Γ o ρ' S' σ' H') (e:aX (Yd o D) H H'):ER Φ Γ o ρ S' σ H':=by
 have uA:∀b,Yd o D b->o.A b:=λb z=>z.elim (er.da b) λq=>by rw[q];exact fx.oD
 refine⟨er.len,er.wa,er.da,Es.al,λj dd h=>?_,er.inj,Es.drw,Es.drn,er.drs,er.dr0,Es.ent⟩;obtain⟨w,h1,h2⟩:=er.val j dd h;refine⟨w,h1,?_⟩;by_cases hm:fm Γ j=true
 ·rw[if_pos hm] at h2 ⊢;cases dd with
  | lst ds=>
   obtain⟨a,xs,e1,e2,e3,e4,e5,e6,e7⟩:=h2;have aD:a≠D:=λz=>hn j ds hm h (by rw[h1,e1,z])
   exact⟨a,xs,e1,e.kp _ _ e2 (λz=>z.elim e5 aD),e3,e4,e5,e6,e7.mono e uA λ_ z=>z⟩
  | _=>exact RV.mono e uA (λ_ z=>z) h2
 ·rw[if_neg hm] at h2 ⊢;exact h2.mono e uA λ_ z=>z
def rT {tg:Tg} {ts:Cs} {o:Ow} {D:Addr} {ρ:ak} {σ:L2.St} {J:It} {ds:List Dt} {H1:Hp} {tb:TB} {fb:ak->Sx->R (List Dt×Sx)} {m a0:Nat} (fx:IY Φ o D) (hp:∀i∈aU tg,plainS Γ i=true) (wk:Wk Φ.K o.A (Yd o D) J H1 ds) (hn:EC Γ ρ σ D)
  (hb:∀(ρ1:ak) (σ1:L2.St) (S:Sx) (acc:List V) (es:List Dt) (H2:Hp) (P:List Dt×Sx->Prop),EC Γ ρ1 σ1 D->(∀k,k∉aU tg->σ1[k]?=σ[k]?/\ρ1[k]?=ρ[k]?)->AL Φ Γ o D ρ1 σ1 S acc es H2->aX (Yd o D) H1 H2->acc.length + m<=a0 + ds.length * m->0 < ds.length->mR Φ.Ek (fb ρ1 S) P->
   ∀Q:Hp->Prop,(∀H5 r iE,P r->AL Φ Γ o D ρ1 σ1 r.2 iE (es++r.1) H5->aX (Yd o D) H2 H5->iE.length<=acc.length + m->Q H5)->tb σ1 H2 Q)
  {S:Sx} {acc:List V} {es:List Dt} {P:List Dt×Sx->Prop} (c:AL Φ Γ o D ρ σ S acc es H1) (ha:acc.length<=a0) (q:mR Φ.Ek (a9 (bJ tg (cU F ts) fb ρ) ds S) P) {Fn:Hp->Prop}
  (fin:∀H5 r iE,P r->AL Φ Γ o D ρ σ r.2 iE (es++r.1) H5->aX (Yd o D) H1 H5->iE.length<=a0 + ds.length * m->Fn H5):qD J (Cf Φ.K tg) (qy Φ Γ F ts) tb σ Fn H1:=by
 refine⟨λi mm H2=>mm=ds.length - i/\i<=ds.length/\∃S2 og sD,AL Φ Γ o D ρ σ S2 og (es++sD) H2/\aX (Yd o D) H1 H2/\og.length<=a0 + i * m/\mR Φ.Ek (a9 (bJ tg (cU F ts) fb ρ) (ds.drop i) S2) λr=>P (sD++r.1,r.2),
  ⟨_,rfl,Nat.zero_le _,S,acc,[],by rw[QC];exact c,aX.refl,by omega,q⟩,?_⟩
 rintro i mm H2 ⟨rfl,hi,S2,og,sD,c2,zJ,dh,q⟩;by_cases cQ:i < ds.length
 ·refine .inr ⟨wk.go i H2 cQ zJ,λx H3 y=>?_⟩;obtain⟨s3,d,hd,hx⟩:=wk.yld i x H2 H3 cQ zJ y;have qv:=hx o.A λb z=> .inl z
  have GK:=c2.er.grow s3;have Ln:ds.drop i=d::ds.drop (i + 1):=by rw[List.drop_eq_getElem_cons cQ];congr 1;exact(P0.mp hd).2
  rw[Ln] at q;unfold a9 at q;rw[ae] at q;unfold bJ at q;rw[ae] at q;obtain⟨ρ1,hρ,q⟩:=o4 (qC _ _ _) q;refine w5 GK hp qv hρ λσ1 Ma hk=>?_
  rw[ae] at q;refine⟨o,ρ1,S2,Ma,ah q λb _ q H4 e4 Jm=>?_⟩;have Mj:aX (Yd o D) H3 H4:=e4.mono λb z=> .inl z
  have N4:EC Γ ρ1 σ1 D:=λj dd hm h1 h2=>by
   have nj:j∉aU tg:=λz=>by rw[(iq (hp j z)).1] at hm;cases hm
   obtain⟨k1,k2⟩:=hk j nj;rw[k1] at h2;rw[k2] at h1;exact hn j dd hm h1 h2
  have uA:∀b,Yd o D b->o.A b:=λb z=>z.elim (GK.da b) λq=>by rw[q];exact fx.oD
  have GR:H4 D=some (.lst og):=e4.kp _ _ (s3 _ _ c2.at') fx.nd;have MN:aj Φ.K o.A H4 og (es++sD):=(c2.rv.same s3).mono Mj uA λ_ z=>z
  have HJ:aX (Yd o D) H2 H4:=(aX.of_same s3).trans Mj;have hmul:ds.length * m=(ds.length - (i + 1)) * m + (i * m + m):=by rw[<-Nat.succ_mul i m,<-Nat.add_mul];congr 1;omega
  have Ms:(i + 1) * m=i * m + m:=Nat.succ_mul i m;have hz:0<=(ds.length - (i + 1)) * m:=Nat.zero_le _;cases jA:b.1 with
  | false=>rw[jA] at q;refine Hl ?_;refine⟨ds.length - (i + 1),by omega,rfl,cQ,b.2,og,sD,⟨GR,MN,c2.er.back fx hn Jm HJ⟩,zJ.trans HJ,by omega,?_⟩;simp only[Bool.false_eq_true,if_false] at q;have q:mR Φ.Ek ((a9 (bJ tg (cU F ts) fb ρ) (ds.drop (i + 1)) b.2).bind λq=>R.ok (([]:List Dt)++q.1,q.2)) _:=q;rw[ae] at q;exact ah q λr _ q=>q
  | true=>
   rw[jA] at q;refine Ir ?_;simp only[if_true] at q;refine hb ρ1 σ1 b.2 og (es++sD) H4 _ N4 hk ⟨GR,MN,Jm⟩ (zJ.trans HJ) (by omega) (by omega) q _ λH5 r iE q c5 e5 l5=>?_
   rw[ae] at q;refine⟨ds.length - (i + 1),by omega,rfl,cQ,r.2,iE,sD++r.1,⟨c5.at',by rw[<-Qd];exact c5.rv,c2.er.back fx hn c5.er (HJ.trans e5)⟩,(zJ.trans HJ).trans e5,by omega,ah q λr' _ q=>?_⟩;have q:P (sD++(r.1++r'.1),r'.2):=q;rw[Qd];exact q
 ·have e:i=ds.length:=by omega
  subst e;refine .inl ⟨wk.stop H2 zJ,?_⟩;rw[List.drop_length] at q;have q:P (sD++[],S2):=q;rw[QC] at q;exact fin H2 (sD,S2) og q c2 zJ dh
def zl {o:Ow} {D:Addr} {c:C} {ρ:ak} {σ:L2.St} {S:Sx} {acc:List V} {es:List Dt} {H:Hp} {P:List Dt×Sx->Prop} (fx:IY Φ o D) (hn:EC Γ ρ σ D) (cs:AL Φ Γ o D ρ σ S acc es H) (hl:acc.length < sizeLine)
  (q:mR Φ.Ek ((ev F c ρ S).bind λy=>ag (eL c y.1) (.ok ([y.1],y.2))) P) (Q:Hp->Prop) (fin:∀H5 r iE,P r->AL Φ Γ o D ρ σ r.2 iE (es++r.1) H5->aX (Yd o D) H H5->iE.length<=acc.length + 1->Q H5):uz D (bT Φ Γ F g.fr c) σ H Q:=by
 rw[ae] at q;refine⟨o,ρ,S,cs.er,ah q λy _ q v H5 eo5 er6=>?_⟩;obtain⟨gs,q⟩:=aO q;have e5:aX (Yd o D) H H5:=eo5.ext.mono λb z=> .inl z
 have LQ:H5 D=some (.lst acc):=eo5.ext.kp _ _ cs.at' fx.nd;have uA:∀b,Yd o D b->o.A b:=λb z=>z.elim (cs.er.da b) λq=>by rw[q];exact fx.oD
 have hv:RV Φ.K o.A H5 v y.1:=by
  unfold eL at gs;rw[QD] at gs;rcases gs with gs | gs
  ·exact eo5.df (PZ gs)
  ·exact eo5.val.lG gs
 have up:aX (λb=>b=D) H5 (upd H5 D (.lst (acc++[v]))):=uB LQ;refine⟨acc,LQ,hl,fin _ ([y.1],y.2) (acc++[v]) q ⟨aC,?_,er6.emit LQ hn fx.oD fx.nd fx.h0⟩ (e5.trans (up.mono λb z=> .inr z)) (by simp)⟩;exact((cs.rv.mono e5 uA λ_ z=>z).append (aj.cons hv aj.nil)).mono up (λb z=>by rw[z];exact fx.oD) λ_ z=>z
def sZ:2 * lim < sizeLine:=by rw[sizeLine_eq];decide
def l7 {sc:Scope} {o:Ow} {ρ:ak} {S:Sx} {σ:L2.St} {H:Hp} {D:Addr} (er:ER Φ Γ o ρ S σ H) (B:eU X sc (aY Γ sc).1.N (aY Γ sc).2) (fU:(Rx.aY Γ sc).1.N.Nodup) (hD:H D=none):
  IY Φ (o.plus D) D/\EC (aY Γ sc).1 (lM (aY Γ sc).2 ρ) (dc (aY Γ sc).2 σ) D/\AL Φ (aY Γ sc).1 (o.plus D) D (lM (aY Γ sc).2 ρ) (dc (aY Γ sc).2 σ) S [] [] (upd H D (.lst [])):=by
 refine⟨⟨.inr rfl,λz=>?_,λx hx=>?_⟩,λj d hm h1 h2=>?_,⟨aC,aj.nil,er.aY B fU hD⟩⟩
 ·obtain⟨y,hy⟩:=er.al D (er.da D z);rw[hD] at hy;cases hy
 ·by_cases hz:Φ.d0=some D
  ·exact hz
  ·have:=er.ent.kp D x hx hz;rw[hD] at this;cases this
 ·obtain⟨ii,hc,OP⟩:=iN h1;obtain⟨w',k1,k2⟩:=er.val ii _ OP;rw[<-jG hc,if_pos hm] at k2;obtain⟨a',nN,G3,Cu,_⟩:=k2;rw[ek hc k1] at h2;cases h2;cases G3;rw[hD] at Cu;cases Cu
def uW {sc:Scope} {o:Ow} {ρ:ak} {S S2:Sx} {σ:L2.St} {H H1 H2:Hp} {D:Addr} {acc:List V} {ds:List Dt} {c:C} (hc:lk c=0) (io:aX o.d H H1) (aF:ER Φ Γ o ρ S σ H1) (hD:H1 D=none) {ρ2:ak} {σ2:L2.St} (cs:AL Φ (aY Γ sc).1 (o.plus D) D ρ2 σ2 S2 acc ds H2) (ex:aX (Yd (o.plus D) D) (upd H1 D (.lst [])) H2):
  EO Φ.K g.fr o c H (.lst ds) (.ref D) H2/\ER Φ Γ o ρ S2 σ H2:=by
 have zJ:aX o.d H1 H2:=⟨λb x h n=>by
   have nb:b≠D:=λz=>by rw[z,hD] at h;cases h
   exact ex.kp b x (by rw[ao nb];exact h) λz=>z.elim n nb,λb xs h=>by
   have nb:b≠D:=λz=>by rw[z,hD] at h;cases h
   exact ex.tp b xs (by rw[ao nb];exact h)⟩
 have nA:¬o.A D:=λz=>by obtain⟨y,hy⟩:=aF.al D z;rw[hD] at hy;cases hy
 have dn:H D=none:=aF.eD io hD;have v0:RV Φ.K o.A H2 (.ref D) (.lst ds):=RV.eY cs.at' nA (cs.rv.weak λb z=> .inl z);refine⟨⟨io.trans zJ,v0.weak aF.gO,λ_=>v0,λ_=>v0.one,λ_ vd ed=>?_⟩,aF.step zJ (λa ha=>cs.er.drw a ha) cs.er.drn⟩;cases ed;exact⟨D,acc,rfl,dn,cs.at',cs.rv.weak λb z=>z.elim (λz=> .inl (aF.gO b z)) .inr,λ_=>cs.rv⟩
def xu {sc:Scope} {tg:Expr} {it:ql} {t:Tg} {ts:Cs} {c:C} (hK:Φ.K=X.K) (B:eU X sc (aY Γ sc).1.N (aY Γ sc).2) (fU:(aY Γ sc).1.N.Nodup) (FQ:sM (aY Γ sc).1 tg=some t) {σ:L2.St} {H:Hp} {Q:VK}
  (q:bT Φ Γ F g.fr (.comp (aY Γ sc).2 it t ts c) σ H Q):oz (aY Γ sc).2 (nI Φ Γ F it) (Cf X.K t) (qy Φ (aY Γ sc).1 F ts) (λD=>uz D (bT Φ (aY Γ sc).1 F g.fr c)) σ H Q:=by
 obtain⟨o,ρ,S,er,q⟩:=q;unfold ev at q;rw[ae] at q;refine⟨o,ρ,S,er,ah q λp _ q J H1 io aF D hD=>⟨kE (ou B FQ),?_⟩⟩;obtain⟨g1,q⟩:=aO q;rw[PX] at g1;have cP:=PZ g1.1;have wk:=(io.Mo aF g1.2).plus hD;rw[ae] at q;have gY:=sZ;obtain⟨fx,hn,cs⟩:=l7 (X:=X) aF B fU hD;rw[<-hK];refine rT (m:=1) (a0:=0) fx (λi hi=>(fE FQ i hi).1) wk hn (λρ1 σ1 S1 acc es H2 P n1 hk c1 e1 hl _ q Q fin=>zl fx n1 c1 (by omega) q Q fin) cs (Nat.zero_le _) q λH5 r iE q c5 e5 l5=>?_
 obtain⟨k1,k2⟩:=uW (g:=g) (c:= .comp (aY Γ sc).2 it t ts c) rfl io.ext aF hD c5 e5;exact q _ _ k1 k2
def tD {sc:Scope} {tg oN:Expr} {it jD:ql} {t t2:Tg} {ts Fi:Cs} {c:C} (hK:Φ.K=X.K) (B:eU X sc (aY Γ sc).1.N (aY Γ sc).2) (fU:(aY Γ sc).1.N.Nodup) (FQ:sM (aY Γ sc).1 tg=some t) (Gv:sM (aY Γ sc).1 oN=some t2) (Hh:∀i∈aU t2,i∉aU t) {σ:L2.St} {H:Hp} {Q:VK}
  (q:bT Φ Γ F g.fr (.mY (aY Γ sc).2 it t ts jD t2 Fi c) σ H Q):oz (aY Γ sc).2 (nI Φ Γ F it) (Cf X.K t) (qy Φ (aY Γ sc).1 F ts) (λD=>HZ (nI Φ (aY Γ sc).1 F jD) (Cf X.K t2) (qy Φ (aY Γ sc).1 F Fi) (uz D (bT Φ (aY Γ sc).1 F g.fr c))) σ H Q:=by
 obtain⟨o,ρ,S,er,q⟩:=q;unfold ev at q;rw[ae] at q;refine⟨o,ρ,S,er,ah q λp _ q J H1 io aF D hD=>⟨kE (ou B FQ),?_⟩⟩;obtain⟨g1,q⟩:=aO q;rw[PX] at g1;have cP:=PZ g1.1;have wk:=(io.Mo aF g1.2).plus hD;rw[ae] at q;have gY:=sZ;obtain⟨fx,hn,cs⟩:=l7 (X:=X) aF B fU hD;rw[<-hK];have hdiv:p.1.length * (lim / p.1.length)<=lim:=Nat.mul_div_le _ _;refine rT (m:=lim / p.1.length) (a0:=0) fx (λi hi=>(fE FQ i hi).1) wk hn (λρ1 σ1 S1 acc es H2 P n1 hk c1 e1 hl HC q Q fin=>?_) cs (Nat.zero_le _) q λH5 r iE q c5 e5 l5=>?_
 ·refine⟨kE λi hi=>?_,?_⟩
  ·rw[(hk i (Hh i hi)).1];exact ou B Gv i hi
  ·rw[ae] at q;refine⟨o.plus D,ρ1,S1,c1.er,ah q λx2 _ q J2 H3 io2 GK=>?_⟩;obtain⟨g2,q⟩:=aO q;rw[PX] at g2;have dh:=PZ g2.1;have uA:∀b,Yd (o.plus D) D b->(o.plus D).A b:=λb z=>z.elim (GK.da b) λq=> .inr q
   have NV:=(io2.w0 (PZ g2.2)).less uA;have e3:aX (Yd (o.plus D) D) H2 H3:=io2.ext.mono λb z=> .inl z
   have zN:x2.1.length<=lim / p.1.length:=(Nat.le_div_iff_mul_le HC).mpr (by rw[Nat.mul_comm];exact dh);refine rT (m:=1) (a0:=acc.length) fx (λi hi=>(fE Gv i hi).1) NV n1 (λρ2 σ2 S2 og sD H4 P2 n2 hk2 c2 e2 hl _ q Q fin=>zl fx n2 c2 (by omega) q Q fin) ⟨io2.ext.kp _ _ c1.at' fx.nd,c1.rv.mono e3 uA λ_ z=>z,GK⟩ (P4 _) q λH5 r iE q c5 e5 l5=>?_
   exact fin H5 r iE q c5 (e3.trans e5) (by omega)
 ·obtain⟨k1,k2⟩:=uW (g:=g) (c:= .mY (aY Γ sc).2 it t ts jD t2 Fi c) rfl io.ext aF hD c5 e5;exact q _ _ k1 k2
end
def vz:Expr->Bool
 | .Starred ..=>false
 | .Slice ..=>false
 | .Set ..=>false
 | .Call (.Name _ _) [] _ _=>false
 | _=>true
def bK {e:Expr} (h:vz e=true) (es:List Expr) (env:Env):starEach (e::es) env=(false,eval e env)::starEach es env:=by cases e <;> first | rfl | (simp[vz] at h)
def G4 {e:Expr} (h:vz e=true):nX e:=by intro o i;cases e <;> first | rfl | (simp[vz] at h)
def Bm {e:Expr} (h:vz e=true) (op:CmpOp):behindInMarks op e=false:=by cases e <;> first | rfl | (simp[vz] at h)
def gE {e:Expr} (h:vz e=true) (env:Env):∀x,foldedSetIterable e env x=pure x:=by intro x;cases e <;> first | rfl | (simp[vz] at h)
def cY {X:Cx} {Φ:Fm} {Γ:Gm} {F:FT} {e:Expr} {c:C} (h:∀ρ S,cq F c ρ S= .bad):PT X e (fw Φ Γ F c):=λpins s σ H Q I q=>by obtain⟨o,ρ,S,er,q⟩:=q;rw[h] at q;exact q.elim
section
variable {g:G} {xv:Nat->Value} {CX:lE} {k:Nat} {F:FT}
structure On (g:G) (F:FT) (n:Nat) (Γ:Gm) (X:Cx) (Φ:Fm):Prop where
 e:∀e c,cE n g Γ e=some c->PE X e (bT Φ Γ F g.fr c)/\PT X e (fw Φ Γ F c)/\vz e=true
 es:∀es cs,wc n g Γ es=some cs->PA X es (lQ Φ Γ F cs)/\cs.len=es.length/\∀e∈es,vz e=true
 ts:∀es cs,AC n g Γ es=some cs->B0 X es (qy Φ Γ F cs)
 b:∀o es c pos,cB n g Γ o es=some c->PE X (.BoolOp o es pos) (bT Φ Γ F g.fr c)/\PW X (.BoolOp o es pos) (fw Φ Γ F c)
 i:∀tg e it,cI n g Γ tg e=some it->PI X tg e (nI Φ Γ F it)/\vz e=true
 c:∀f a as c p pos,tv n g Γ f a as=some c->PE X (.Call (.Name f p) (a::as) [] pos) (bT Φ Γ F g.fr c)/\PT X (.Call (.Name f p) (a::as) [] pos) (fw Φ Γ F c)
def pD {es:List Expr} {env:Env} {pos:Pos} (h:∀e∈es,vz e=true):(backTo pos (starEach es env)).any (·.1)=false:=by
 induction es with
 | nil=>rfl
 | cons e es ih=>rw[bK (h e P5)];show (false||(backTo pos (starEach es env)).any (·.1))=false;rw[ih λe' z=>h e' (P1 _ z)];rfl
def qZ {x y:Str} (h:(x==y)=false):x≠y:=λe=>by subst e;rw[beq_self_eq_true] at h;cases h
def ey {x:Str} (h:eM x=true):(x==("__debug__":Str))=false/\(x==("__classdict__":Str))=false/\x≠"__name__":=by simp_all [eM,qZ]
def yM:∀t∈xX,B8 t.2.2=true/\bootBuiltins t.1=some (Fv t.2.2):=by
 intro t ht;simp only[xX,Qb,Qc,or_false] at ht;rcases ht with rfl | rfl | rfl | rfl | rfl | rfl
 ·exact⟨rfl,PySem.boot_len⟩
 ·exact⟨rfl,PyProof.Rows.boot_min⟩
 ·exact⟨rfl,PyProof.Rows.boot_sum⟩
 ·exact⟨rfl,PyProof.Rows.boot_sorted⟩
 ·exact⟨rfl,PyProof.Rows.boot_tuple⟩
 ·exact⟨rfl,PyProof.Rows.boot_list⟩
def Ae {x:Str} {n:Nat} {b:BI} (h:sv x n=some b):B8 b=true/\bootBuiltins x=some (Fv b):=by unfold sv at h;obtain⟨t,h1,rfl⟩:=Qe.mp h;have hm:=List.mem_of_find?_eq_some h1;have hp:=List.find?_some h1;rw[PX] at hp;rw[<-Qm hp.1];exact yM t hm
def CS {b:BI} (h:B8 b=true):(∃id,Fv b= .builtin id)\/∃T,Fv b= .type T:=by cases b <;> first | exact .inl ⟨_,rfl⟩ | exact .inr ⟨_,rfl⟩ | cases h
def gF {x:Str} (h:g.bls.contains x=true):x∈g.bls:=by simpa using h
def L8 {X:Cx} {Φ:Fm} {Γ:Gm} {x:Str} {n:Nat} {b:BI} {a:Expr} {as:List Expr} {cs:Cs} {p pos:Pos} (hK:Φ.K=X.K) (gx:GX g Γ X) (hG:Gl X x) (hm:X.mg x=none) (hx:eM x=true) (hb:sv x n=some b) (hs:starEach (a::as) X.env=(false,eval a X.env)::starEach as X.env) (gL:(backTo pos (starEach as X.env)).any (·.1)=false)
  (ha:PA X (a::as) (lQ Φ Γ F cs)):PE X (.Call (.Name x p) (a::as) [] pos) (bT Φ Γ F g.fr (.bi b cs)):=by
 obtain⟨h1,h2⟩:=Ae hb;obtain⟨n1,n2,n3⟩:=ey hx;have hc:=Bn (X:=X) b h1 gx.calm gx.un;rcases CS h1 with ⟨id,e⟩ | ⟨T,e⟩
 ·rw[e] at h2 hc;exact bg (qx hc hG hm h2 ha n3 n1 hs gL) λσ H Q q=>yA hK q
 ·rw[e] at h2 hc;exact bg (vQ hc hG hm h2 ha n3 n1 hs gL) λσ H Q q=>yA hK q
def sj {X:Cx} {Φ:Fm} {sc:Scope} {N':List Str} {C:Addr} {s:Shared} {H:Hp} {fp:List Addr} (hX:HX g xv CX k F Φ X):HX g xv CX k F Φ (fq X sc N' C s H fp (sH X sc N' (mX Φ xv) C s H fp)) where
 K:=hX.K
 fx:=hX.fx
 room:=hX.room
 cx:=hX.cx
 st:=nL hX.st
 xgx:=λe s' h=>yy h
def iO (n:Nat):∀(Γ:Gm) (X:Cx) (Φ:Fm),GX g Γ X->HX g xv CX k F Φ X->On g F n Γ X Φ:=by
 induction n with
 | zero=>intro Γ X Φ gx hX;exact⟨λe c h=>by simp[cE] at h,λe c h=>by simp[wc] at h,λe c h=>by simp[AC] at h,λo e c p h=>by simp[cB] at h,λo e c h=>by simp[cI] at h,λf a as c p q h=>by simp[tv] at h⟩
 | succ n ih=>
  intro Γ X Φ gx hX;have I:=ih Γ X Φ gx hX;have hK:=hX.K;have hu:=gx.un;refine⟨λe c h=>?_,λes cs h=>?_,λes cs h=>?_,λo es c pos h=>?_,λtg e it h=>?_,λf a as c p pos h=>?_⟩
  ·
   unfold cE at h;split at h
   ·cases h;exact⟨qg rfl DZ,cY λρ S=>by rw[cq] <;> nofun,rfl⟩
   ·cases h;exact⟨qg rfl Ef,cY λρ S=>by rw[cq] <;> nofun,rfl⟩
   ·cases h;exact⟨qg rfl Iy,cY λρ S=>by rw[cq] <;> nofun,rfl⟩
   ·cases h;exact⟨qg rfl DM,cY λρ S=>by rw[cq] <;> nofun,rfl⟩
   ·
    rename_i x p;split at h
    ·rename_i i hi;obtain⟨v1,v2,v3⟩:=u3 hi;obtain⟨n1,n2,n3⟩:=ey v2;have hv:PE X (.Name x p) (lI i):=wW (by rw[gx.N];exact v3) (gx.vis x v1) n1 n2;split at h
     ·cases h
     split at h
     ·rename_i hm;cases h;have:=G8 (Φ:=Φ) (F:=F) (fr:=g.fr) hv hm;exact⟨this,jY hK this (λ_=>rfl) (λρ S=>by rw[cq,ev];cases fN ρ i <;> rfl),rfl⟩
     ·rename_i hm;cases h;have:=Ga (Φ:=Φ) (F:=F) (fr:=g.fr) hv (by simpa using hm);exact⟨this,jY hK this (λ_=>rfl) (λρ S=>by rw[cq,ev];cases fN ρ i <;> rfl),rfl⟩
    ·split at h
     ·rename_i hg;rw[PX] at hg;obtain⟨d,h1,rfl⟩:=Qe.mp h;obtain⟨u,k1,k2,k3⟩:=gx.con x d h1;exact⟨qg k1 (AB (gx.gl x hg.1) k2 k3 (ey hg.2).1),cY λρ S=>by rw[cq] <;> nofun,rfl⟩
     ·cases h
   ·obtain⟨a',h1,h⟩:=PQ.mp h;obtain⟨b',h2,h⟩:=PQ.mp h;cases h;exact⟨FM hK (I.e _ _ h1).1 (I.e _ _ h2).1,cY λρ S=>by rw[cq] <;> nofun,rfl⟩
   ·obtain⟨a',h1,h⟩:=PQ.mp h;cases h;exact⟨Gz (I.e _ _ h1).1,cY λρ S=>by rw[cq] <;> nofun,rfl⟩
   ·obtain⟨a',h1,h⟩:=PQ.mp h;cases h;exact⟨Kw (I.e _ _ h1).1,Hx (I.e _ _ h1).2.1,rfl⟩
   ·obtain⟨k1,k2⟩:=I.b _ _ _ _ h;exact⟨k1,k2.pt,rfl⟩
   ·cases h
   ·obtain⟨a',h1,h⟩:=PQ.mp h;obtain⟨b',h2,h⟩:=PQ.mp h;cases h;have hm:=Bm (I.e _ _ h2).2.2;exact⟨HS hK hu (hm _) (I.e _ _ h1).1 (I.e _ _ h2).1,C6 hK hu (hm _) (I.e _ _ h1).1 (I.e _ _ h2).1,rfl⟩
   ·cases h
   ·obtain⟨a',h1,h⟩:=PQ.mp h;obtain⟨b',h2,h⟩:=PQ.mp h;cases h;exact⟨CI hK (I.e _ _ h1).1 (I.e _ _ h2).1,cY λρ S=>by rw[cq] <;> nofun,rfl⟩
   ·obtain⟨a',h1,h⟩:=PQ.mp h;obtain⟨b',h2,h⟩:=PQ.mp h;cases h;exact⟨Dw hK (I.e _ _ h1).1 (I.e _ _ h2).1,cY λρ S=>by rw[cq] <;> nofun,rfl⟩
   ·cases h
   ·obtain⟨a',h1,h⟩:=PQ.mp h;obtain⟨b',h2,h⟩:=PQ.mp h;cases h;have k1:=λpos=>Gw (pos:=pos) hK (G4 (I.e _ _ h2).2.2) (I.e _ _ h1).1 (I.e _ _ h2).1
    refine⟨k1 _,jY hK (k1 _) (λ_=>rfl) (λρ S=>?_),rfl⟩;rw[cq,ev];cases ev F a' ρ S with
    | ok x=>
     simp only[R.ax];cases ev F b' ρ x.2 with
     | ok y=>simp only[R.ax];cases dm x.1 y.1 <;> rfl
     | ex k=>rfl
     | bad=>rfl
    | ex k=>rfl
    | bad=>rfl
   ·obtain⟨de,h1,h⟩:=PQ.mp h;cases h;exact⟨GE (I.es _ _ h1).1,cY λρ S=>by rw[cq] <;> nofun,rfl⟩
   ·obtain⟨de,h1,h⟩:=PQ.mp h;cases h;exact⟨Gy (I.es _ _ h1).1,cY λρ S=>by rw[cq] <;> nofun,rfl⟩
   ·obtain⟨k1,k2⟩:=I.c _ _ _ _ _ _ h;exact⟨k1,k2,rfl⟩
   ·cases h
   ·cases h
   ·
    rename_i elt tg it ifs sc pos;split at h
    ·rename_i hk;obtain⟨jL,h1,h⟩:=PQ.mp h;obtain⟨kg,h2,h⟩:=PQ.mp h;obtain⟨oQ,h3,h⟩:=PQ.mp h;obtain⟨e',h4,h⟩:=PQ.mp h;split at h
     ·rename_i hb;cases h;rw[PX] at hb;have CZ:sc.kind= .function:=Qm hk;have B:=rQ gx CZ hb.1;have fU:(aY Γ sc).1.N.Nodup:=PZ hb.2;have J:=λC s H fp=>ih (aY Γ sc).1 (fq X sc (aY Γ sc).1.N C s H fp (sH X sc (aY Γ sc).1.N (mX Φ xv) C s H fp)) Φ (eN gx B fU) (sj hX)
      refine⟨bg (pq (xb:=sH X sc (aY Γ sc).1.N (mX Φ xv)) (body:=λacc env=>gM elt acc env) gx.calm B (jS hX.st hX.xgx) (I.i _ _ _ h1).1 (λoK acc env=>p9 ..) (λC s H fp=>sT (eN gx B fU) h2) (λC s H fp=>(J C s H fp).ts _ _ h3) (λC s H fp D=>jV ((J C s H fp).e _ _ h4).1) (gE (I.i _ _ _ h1).2 _)) λσ H Q q=>xu hK B fU h2 q,cY λρ S=>by rw[cq] <;> nofun,rfl⟩
     ·cases h
    ·cases h
   ·
    rename_i elt tg it ifs oN jD cz sc pos;split at h
    ·rename_i hk;obtain⟨jL,h1,h⟩:=PQ.mp h;obtain⟨kg,h2,h⟩:=PQ.mp h;obtain⟨oQ,h3,h⟩:=PQ.mp h;obtain⟨pI,h5,h⟩:=PQ.mp h;obtain⟨lB,h6,h⟩:=PQ.mp h;obtain⟨qj,h7,h⟩:=PQ.mp h;obtain⟨e',h4,h⟩:=PQ.mp h;split at h
     ·rename_i hb;cases h;rw[PX,PX] at hb;have CZ:sc.kind= .function:=Qm hk;have B:=rQ gx CZ hb.1.1;have fU:(aY Γ sc).1.N.Nodup:=PZ hb.1.2;have Hh:∀i∈aU lB,i∉aU kg:=λi hi z=>by have:=Qz.mp hb.2 i hi;simp[z] at this
      have J:=λC s H fp=>ih (aY Γ sc).1 (fq X sc (aY Γ sc).1.N C s H fp (sH X sc (aY Γ sc).1.N (mX Φ xv) C s H fp)) Φ (eN gx B fU) (sj hX)
      refine⟨bg (pq (xb:=sH X sc (aY Γ sc).1.N (mX Φ xv)) (body:=λacc env=>nextOf (.ListComp elt [⟨tg,it,ifs,0⟩,⟨oN,jD,cz,0⟩] sc pos) 1 jD acc env) gx.calm B (jS hX.st hX.xgx) (I.i _ _ _ h1).1 (λoK acc env=>qA ..) (λC s H fp=>sT (eN gx B fU) h2) (λC s H fp=>(J C s H fp).ts _ _ h3)
       (λC s H fp D=>uG gx.calm (uf hX.st) ((J C s H fp).i _ _ _ h5).1 (sT (eN gx B fU) h6) ((J C s H fp).ts _ _ h7) (jV ((J C s H fp).e _ _ h4).1) (gE ((J C s H fp).i _ _ _ h5).2 _)) (gE (I.i _ _ _ h1).2 _)) λσ H Q q=>tD hK B fU h2 h6 Hh q,cY λρ S=>by rw[cq] <;> nofun,rfl⟩
     ·cases h
    ·cases h
   ·cases h
  ·
   unfold wc at h;split at h
   ·cases h;exact⟨Hm,rfl,λe z=>by cases z⟩
   ·obtain⟨e',h1,h⟩:=PQ.mp h;obtain⟨de,h2,h⟩:=PQ.mp h;cases h;obtain⟨k1,k2,k3⟩:=I.es _ _ h2;refine⟨DS (bK (I.e _ _ h1).2.2 _ _) (I.e _ _ h1).1 k1,by simp[Cs.len,k2],λe z=>?_⟩;rcases Qb.mp z with rfl | z
    ·exact(I.e _ _ h1).2.2
    ·exact k3 e z
  ·
   unfold AC at h;split at h
   ·cases h;exact λpins s σ H Q I q=>Ay pins s σ H Q I (by obtain⟨o,ρ,S,er,q⟩:=q;rw[cU] at q;exact q _ aX.refl er)
   ·obtain⟨e',h1,h⟩:=PQ.mp h;cases h;refine λpins s σ H Q I' q=>Br (I.e _ _ h1).2.1 pins s σ H Q I' ?_
    obtain⟨o,ρ,S,er,q⟩:=q;rw[cU] at q;exact⟨o,ρ,S,er,q⟩
   ·cases h
  ·
   unfold cB at h;split at h
   ·rename_i e;have k1:=(I.e _ _ h).1;have k2:=(I.e _ _ h).2.1;refine⟨Dz k1,?_⟩;cases o with
    | And=>exact A6 k2
    | Or=>exact D7 k2
   ·rename_i e es oU;obtain⟨e',h1,h⟩:=PQ.mp h;obtain⟨de,h2,h⟩:=PQ.mp h;cases h;cases es with
    | nil=>exact(oU rfl).elim
    | cons b rest=>
     obtain⟨k1,k2⟩:=I.b o _ _ pos h2;cases o with
     | And=>exact⟨Gn (I.e _ _ h1).1 k1,DR (I.e _ _ h1).2.1 k2⟩
     | Or=>exact⟨Ky (I.e _ _ h1).1 k1,FS (I.e _ _ h1).2.1 k2⟩
   ·cases h
  ·
   unfold cI at h;split at h
   ·rename_i f p a q;split at h
    ·rename_i hf;have ef:=Qm hf;subst ef;split at h
     ·rename_i hg;rw[PX] at hg;obtain⟨a',h1,h⟩:=PQ.mp h;cases h;exact⟨CP (gx.gl _ hg.1) (gx.bl _ (gF hg.2)) (bK (I.e _ _ h1).2.2 [] _) (I.e _ _ h1).1,rfl⟩
     ·cases h
    split at h
    ·rename_i hf;have ef:=Qm hf;subst ef;split at h
     ·split at h
      ·rename_i hg;rw[PX] at hg;obtain⟨a',h1,h⟩:=PQ.mp h;cases h;exact⟨C4 hK (gx.gl _ hg.1) (gx.bl _ (gF hg.2)) (bK (I.e _ _ h1).2.2 [] _) (I.e _ _ h1).1,rfl⟩
      ·cases h
     ·cases h
    ·obtain⟨c,h1,h⟩:=PQ.mp h;cases h;exact⟨wU hK (I.e _ _ h1).1,rfl⟩
   ·rename_i f p a b q;split at h
    ·rename_i hf;have ef:=Qm hf;subst ef;split at h
     ·cases h
     ·cases h
    split at h
    ·rename_i hf;have ef:=Qm hf;subst ef;split at h
     ·split at h
      ·rename_i hg;rw[PX] at hg;obtain⟨a',h1,h⟩:=PQ.mp h;obtain⟨b',h2,h⟩:=PQ.mp h;cases h;have e2:=bK (I.e _ _ h2).2.2 [] X.env;exact⟨GM hK (gx.gl _ hg.1) (gx.bl _ (gF hg.2)) (by rw[bK (I.e _ _ h1).2.2,e2];rfl) e2 (I.e _ _ h1).1 (I.e _ _ h2).1,rfl⟩
      ·cases h
     ·cases h
    ·obtain⟨c,h1,h⟩:=PQ.mp h;cases h;exact⟨wU hK (I.e _ _ h1).1,rfl⟩
   ·obtain⟨c,h1,h⟩:=PQ.mp h;cases h;exact⟨wU hK (I.e _ _ h1).1,(I.e _ _ h1).2.2⟩
  ·
   have tr:∀{c:C},(∀ρ S,cq F c ρ S=(ev F c ρ S).bind λx=>(dU x.1).bind λb=> .ok (b,x.2))->PE X (.Call (.Name f p) (a::as) [] pos) (bT Φ Γ F g.fr c)->PE X (.Call (.Name f p) (a::as) [] pos) (bT Φ Γ F g.fr c)/\PT X (.Call (.Name f p) (a::as) [] pos) (fw Φ Γ F c):=λhe h=>⟨h,jY hK h (λ_=>rfl) he⟩
   have IP:∀(b:BI) (cs:Cs) ρ S,cq F (.bi b cs) ρ S=(ev F (.bi b cs) ρ S).bind λx=>(dU x.1).bind λb=> .ok (b,x.2):=λb cs ρ S=>by
    rw[cq,ev];cases gz F cs ρ S with
    | ok x=>simp only[R.ax];cases dX b x.1 <;> rfl
    | ex k=>rfl
    | bad=>rfl
   have NT:∀(f:Nat) (cs:Cs) (ds:List Dt) ρ S,cq F (.call f cs ds) ρ S=(ev F (.call f cs ds) ρ S).bind λx=>(dU x.1).bind λb=> .ok (b,x.2):=λf cs ds ρ S=>by
    rw[cq,ev];cases gz F cs ρ S with
    | ok x=>simp only[R.ax];cases F f (x.1++ds) none <;> rfl
    | ex k=>rfl
    | bad=>rfl
   have Pj:∀(f:Nat) (cs:Cs) ρ S,cq F (.callD f cs) ρ S=(ev F (.callD f cs) ρ S).bind λx=>(dU x.1).bind λb=> .ok (b,x.2):=λf cs ρ S=>by
    rw[cq,ev];cases S.isSome with
    | false=>rfl
    | true=>
     simp only[guard_true];cases gz F cs ρ S with
     | ok x=>
      simp only[R.ax];cases x.2 with
      | none=>rfl
      | some s=>rfl
     | ex k=>rfl
     | bad=>rfl
   unfold tv at h;split at h
   ·rename_i hg;rw[PX] at hg;have Ih:=gx.gl f hg.1;obtain⟨n1,n2,n3⟩:=ey hg.2;split at h
    ·rename_i kk np fP bc wM;split at h
     ·
      rename_i IJ;have:bc=true:=IJ;subst this;split at h
      ·rename_i y yp;split at h
       ·rename_i i hi;split at h
        ·cases h
        ·cases h
       ·cases h
      ·cases h
     ·rename_i IJ;have:bc=false:=by simpa using IJ
      subst this;split at h
      ·rename_i hn;rw[PX] at hn;have a1:=PZ hn.1;have a2:=PZ hn.2;obtain⟨es,h1,h⟩:=PQ.mp h;cases h;obtain⟨k1,k2,k3⟩:=I.es _ _ h1;refine tr (NT _ _ _) (s_call hX Ih n1 wM (Nat.sub_le _ _) ?_ (bK (k3 a P5) _ _) (pD λe z=>k3 e (P1 _ z)) k1);rw[k2,List.length_drop,Qh];omega
      ·cases h
    ·split at h
     ·rename_i Bz;have hm:=gx.bl f (gF Bz);split at h
      ·cases h
      split at h
      ·rename_i hisi;have ef:=Qm hisi;subst ef;split at h
       ·rename_i t tp HH;split at h
        ·rename_i oY;rw[PX] at oY;obtain⟨T,h1,h⟩:=PQ.mp h;obtain⟨a',h2,h⟩:=PQ.mp h;cases h;have tn:t≠"__name__"/\(t==("__debug__":Str))=false:=by
          unfold rj at h1;split at h1
          ·rename_i e;rw[Qm e];exact⟨by decide,by decide⟩
          split at h1
          ·rename_i e;rw[Qm e];exact⟨by decide,by decide⟩
          split at h1
          ·rename_i e;rw[Qm e];exact⟨by decide,by decide⟩
          split at h1
          ·rename_i e;rw[Qm e];exact⟨by decide,by decide⟩
          split at h1
          ·rename_i e;rw[Qm e];exact⟨by decide,by decide⟩
          ·cases h1
         exact tr (IP _ _) (Ig hK Ih hm (gx.gl t oY.1) (gx.bl t (gF oY.2)) h1 tn.1 tn.2 (bK (I.e _ _ h2).2.2 _ _) (I.e _ _ h2).1)
        ·cases h
       ·cases h
      ·have regular:∀{c:C},((sv f (as.length + 1)).bind λi=>(wc n g Γ (a::as)).bind λes=>some (C.bi i es))=some c->PE X (.Call (.Name f p) (a::as) [] pos) (bT Φ Γ F g.fr c)/\PT X (.Call (.Name f p) (a::as) [] pos) (fw Φ Γ F c):=λ {c} h=>by obtain⟨b,h1,h⟩:=PQ.mp h;obtain⟨es,h2,h⟩:=PQ.mp h;cases h;obtain⟨k1,k2,k3⟩:=I.es _ _ h2;exact tr (IP _ _) (L8 hK gx Ih hm hg.2 h1 (bK (k3 a P5) _ _) (pD λe z=>k3 e (P1 _ z)) k1)
       split at h
       ·rename_i r rp b rq;split at h
        ·cases h
        split at h
        ·rename_i hr;have er:=Qm hr;subst er;split at h
         ·rename_i oY;rw[PX,PX] at oY;have ef:=Qm oY.2;subst ef;obtain⟨b',h1,h9⟩:=PQ.mp h;cases h9;exact tr (IP _ _) (El hK gx.calm gx.un Ih hm (gx.gl _ oY.1.1) (gx.bl _ (gF oY.1.2)) (bK (I.e _ _ h1).2.2 [] _) (I.e _ _ h1).1)
         ·cases h
        ·exact regular h
       ·rename_i r rp b c rq zz;split at h
        ·rename_i hr;have er:=Qm hr;subst er;split at h
         ·rename_i oY;rw[PX,PX] at oY;have ef:=Qm oY.2;subst ef;obtain⟨de,h1,h9⟩:=PQ.mp h;cases h9;obtain⟨k1,k2,k3⟩:=I.es _ _ h1;have hb:=k3 b (by simp);have hc:=k3 c (by simp);have e2:=bK hc [] X.env
          match de,k1,k2 with
          | .cons b' (.cons c' .nil),k1,k2=>exact tr (IP _ _) (EX hK gx.calm Ih hm (gx.gl _ oY.1.1) (gx.bl _ (gF oY.1.2)) (by rw[bK hb,e2];rfl) e2 k1)
          | .nil,k1,k2=>exact absurd k2 (by simp[Cs.len])
          | .cons b' .nil,k1,k2=>exact absurd k2 (by simp[Cs.len])
          | .cons b' (.cons c' (.cons d' r')),k1,k2=>exact absurd k2 (by simp[Cs.len])
         ·cases h
        ·exact regular h
       ·exact regular h
     ·cases h
   ·cases h
end
structure OI (Φ:Fm) (W:Addr->Prop) (o:Ow):Prop where
 w:o.W=W
 d:∀a,Φ.d0=some a->o.dr=some a
structure SO (Φ:Fm) (Γ:Gm) (W:Addr->Prop) (o:Ow) (H:Hp) (ρ':ak) (S':Sx) (σ':L2.St) (H':Hp):Prop where
 ex:∃o',OI Φ W o'/\ER Φ Γ o' ρ' S' σ' H'/\∀b,o'.A b->o.A b\/H b=none
 ext:aX o.A H H'
 al:∀b x,H b=some x->∃y,H' b=some y
structure RO (Φ:Fm) (W:Addr->Prop) (fF:Bool) (d:Dt) (S':Sx) (v:V) (H':Hp):Prop where
 val:RV Φ.K W H' v d
 ent:aX (λb=>Φ.d0=some b) Φ.H0 H'
 drw:∀a,Φ.d0=some a->∃ns:List Int,S'=some ns/\H' a=some (.lst (ns.map V.int))
 fu:fF=true->∀ds,d= .lst ds->∃a xs,v= .ref a/\Φ.H0 a=none/\H' a=some (.lst xs)/\aj Φ.K (λb=>W b\/b=a) H' xs ds
def dS (Φ:Fm) (Γ:Gm) (W:Addr->Prop) (fF:Bool) (o:Ow) (H:Hp) (D:Ends) (p:Fl×ak×Sx):Prop:=match p.1 with
 | .next=>∀σ' H',SO Φ Γ W o H p.2.1 p.2.2 σ' H'->D.nx σ' H'
 | .brk=>∀σ' H',SO Φ Γ W o H p.2.1 p.2.2 σ' H'->D.bk σ' H'
 | .cnt=>∀σ' H',SO Φ Γ W o H p.2.1 p.2.2 σ' H'->D.ct σ' H'
 | .ret d=>∀v H',RO Φ W fF d p.2.2 v H'->D.rt v H'
def lS (Φ:Fm) (Γ:Gm) (F:FT) (W:Addr->Prop) (fF:Bool) (t:T):TS:=λD σ H=>∃o ρ S,OI Φ W o/\ER Φ Γ o ρ S σ H/\mR Φ.Ek (ex F t ρ S) (dS Φ Γ W fF o H D)
def pN (Φ:Fm) (Γ:Gm) (F:FT) (W:Addr->Prop) (fF:Bool) (t:Ts):TS:=λD σ H=>∃o ρ S,OI Φ W o/\ER Φ Γ o ρ S σ H/\mR Φ.Ek (aQ F t ρ S) (dS Φ Γ W fF o H D)
def bF {X:Cx} {e:Stmt} {t t':TS} (h:PS X e t) (hi:∀D σ H,t' D σ H->t D σ H):PS X e t':=λpins s σ H D I q=>h pins s σ H D I (hi D σ H q)
def tB {X:Cx} {e:List Stmt} {t t':TS} (h:qL X e t) (hi:∀D σ H,t' D σ H->t D σ H):qL X e t':=λpins s σ H D I q=>h pins s σ H D I (hi D σ H q)
section
variable {X:Cx} {Φ:Fm} {Γ:Gm} {F:FT} {g:G} {W:Addr->Prop} {fF:Bool} {o:Ow} {ρ:ak} {S:Sx} {σ:L2.St} {H H':Hp}
def ER.dA (er:ER Φ Γ o ρ S σ H) {H1:Hp} (e:aX o.d H H1):aX o.A H H1:=e.mono er.da
def ER.Cb {S1:Sx} {ρ1:ak} {σ1:L2.St} {H1:Hp} (aF:ER Φ Γ o ρ1 S1 σ1 H1) (e:aX o.d H H1):∀b x,H b=some x->∃y,H1 b=some y:=λb x h=>e.al h λz=>aF.al b (aF.da b z)
def SO.i6 {S':Sx} {ρ':ak} {σ':L2.St} (oi:OI Φ W o) (er:ER Φ Γ o ρ' S' σ' H') (e:aX o.d H H'):SO Φ Γ W o H ρ' S' σ' H':=⟨⟨o,oi,er,λb z=> .inl z⟩,e.mono er.da,er.Cb e⟩
theorem SO.go {o':Ow} {H1 H2:Hp} {ρ2:ak} {S2:Sx} {σ2:L2.St} (e:aX o.A H H1) (hA:∀b,o'.A b->o.A b\/H b=none) (GB:∀b x,H b=some x->∃y,H1 b=some y) (h:SO Φ Γ W o' H1 ρ2 S2 σ2 H2):SO Φ Γ W o H ρ2 S2 σ2 H2:=by
 obtain⟨⟨o2,Jx,gi,Hc⟩,e2,a2⟩:=h;refine⟨⟨o2,Jx,gi,λb z=>?_⟩,⟨λb x h n=>?_,λb xs h=>e2.tp _ _ (e.tp _ _ h)⟩,λb x h=>?_⟩
 ·rcases Hc b z with q | q
  ·exact hA b q
  ·refine .inr ?_;cases hb:H b with
   | none=>rfl
   | some x=>obtain⟨y,hy⟩:=GB b x hb;rw[q] at hy;cases hy
 ·refine e2.kp _ _ (e.kp _ _ h n) λz=>?_
  rcases hA b z with q | q
  ·exact n q
  ·rw[h] at q;cases q
 ·obtain⟨y,hy⟩:=GB b x h;exact a2 b y hy
def uy {fr:Nat->Bool} {c:C} {d:Dt} {v:V} {H1:Hp} (h:eL c d=true) (eo:EO Φ.K fr o c H d v H1):RV Φ.K o.A H1 v d:=by
 unfold eL at h;rw[QD] at h;rcases h with h | h
 ·exact eo.df (PZ h)
 ·exact eo.val.lG h
def Hf {i:Nat} {c:C} {st:Stmt} (hp:plainS Γ i=true) (h:PS X st (se (bT Φ Γ F g.fr c) (eB i))):PS X st (lS Φ Γ F W fF (.asg i c)):=bF h λD σ H q=>by obtain⟨o,ρ,S,oi,er,q⟩:=q;unfold ex at q;rw[ae] at q;refine⟨o,ρ,S,er,ah q λp _ q v H1 eo aF=>?_⟩;obtain⟨gs,q⟩:=aO q;exact q _ _ (SO.i6 oi (aF.set hp (uy gs eo)) eo.ext)
def ER.own {S1:Sx} {H1:Hp} {fr:Nat->Bool} {c:C} {d:Dt} {v:V} {i:Nat} (oi:OI Φ W o) (er:ER Φ Γ o ρ S σ H) (aF:ER Φ Γ o ρ S1 σ H1) (hm:fm Γ i=true) (hδ:Γ.δ≠some i) (hf:fresh fr c=true) (hl:mn c d=true) (eo:EO Φ.K fr o c H d v H1):
  ∃o',OI Φ W o'/\ER Φ Γ o' (ρ.set i (some d)) S1 (σ.set i (some v)) H1/\∀b,o'.A b->o.A b\/H b=none:=by
 by_cases hd:∃ds,d= .lst ds
 ·obtain⟨ds,rfl⟩:=hd;obtain⟨a,xs,rfl,h1,h2,h3,h4⟩:=eo.fu hf ds rfl;have h4:aj Φ.K (λb=>o.A b\/b=a) H1 xs ds:=by
   unfold mn at hl;rcases Bool.or_eq_true_iff.mp hl with l | l
   ·exact h4 (PZ l)
   ·exact h3.i5 l
  have nA:¬o.A a:=λz=>by obtain⟨y,hy⟩:=er.al a z;rw[h1] at hy;cases hy
  have h0:Φ.H0 a=none:=by
   cases q:Φ.H0 a with
   | none=>rfl
   | some x=>
    by_cases yH:Φ.d0=some a
    ·exact absurd (er.da a (oi.d a yH)) nA
    ·rw[er.ent.kp a x q yH] at h1;cases h1
  have av:∀b,(o.A b\/b=a)->o.A b\/H b=none:=λb z=>z.elim .inl λe=> .inr (by rw[e];exact h1)
  have dA:∀b,o.d b->(o.A b\/b=a):=λb z=> .inl (er.da b z)
  refine⟨⟨o.W,λb=>o.A b\/b=a,o.dr⟩,⟨oi.w,oi.d⟩,⟨?_,λb z=> .inl (er.wa b z),λb z=> .inl (er.da b z),λb z=>?_,λj e he=>?_,λj j' b e e' m m' k1 k2 k3 k4=>?_,aF.drw,aF.drn,λj b hj hb=>?_,aF.dr0,aF.ent⟩,av⟩
  ·rw[List.length_set,List.length_set];exact er.len
  ·rcases z with z | z
   ·exact aF.al b z
   ·rw[z];exact⟨_,h2⟩
  ·by_cases hj:j=i
   ·subst hj;rw[List.getElem?_set] at he;simp only[if_true] at he;split at he
    ·rename_i cQ;cases he;refine⟨.ref a,by rw[QI (by rw[er.len];exact cQ)],?_⟩;rw[if_pos hm];exact⟨a,xs,rfl,h2,.inr rfl,λz=>nA (er.wa a z),λz=>nA (er.da a z),h0,h4⟩
    ·cases he
   ·rw[Qg (Ne.symm hj)] at he;obtain⟨w,k1,k2⟩:=er.val j e he;refine⟨w,by rw[Qg (Ne.symm hj)];exact k1,?_⟩;by_cases hmj:fm Γ j=true
    ·rw[if_pos hmj] at k2 ⊢;cases e with
     | lst es=>obtain⟨b,ys,e1,e2,e3,e4,e5,e6,e7⟩:=k2;exact⟨b,ys,e1,eo.ext.kp _ _ e2 e5,.inl e3,e4,e5,e6,(e7.bH av).mono eo.ext dA λ_ z=>z⟩
     | _=>exact(RV.bH av k2).mono eo.ext dA λ_ z=>z
    ·rw[if_neg hmj] at k2 ⊢;exact(k2.bH av).mono eo.ext dA λ_ z=>z
  ·
   have other:∀{j:Nat} {e:List Dt} {b:Addr},j≠i->fm Γ j=true->(ρ.set i (some (.lst ds)))[j]?=some (some (.lst e))->(σ.set i (some (.ref a)))[j]?=some (some (.ref b))->b≠a/\ρ[j]?=some (some (.lst e))/\σ[j]?=some (some (.ref b)):=λ {j e b} hj m k1 k3=>by rw[Qg (Ne.symm hj)] at k1 k3;obtain⟨w,n1,n2⟩:=er.val j _ k1;rw[if_pos m] at n2;obtain⟨b',ys,e1,e2,_⟩:=n2;rw[k3] at n1;cases n1;cases e1;refine⟨λz=>?_,k1,k3⟩;rw[z,h1] at e2;cases e2
   by_cases hj:j=i
   ·by_cases vR:j'=i
    ·rw[hj,vR]
    ·obtain⟨n,_,_⟩:=other vR m' k2 k4;subst hj;have cQ:j < σ.length:=by have:=(P0.mp k3).1;rw[List.length_set] at this;exact this
     rw[QI cQ] at k3;cases k3;exact absurd rfl n
   ·obtain⟨n,p1,p2⟩:=other hj m k1 k3;by_cases vR:j'=i
    ·subst vR;have cQ:j' < σ.length:=by have:=(P0.mp k4).1;rw[List.length_set] at this;exact this
     rw[QI cQ] at k4;cases k4;exact absurd rfl n
    ·obtain⟨_,p3,p4⟩:=other vR m' k2 k4;exact er.inj j j' b e e' m m' p1 p3 p2 p4
  ·rw[Qg (λz=>hδ (by rw[z];exact hj))];exact aF.drs j b hj hb
 ·
  have nl:∀e,d≠ .lst e:=λe z=>hd ⟨e,z⟩
  have hv:RV Φ.K o.A H1 v d:=by
   unfold mn at hl;rcases Bool.or_eq_true_iff.mp hl with l | l
   ·exact eo.df (PZ l)
   ·cases d with
    | lst ds=>exact absurd rfl (nl ds)
    | _=>exact eo.val.lG l
  refine⟨o,oi,⟨?_,aF.wa,aF.da,aF.al,λj e he=>?_,λj j' b e e' m m' k1 k2 k3 k4=>?_,aF.drw,aF.drn,λj b hj hb=>?_,aF.dr0,aF.ent⟩,λb z=> .inl z⟩
  ·rw[List.length_set,List.length_set];exact er.len
  ·by_cases hj:j=i
   ·subst hj;rw[List.getElem?_set] at he;simp only[if_true] at he;split at he
    ·rename_i cQ;cases he;refine⟨v,by rw[QI (by rw[er.len];exact cQ)],?_⟩;rw[if_pos hm];cases d with
     | lst ds=>exact absurd rfl (nl ds)
     | _=>exact hv
    ·cases he
   ·rw[Qg (Ne.symm hj)] at he;obtain⟨w,k1,k2⟩:=aF.val j e he;exact⟨w,by rw[Qg (Ne.symm hj)];exact k1,k2⟩
  ·have other:∀{j:Nat} {e:List Dt},(ρ.set i (some d))[j]?=some (some (.lst e))->j≠i:=λ {j e} k1 z=>by
    subst z;rw[List.getElem?_set] at k1;simp only[if_true] at k1;split at k1
    ·cases k1;exact nl e rfl
    ·cases k1
   have n1:=other k1;have n2:=other k2;rw[Qg (Ne.symm n1)] at k1 k3;rw[Qg (Ne.symm n2)] at k2 k4;exact aF.inj j j' b e e' m m' k1 k2 k3 k4
  ·rw[Qg (λz=>hδ (by rw[z];exact hj))];exact aF.drs j b hj hb
def CD {i:Nat} {c:C} {st:Stmt} (hm:fm Γ i=true) (hδ:Γ.δ≠some i) (hf:fresh g.fr c=true) (h:PS X st (se (bT Φ Γ F g.fr c) (eB i))):PS X st (lS Φ Γ F W fF (.asgM i c)):=bF h λD σ H q=>by obtain⟨o,ρ,S,oi,er,q⟩:=q;unfold ex at q;rw[ae] at q;refine⟨o,ρ,S,er,ah q λp _ q v H1 eo aF=>?_⟩;obtain⟨gs,q⟩:=aO q;exact q _ _ ⟨ER.own oi er aF hm hδ hf gs eo,er.dA eo.ext,aF.Cb eo.ext⟩
end
section
variable {X:Cx} {Φ:Fm} {Γ:Gm} {F:FT} {g:G} {W:Addr->Prop} {fF:Bool} {o:Ow} {ρ:ak} {S:Sx} {σ:L2.St} {H H':Hp}
def j0 {Ek:Nat->Prop} {ρ:ak} {i:Nat} {P:List Dt->Prop} (h:mR Ek (pZ ρ i) P):∃ds,ρ[i]?=some (some (.lst ds))/\P ds:=by
 unfold pZ at h;split at h
 ·exact⟨_,by assumption,h⟩
 ·exact h.elim
def yi {a:Addr} {u:HO}:∀b x,H b=some x->∃y,upd H a u b=some y:=by grind [aC,ao]
def nU {ρ:ak} {i:Nat} (h:isLE ρ i=true):∃ds,ρ[i]?=some (some (.lst ds)):=by
 unfold isLE at h;split at h
 ·exact⟨_,by assumption⟩
 ·cases h
def ER.chg {i:Nat} {a:Addr} {ds es:List Dt} {xs ys:List V} (er:ER Φ Γ o ρ S σ H) (hm:fm Γ i=true) (hr:ρ[i]?=some (some (.lst ds))) (hs:σ[i]?=some (some (.ref a))) (hx:H a=some (.lst xs)) (hy:aj Φ.K o.A H ys es):
  ER Φ Γ o (ρ.set i (some (.lst es))) S σ (upd H a (.lst ys))/\aX o.A H (upd H a (.lst ys))/\∀b x,H b=some x->∃y,upd H a (.lst ys) b=some y:=by
 obtain⟨v,h1,h2⟩:=er.val i _ hr;rw[if_pos hm] at h2;rw[hs] at h1;cases h1;obtain⟨b,zs,e1,e2,e3,e4,e5,e6,e7⟩:=h2;cases e1;have up:aX (λb=>b=a) H (upd H a (.lst ys)):=⟨λb o h n=>by rw[ao n];exact h,Mx.ll hx⟩;have sub:∀b,b=a->o.A b:=λb z=>by rw[z];exact e3
 refine⟨⟨by rw[List.length_set];exact er.len,er.wa,er.da,λb hb=>?_,λj d hd=>?_,λj j' b d d' m m' k1 k2 k3 k4=>?_,λb hb=>?_,er.drn,er.drs,er.dr0,?_⟩,up.mono sub,yi⟩
 ·obtain⟨x,hx⟩:=er.al b hb;exact yi b x hx
 ·by_cases hj:j=i
  ·subst hj;rw[List.getElem?_set] at hd;simp only[if_true] at hd;split at hd
   ·cases hd;refine⟨.ref a,hs,?_⟩;rw[if_pos hm];exact⟨a,ys,rfl,aC,e3,e4,e5,e6,hy.mono up sub λ_ z=>z⟩
   ·cases hd
  ·rw[Qg (Ne.symm hj)] at hd;obtain⟨w,k1,k2⟩:=er.val j d hd;refine⟨w,k1,?_⟩;by_cases hmj:fm Γ j=true
   ·rw[if_pos hmj] at k2 ⊢;cases d with
    | lst dl=>obtain⟨b,OW,n1,n2,n3,n4,n5,n6,n7⟩:=k2;refine⟨b,OW,n1,up.kp _ _ n2 (λz=>?_),n3,n4,n5,n6,n7.mono up sub λ_ z=>z⟩;subst n1 z;exact hj (er.inj j i b dl ds hmj hm hd hr k1 hs)
    | _=>exact RV.mono up sub (λ_ z=>z) k2
   ·rw[if_neg hmj] at k2 ⊢;exact k2.mono up sub λ_ z=>z
 ·have same:∀{j:Nat} {d:List Dt},(ρ.set i (some (.lst es)))[j]?=some (some (.lst d))->∃d',ρ[j]?=some (some (.lst d')):=λ {j d} q=>by
   by_cases hj:j=i
   ·subst hj;exact⟨ds,hr⟩
   ·rw[Qg (Ne.symm hj)] at q;exact⟨d,q⟩
  obtain⟨d1,q1⟩:=same k1;obtain⟨d2,q2⟩:=same k2;exact er.inj j j' b d1 d2 m m' q1 q2 k3 k4
 ·obtain⟨ns,n1,n2⟩:=er.drw b hb;exact⟨ns,n1,up.kp _ _ n2 λz=>e5 (by rw[<-z];exact hb)⟩
 ·refine⟨λb x h n=>up.kp _ _ (er.ent.kp b x h n) λz=>?_,λb xs h=>up.tp _ _ (er.ent.tp b xs h)⟩;subst z;rw[h] at e6;cases e6
def gC {i:Nat} {ds:List Dt} (er:ER Φ Γ o ρ S σ H) (hm:fm Γ i=true) (hr:ρ[i]?=some (some (.lst ds))):∃a xs,σ[i]?=some (some (.ref a))/\H a=some (.lst xs)/\aj Φ.K o.A H xs ds:=by obtain⟨v,h1,h2⟩:=er.val i _ hr;rw[if_pos hm] at h2;obtain⟨a,xs,e1,e2,e3,e4,e5,e6,e7⟩:=h2;subst e1;exact⟨a,xs,h1,e2,e7⟩
def FW {i:Nat} {c:C} {st:Stmt} (hm:fm Γ i=true) (h:PS X st (qp (Lg X.K "list" uX (lI i) (zx (bT Φ Γ F g.fr c) DA)))):PS X st (lS Φ Γ F W fF (.app i c)):=bF h λD σ H q=>by obtain⟨o,ρ,S,oi,er,q⟩:=q;unfold ex at q;obtain⟨gl,q⟩:=aO q;obtain⟨ds,hr⟩:=nU gl;obtain⟨a,xs,h1,h2,h3⟩:=gC er hm hr;rw[ae] at q;refine⟨.ref a,h1,.inl ⟨rfl,_,d9.of h2⟩,o,ρ,S,er,ah q λp _ q v H1 eo aF=>?_⟩;obtain⟨gs,q⟩:=aO q;rw[ae] at q;obtain⟨vd,e1,q⟩:=j0 q;rw[hr] at e1;cases e1;obtain⟨gl,q⟩:=aO q;obtain⟨a',nN,gS,mf,B7⟩:=gC aF hm hr;rw[h1] at gS;cases gS;have gY:=bX;have sS:=sizeLine_eq;have Pu:lim=1000000:=rfl;have yI:=PZ gl;refine⟨a,nN,v,rfl,rfl,mf,by rw[B7.length];omega,?_⟩;obtain⟨k1,k2,k3⟩:=aF.chg hm hr h1 mf (B7.append (aj.cons (uy gs eo) aj.nil));exact q _ _ (SO.go (er.dA eo.ext) (λb z=> .inl z) (aF.Cb eo.ext) ⟨⟨o,oi,k1,λb z=> .inl z⟩,k2,k3⟩)
def Ho {i:Nat} {c:C} {st:Stmt} (hm:fm Γ i=true) (h:PS X st (qp (Lg X.K "list" tK (lI i) (zx (bT Φ Γ F g.fr c) DA)))):PS X st (lS Φ Γ F W fF (.xtd i c)):=bF h λD σ H q=>by
 obtain⟨o,ρ,S,oi,er,q⟩:=q;unfold ex at q;obtain⟨gl,q⟩:=aO q;obtain⟨ds,hr⟩:=nU gl;obtain⟨a,xs,h1,h2,h3⟩:=gC er hm hr;rw[ae] at q;refine⟨.ref a,h1,.inl ⟨rfl,_,d9.of h2⟩,o,ρ,S,er,ah q λp _ q v H1 eo aF=>?_⟩;obtain⟨gs,q⟩:=aO q;rw[ae] at q;obtain⟨vd,e1,q⟩:=j0 q;rw[hr] at e1;cases e1;obtain⟨a',nN,gS,mf,B7⟩:=gC aF hm hr;rw[h1] at gS;cases gS;cases hd:p.1 with
 | lst es=>rw[hd] at q eo;obtain⟨gl,q⟩:=aO q;obtain⟨b,zs,rfl,f1,f2⟩:=eo.nK (PZ gs);have gY:=bX;have yI:=PZ gl;refine⟨a,b,nN,zs,rfl,rfl,mf,f1,by rw[B7.length,f2.length];omega,?_⟩;obtain⟨k1,k2,k3⟩:=aF.chg hm hr h1 mf (B7.append f2);exact q _ _ (SO.go (er.dA eo.ext) (λb z=> .inl z) (aF.Cb eo.ext) ⟨⟨o,oi,k1,λb z=> .inl z⟩,k2,k3⟩)
 | _=>rw[hd] at q;exact q.elim
def GU {i:Nat} {st:Stmt} (hm:fm Γ i=true) (h:PS X st (qp (FF X.K "list" zq (lI i)))):PS X st (lS Φ Γ F W fF (.clr i)):=bF h λD σ H q=>by obtain⟨o,ρ,S,oi,er,q⟩:=q;unfold ex at q;rw[ae] at q;obtain⟨ds,hr,q⟩:=j0 q;obtain⟨a,xs,h1,h2,h3⟩:=gC er hm hr;obtain⟨k1,k2,k3⟩:=er.chg hm hr h1 h2 (aj.nil (K:=Φ.K) (A:=o.A));exact⟨.ref a,h1,.inl ⟨rfl,_,d9.of h2⟩,a,xs,rfl,rfl,h2,q _ _ ⟨⟨o,oi,k1,λb z=> .inl z⟩,k2,k3⟩⟩
def Ej {i:Nat} {k v:C} {st:Stmt} (hm:fm Γ i=true) (h:PS X st (se (bT Φ Γ F g.fr v) (HG (lI i) (bT Φ Γ F g.fr k) Cv))):PS X st (lS Φ Γ F W fF (.vc i k v)):=bF h λD σ H q=>by
 obtain⟨o,ρ,S,oi,er,q⟩:=q;unfold ex at q;obtain⟨gl,q⟩:=aO q;obtain⟨ds,hr⟩:=nU gl;obtain⟨a,xs,h1,h2,h3⟩:=gC er hm hr;rw[ae] at q;refine⟨o,ρ,S,er,ah q λp _ q x H1 eo aF=>?_⟩;rw[ae] at q;refine⟨.ref a,h1,o,ρ,p.2,aF,ah q λp2 _ q y H2 eo2 gi=>?_⟩;obtain⟨gs,q⟩:=aO q;rw[ae] at q;obtain⟨vd,e1,q⟩:=j0 q;rw[hr] at e1;cases e1;obtain⟨a',nN,gS,mf,B7⟩:=gC gi hm hr;rw[h1] at gS;cases gS;cases hd:p2.1 with
 | int n=>
  rw[hd] at q eo2;simp only at q;cases hj:nv ds.length n with
  | none=>rw[hj] at q;exact q.elim
  | some j=>
   rw[hj] at q;have hx:RV Φ.K o.A H2 x p.1:=by
    unfold eL at gs;rw[QD] at gs;obtain⟨k1,k2,k3⟩:=eo.keep eo2.ext er.gO;rcases gs with gs | gs
    ·exact k2 (PZ gs)
    ·exact k1.lG gs
   refine⟨a,nN,n,j,rfl,eo2.val.int_inv,mf,by rw[B7.length];exact hj,?_⟩;obtain⟨k1,k2,k3⟩:=gi.chg hm hr h1 mf (B7.set j hx);exact q _ _ (SO.go (er.dA (eo.ext.trans eo2.ext)) (λb z=> .inl z) (gi.Cb (eo.ext.trans eo2.ext)) ⟨⟨o,oi,k1,λb z=> .inl z⟩,k2,k3⟩)
 | _=>rw[hd] at q;exact q.elim
def G6 {c:C} {st:Stmt} (h:PS X st (qp (bT Φ Γ F g.fr c))):PS X st (lS Φ Γ F W fF (.Km c)):=bF h λD σ H q=>by obtain⟨o,ρ,S,oi,er,q⟩:=q;unfold ex at q;rw[ae] at q;exact⟨o,ρ,S,er,ah q λp _ q v H1 eo aF=>q _ _ (SO.i6 oi aF eo.ext)⟩
def ER.h0 {a:Addr} (oi:OI Φ W o) (er:ER Φ Γ o ρ S σ H) (h:H a=none):Φ.H0 a=none:=by
 cases q:Φ.H0 a with
 | none=>rfl
 | some x=>
  by_cases yH:Φ.d0=some a
  ·obtain⟨y,hy⟩:=er.al a (er.da a (oi.d a yH));rw[h] at hy;cases hy
  ·rw[er.ent.kp a x q yH] at h;cases h
def Cy {c:C} {st:Stmt} (hf:fF=true->fresh g.fr c=true) (h:PS X st (Dv (bT Φ Γ F g.fr c))):PS X st (lS Φ Γ F W fF (.ret c)):=bF h λD σ H q=>by
 obtain⟨o,ρ,S,oi,er,q⟩:=q;unfold ex at q;rw[ae] at q;refine⟨o,ρ,S,er,ah q λp Mr q v H1 eo aF=>?_⟩;have hw:∀b,W b->o.wd b:=λb z=> .inl (by rw[oi.w];exact z)
 refine q _ _ ⟨eo.val.weak hw,aF.ent,λa ha=>aF.drw a (oi.d a ha),λhfF ds ed=>?_⟩;obtain⟨a,xs,h1,h2,h3,h4,_⟩:=eo.fu (hf hfF) ds ed;exact⟨a,xs,h1,er.h0 oi h2,h3,h4.weak λb z=>z.imp (hw b) id⟩
def CC {i:Nat} {st:Stmt} (hm:fm Γ i=true) (h:PS X st (Dv (lI i))):PS X st (lS Φ Γ F W fF (.ret (.mvr i))):=bF h λD σ H q=>by
 obtain⟨o,ρ,S,oi,er,q⟩:=q;unfold ex ev at q;rw[ae,ae] at q;obtain⟨d,hd,q⟩:=nk q;obtain⟨v,k1,k2⟩:=er.val i d hd;rw[if_pos hm] at k2;have hw:∀b,W b->o.wd b:=λb z=> .inl (by rw[oi.w];exact z)
 have Om:∀b,W b->o.A b:=λb z=>er.wa b (by rw[oi.w];exact z)
 refine⟨v,k1,q _ _ ⟨(k2.val er.wa er.da).weak hw,er.ent,λa ha=>er.drw a (oi.d a ha),λhfF ds ed=>?_⟩⟩;simp only at ed;subst ed;obtain⟨a,xs,e1,e2,e3,e4,e5,e6,e7⟩:=k2;exact⟨a,xs,e1,e6,e2,e7.weak λb z=>z.elim (Om b) λy=>by rw[y];exact e3⟩
def DQ {st:Stmt} (h:PS X st Cc):PS X st (lS Φ Γ F W fF .retN):=bF h λD σ H q=>by obtain⟨o,ρ,S,oi,er,q⟩:=q;exact q _ _ ⟨RV.gR,er.ent,λa ha=>er.drw a (oi.d a ha),λ_ ds ed=>by cases ed⟩
def Dx {st:Stmt} (h:PS X st ze):PS X st (lS Φ Γ F W fF .pas):=bF h λD σ H q=>by obtain⟨o,ρ,S,oi,er,q⟩:=q;exact q _ _ (SO.i6 oi er aX.refl)
def Gc {st:Stmt} (h:PS X st wV):PS X st (lS Φ Γ F W fF .brk):=bF h λD σ H q=>by obtain⟨o,ρ,S,oi,er,q⟩:=q;exact q _ _ (SO.i6 oi er aX.refl)
def GV {st:Stmt} (h:PS X st BX):PS X st (lS Φ Γ F W fF .cnt):=bF h λD σ H q=>by obtain⟨o,ρ,S,oi,er,q⟩:=q;exact q _ _ (SO.i6 oi er aX.refl)
theorem dS.go {o':Ow} {H1:Hp} {D D':Ends} {p:Fl×ak×Sx} (e:aX o.A H H1) (hA:∀b,o'.A b->o.A b\/H b=none) (GB:∀b x,H b=some x->∃y,H1 b=some y)
  (hn:∀σ' H',D.nx σ' H'->D'.nx σ' H') (hb:∀σ' H',D.bk σ' H'->D'.bk σ' H') (hc:∀σ' H',D.ct σ' H'->D'.ct σ' H') (hr:∀v H',D.rt v H'->D'.rt v H') (h:dS Φ Γ W fF o H D p):dS Φ Γ W fF o' H1 D' p:=by grind [dS,SO.go]
def CB:qL X [] (pN Φ Γ F W fF .nil):=tB By λD σ H q=>by obtain⟨o,ρ,S,oi,er,q⟩:=q;exact q _ _ (SO.i6 oi er aX.refl)
def Bw {st:Stmt} {zR:List Stmt} {t:T} {ts:Ts} (h1:PS X st (lS Φ Γ F W fF t)) (h2:qL X zR (pN Φ Γ F W fF ts)):qL X (st::zR) (pN Φ Γ F W fF (.cons t ts)):=tB (xi h1 h2) λD σ H q=>by
 obtain⟨o,ρ,S,oi,er,q⟩:=q;unfold aQ at q;rw[ae] at q;refine⟨o,ρ,S,oi,er,ah q λp _ q=>?_⟩;unfold dS;cases hp:p.1 with
 | next=>rw[hp] at q;intro σ1 H1 so;obtain⟨⟨o1,Pf,aF,NI⟩,e1,a1⟩:=so;exact⟨o1,p.2.1,p.2.2,Pf,aF,ah q λp2 _ q=>dS.go e1 NI a1 (λ_ _ z=>z) (λ_ _ z=>z) (λ_ _ z=>z) (λ_ _ z=>z) q⟩
 | brk=>rw[hp] at q;exact q
 | cnt=>rw[hp] at q;exact q
 | ret d=>rw[hp] at q;exact q
def GQ {t:C} {a b:Ts} {st:Stmt} (h:PS X st (HQ (fw Φ Γ F t) (pN Φ Γ F W fF a) (pN Φ Γ F W fF b))):PS X st (lS Φ Γ F W fF (.ifs t a b)):=bF h λD σ H q=>by
 obtain⟨o,ρ,S,oi,er,q⟩:=q;unfold ex at q;rw[ae] at q;refine⟨o,ρ,S,er,ah q λp _ q H1 e1 aF=>?_⟩;have go:∀{ts:Ts},mR Φ.Ek (aQ F ts ρ p.2) (dS Φ Γ W fF o H D)->pN Φ Γ F W fF ts D σ H1:=λq=>⟨o,ρ,p.2,oi,aF,ah q λp2 _ q=>dS.go (er.dA e1) (λb z=> .inl z) (aF.Cb e1) (λ_ _ z=>z) (λ_ _ z=>z) (λ_ _ z=>z) (λ_ _ z=>z) q⟩
 cases hp:p.1 with
 | true=>rw[hp] at q;exact Ir (go q)
 | false=>rw[hp] at q;exact Hl (go q)
def Gi {tg:Tg} {it:ql} {b:Ts} {st:Stmt} (hK:Φ.K=X.K) (hp:∀i∈aU tg,plainS Γ i=true) (h:PS X st (FN (nI Φ Γ F it) (Cf X.K tg) (pN Φ Γ F W fF b))):PS X st (lS Φ Γ F W fF (.fr tg it b)):=bF h λD σ H q=>by
 obtain⟨o,ρ,S,oi,er,q⟩:=q;unfold ex at q;rw[ae] at q;refine⟨o,ρ,S,er,ah q λp _ q J H1 io aF=>?_⟩;obtain⟨gs,q⟩:=aO q;have wk:Wk Φ.K o.A o.A J H1 p.1:=(Bool.or_eq_true_iff.mp gs).elim (λz=>io.w0 (PZ z)) io.w2;refine⟨λi m σ2 H2=>m=p.1.length - i/\i<=p.1.length/\∃o2 ρ2 S2,OI Φ W o2/\ER Φ Γ o2 ρ2 S2 σ2 H2/\aX o.A H1 H2/\(∀b,o2.A b->o.A b\/H1 b=none)/\(∀b x,H1 b=some x->∃y,H2 b=some y)/\mR Φ.Ek (forL tg (aQ F b) (p.1.drop i) ρ2 S2) (dS Φ Γ W fF o H D),
  ⟨_,rfl,Nat.zero_le _,o,ρ,p.2,oi,aF,aX.refl,λb z=> .inl z,λb x hx=>⟨x,hx⟩,q⟩,?_⟩
 rintro i m σ2 H2 ⟨rfl,hi,o2,ρ2,S2,Jx,gi,e2,Hc,Nb,q⟩;have eH:aX o.A H H2:=(er.dA io.ext).trans e2;have aH:∀b x,H b=some x->∃y,H2 b=some y:=λb x hx=>by obtain⟨y,hy⟩:=aF.Cb io.ext b x hx;exact Nb b y hy
 have A1:∀b,o2.A b->o.A b\/H b=none:=λb z=>(Hc b z).imp id λq=>by
  cases hb:H b with
  | none=>rfl
  | some x=>obtain⟨y,hy⟩:=aF.Cb io.ext b x hb;rw[q] at hy;cases hy
 by_cases cQ:i < p.1.length
 ·refine .inr ⟨wk.go i H2 cQ e2,?_⟩;have hd:∃d,p.1[i]?=some d:=⟨p.1[i],by simp[cQ]⟩;obtain⟨d0,yH⟩:=hd;have Ln:p.1.drop i=d0::p.1.drop (i + 1):=by rw[List.drop_eq_getElem_cons cQ];congr 1;exact(P0.mp yH).2
  rw[Ln] at q;unfold forL at q;rw[ae] at q;obtain⟨ρ3,hρ,q⟩:=o4 (qC _ _ _) q;rw[ae] at q;refine⟨λσ3 H3=>i + 1<=p.1.length/\∃o3 ρ3 S3,OI Φ W o3/\ER Φ Γ o3 ρ3 S3 σ3 H3/\aX o.A H1 H3/\(∀b,o3.A b->o.A b\/H1 b=none)/\(∀b x,H1 b=some x->∃y,H3 b=some y)/\mR Φ.Ek (forL tg (aQ F b) (p.1.drop (i + 1)) ρ3 S3) (dS Φ Γ W fF o H D),λσ3 H3 z=>⟨p.1.length - (i + 1),by omega,rfl,z⟩,λx H3 y=>?_⟩;obtain⟨s3,d,hd,hx⟩:=wk.yld i x H2 H3 cQ e2 y;rw[yH] at hd;cases hd;have qv:=hx o2.A Hc;rw[<-hK];refine w5 (gi.grow s3) hp qv hρ λσ4 Ma _=>?_
  refine⟨o2,ρ3,S2,Jx,Ma,ah q λp2 _ q=>?_⟩;have again:∀{σ5:L2.St} {H5:Hp},SO Φ Γ W o2 H3 p2.2.1 p2.2.2 σ5 H5->mR Φ.Ek (forL tg (aQ F b) (p.1.drop (i + 1)) p2.2.1 p2.2.2) (dS Φ Γ W fF o H D)->i + 1<=p.1.length/\∃o3 ρ3 S3,OI Φ W o3/\ER Φ Γ o3 ρ3 S3 σ5 H5/\aX o.A H1 H5/\(∀b,o3.A b->o.A b\/H1 b=none)/\(∀b x,H1 b=some x->∃y,H5 b=some y)/\mR Φ.Ek (forL tg (aQ F b) (p.1.drop (i + 1)) ρ3 S3) (dS Φ Γ W fF o H D):=λ {σ5 H5} so q=>by have OC:=SO.go (o:=o) (H:=H1) (e2.trans (aX.of_same s3)) Hc (λb x hx=>by obtain⟨y,hy⟩:=Nb b x hx;exact⟨y,s3 _ _ hy⟩) so;obtain⟨⟨o5,Ol,Jm,Nm⟩,e5,a5⟩:=OC;exact⟨cQ,o5,_,_,Ol,Jm,e5,Nm,a5,q⟩
  unfold dS;cases fA:p2.1 with
  | next=>rw[fA] at q;exact λσ5 H5 so=>again so q
  | cnt=>rw[fA] at q;exact λσ5 H5 so=>again so q
  | brk=>rw[fA] at q;intro σ5 H5 so;have q:dS Φ Γ W fF o H D (.next,p2.2):=q;unfold dS at q;exact q σ5 H5 (SO.go (eH.trans (aX.of_same s3)) A1 (λb x hx=>by obtain⟨y,hy⟩:=aH b x hx;exact⟨y,s3 _ _ hy⟩) so)
  | ret d=>rw[fA] at q;have q:dS Φ Γ W fF o H D (.ret d,p2.2):=q;exact q
 ·have e:i=p.1.length:=by omega
  subst e;rw[List.drop_length] at q;have q:dS Φ Γ W fF o H D (.next,ρ2,S2):=q;unfold dS at q;exact .inl ⟨wk.stop H2 e2,q _ _ ⟨⟨o2,Jx,gi,A1⟩,eH,aH⟩⟩
end
def kJ:Expr->Bool
 | .ListComp ..=>true
 | .SetComp ..=>true
 | .DictComp ..=>true
 | _=>false
def C3 (n:Nat) (g:G) (Γ:Gm) (i:Nat) (e:Expr):Option T:=match e with
 | .Name y p=>match slot Γ y with
  | some j=>if fm Γ j then none else(cE n g Γ (.Name y p)).bind λc=>some (.asg i c)
  | none=>(cE n g Γ (.Name y p)).bind λc=>some (.asg i c)
 | e=>(cE n g Γ e).bind λc=>some (.asg i c)
def D1 (n:Nat) (g:G) (Γ:Gm) (fF:Bool) (e:Expr):Option T:=match e with
 | .Name y p=>match slot Γ y with
  | some j=>if fm Γ j then(if Γ.δ==some j then none else some (.ret (.mvr j))) else(cE n g Γ (.Name y p)).bind λc=>if fF then none else some (.ret c)
  | none=>(cE n g Γ (.Name y p)).bind λc=>if fF then none else some (.ret c)
 | e=>(cE n g Γ e).bind λc=>if !fF||fresh g.fr c then some (.ret c) else none
mutual
def cS:Nat->G->Gm->Bool->Bool->Stmt->Option T
 | 0,_,_,_,_,_=>none
 | n + 1,g,Γ,dp,fF,st=>match st with
  | .Assign [.Name x _] e _=>(gw Γ x).bind λi=>
    if Γ.δ==some i then none
    else if fm Γ i then(cE n g Γ e).bind λc=>if fresh g.fr c then some (.asgM i c) else none
    else C3 n g Γ i e
  | .Assign [.Tuple es _ _] e _=>none
  | .Assign [.Subscript (.Name x _) k _] v _=>(slot Γ x).bind λi=>if fm Γ i then(cE n g Γ v).bind λv'=>(cE n g Γ k).bind λk'=>some (.vc i k' v') else none
  | .Expr (.Call (.Attribute (.Name x _) m ap) [a] [] cp) _=>(slot Γ x).bind λi=>if fm Γ i&&ap.endLine==cp.line then(cE n g Γ a).bind λa'=>
    (if m==("append":Str) then some (.app i a') else if m==("extend":Str) then some (.xtd i a') else none) else none
  | .Expr (.Call (.Attribute (.Name x _) m ap) [] [] cp) _=>(slot Γ x).bind λi=>if fm Γ i&&ap.endLine==cp.line&&m==("clear":Str) then some (.clr i) else none
  | .Expr e _=>if kJ e then none else(cE n g Γ e).bind λc=>some (.Km c)
  | .Return (some e) _=>D1 n g Γ fF e
  | .Return none _=>some .retN
  | .If t a b _=>(cE n g Γ t).bind λt'=>(wm n g Γ dp fF a).bind λa'=>(wm n g Γ dp fF b).bind λb'=>some (.ifs t' a' b')
  | .For tg it b [] _=>(cI n g Γ tg it).bind λjL=>(sM Γ tg).bind λkg=>(wm n g Γ dp fF b).bind λb'=>some (.fr kg jL b')
  | .While t b [] _=>none
  | .Break _=>some .brk
  | .Continue _=>some .cnt
  | .Pass _=>some .pas
  | _=>none
def wm:Nat->G->Gm->Bool->Bool->List Stmt->Option Ts
 | 0,_,_,_,_,_=>none
 | n + 1,g,Γ,dp,fF,zR=>match zR with
  | []=>some .nil
  | st::zR=>(cS n g Γ dp fF st).bind λt=>(wm n g Γ dp fF zR).bind λts=>some (.cons t ts)
end
section
variable {g:G} {xv:Nat->Value} {CX:lE} {k:Nat} {F:FT} {X:Cx} {Φ:Fm} {Γ:Gm} {W:Addr->Prop}
def qm {e:Expr} (h:kJ e=false) (t:Option Expr) (l:Nat) (env:Env):swapsWith e t l env=pure false:=by cases e <;> first | rfl | (simp[kJ] at h)
def vg {e:Expr} {t:Expr} (ht:∀x p,t≠ .Name x p) (l:Nat) (env:Env):swapsWith e (some t) l env=pure false:=by cases e <;> first | rfl | (cases t <;> first | rfl | exact absurd rfl (ht _ _))
def o7 {n:Nat} {elt:Expr} {gens:List Comprehension} {sc:Scope} {fD:Pos} {c:C} (h:cE (n + 1) g Γ (.ListComp elt gens sc fD)=some c):sc.kind= .function/\xf sc.names Γ.names (aY Γ sc).1.N Γ.N (aY Γ sc).2=true/\(aY Γ sc).1.N.Nodup/\
  ((∃tg it ifs jL kg oQ e',gens=[⟨tg,it,ifs,0⟩]/\cI n g Γ tg it=some jL/\sM (aY Γ sc).1 tg=some kg/\AC n g (aY Γ sc).1 ifs=some oQ/\cE n g (aY Γ sc).1 elt=some e'/\c= .comp (aY Γ sc).2 jL kg oQ e')\/
   (∃tg it ifs oN jD cz jL kg oQ pI lB qj e',gens=[⟨tg,it,ifs,0⟩,⟨oN,jD,cz,0⟩]/\cI n g Γ tg it=some jL/\sM (aY Γ sc).1 tg=some kg/\AC n g (aY Γ sc).1 ifs=some oQ/\cI n g (aY Γ sc).1 oN jD=some pI/\sM (aY Γ sc).1 oN=some lB/\AC n g (aY Γ sc).1 cz=some qj/\cE n g (aY Γ sc).1 elt=some e'/\
   (∀i∈aU lB,i∉aU kg)/\c= .mY (aY Γ sc).2 jL kg oQ pI lB qj e')):=by
 unfold cE at h;split at h
 all_goals (rename_i hh;try (cases hh;done))
 ·rename_i elt2 tg it ifs sc2 fz;cases hh;split at h
  ·rename_i hk;obtain⟨jL,h1,h⟩:=PQ.mp h;obtain⟨kg,h2,h⟩:=PQ.mp h;obtain⟨oQ,h3,h⟩:=PQ.mp h;obtain⟨e',h4,h⟩:=PQ.mp h;split at h
   ·rename_i hb;cases h;rw[PX] at hb;exact⟨Qm hk,hb.1,PZ hb.2,.inl ⟨tg,it,ifs,jL,kg,oQ,e',rfl,h1,h2,h3,h4,rfl⟩⟩
   ·cases h
  ·cases h
 ·rename_i elt2 tg it ifs oN jD cz sc2 fz;cases hh;split at h
  ·rename_i hk;obtain⟨jL,h1,h⟩:=PQ.mp h;obtain⟨kg,h2,h⟩:=PQ.mp h;obtain⟨oQ,h3,h⟩:=PQ.mp h;obtain⟨pI,h5,h⟩:=PQ.mp h;obtain⟨lB,h6,h⟩:=PQ.mp h;obtain⟨qj,h7,h⟩:=PQ.mp h;obtain⟨e',h4,h⟩:=PQ.mp h;split at h
   ·rename_i hb;cases h;rw[PX,PX] at hb;refine⟨Qm hk,hb.1.1,PZ hb.1.2,.inr ⟨tg,it,ifs,oN,jD,cz,jL,kg,oQ,pI,lB,qj,e',rfl,h1,h2,h3,h5,h6,h7,h4,λi hi z=>?_,rfl⟩⟩;have:=Qz.mp hb.2 i hi;simp[z] at this
   ·cases h
  ·cases h
 ·cases h
def pO {n i:Nat} {x:Str} {e:Expr} {c:C} {pos' pos:Pos} (gx:GX g Γ X) (hX:HX g xv CX k F Φ X) (hs:gw Γ x=some i) (h:cE n g Γ e=some c):PS X (.Assign [.Name x pos'] e pos) (se (bT Φ Γ F g.fr c) (eB i)):=by
 have S:=iO (F:=F) n Γ X Φ gx hX;obtain⟨a1,a2,a3⟩:=lC hs;obtain⟨l1,l2⟩:=gx.loc x a1;have hN:X.N.Nodup:=gx.N▸gx.nd;have hi:X.N[i]?=some x:=by rw[gx.N];exact a3
 by_cases hc:kJ e=true
 ·cases n with
  | zero=>simp[cE] at h
  | succ n=>
   cases e with
   | ListComp elt gens sc fD=>
    have O3:=(S.e _ _ h).1;obtain⟨hk,hb,fU,FE⟩:=o7 h;cases E3:(X.env.blockKind== .function&&X.env.kindOf x==some .local&&pos'.line==(Expr.ListComp elt gens sc fD).pos.line&& !(sc.names.any λ(n,k)=>n==x&&(k== .local||k== .cell))) with
    | false=>exact y7 hN hi l1 O3 (by show pure (X.env.blockKind== .function&&X.env.kindOf x==some .local&&pos'.line==(Expr.ListComp elt gens sc fD).pos.line&& !(sc.names.any λ(n,k)=>n==x&&(k== .local||k== .cell)))=_;rw[E3]) l2
    | true=>
     have hl:X.env.kindOf x=some .local:=by rw[PX,PX,PX] at E3;exact Qm E3.1.1.2
     have B:=rQ gx hk hb;have S1:=iO (F:=F) n Γ X Φ gx hX;have J:=λC s H fp=>iO (F:=F) n (aY Γ sc).1 (fq X sc (aY Γ sc).1.N C s H fp (sH X sc (aY Γ sc).1.N (mX Φ xv) C s H fp)) Φ (eN gx B fU) (sj hX)
     rcases FE with ⟨tg,it,ifs,jL,kg,oQ,e',rfl,h1,h2,h3,h4,rfl⟩ | ⟨tg,it,ifs,oN,jD,cz,jL,kg,oQ,pI,lB,qj,e',rfl,h1,h2,h3,h5,h6,h7,h4,Hh,rfl⟩
     ·refine bF (jn (xb:=sH X sc (aY Γ sc).1.N (mX Φ xv)) (body:=λacc env=>gM elt acc env) (i:=i) gx.calm hN hi hl B (jS hX.st hX.xgx) (S1.i _ _ _ h1).1 (λoK acc env=>p9 ..) (λC s H fp=>sT (eN gx B fU) h2) (λC s H fp=>(J C s H fp).ts _ _ h3) (λC s H fp D=>jV ((J C s H fp).e _ _ h4).1) (gE (S1.i _ _ _ h1).2 _) ?_) λD σ H q=>xu hX.K B fU h2 q
      show pure (X.env.blockKind== .function&&X.env.kindOf x==some .local&&pos'.line==(Expr.ListComp elt [⟨tg,it,ifs,0⟩] sc fD).pos.line&& !(sc.names.any λ(n,k)=>n==x&&(k== .local||k== .cell)))=_;rw[E3]
     ·refine bF (jn (xb:=sH X sc (aY Γ sc).1.N (mX Φ xv)) (body:=λacc env=>nextOf (.ListComp elt [⟨tg,it,ifs,0⟩,⟨oN,jD,cz,0⟩] sc fD) 1 jD acc env) (i:=i) gx.calm hN hi hl B (jS hX.st hX.xgx) (S1.i _ _ _ h1).1 (λoK acc env=>qA ..) (λC s H fp=>sT (eN gx B fU) h2) (λC s H fp=>(J C s H fp).ts _ _ h3)
       (λC s H fp D=>uG gx.calm (uf hX.st) ((J C s H fp).i _ _ _ h5).1 (sT (eN gx B fU) h6) ((J C s H fp).ts _ _ h7) (jV ((J C s H fp).e _ _ h4).1) (gE ((J C s H fp).i _ _ _ h5).2 _)) (gE (S1.i _ _ _ h1).2 _) ?_) λD σ H q=>tD hX.K B fU h2 h6 Hh q
      show pure (X.env.blockKind== .function&&X.env.kindOf x==some .local&&pos'.line==(Expr.ListComp elt [⟨tg,it,ifs,0⟩,⟨oN,jD,cz,0⟩] sc fD).pos.line&& !(sc.names.any λ(n,k)=>n==x&&(k== .local||k== .cell)))=_;rw[E3]
   | SetComp=>simp[cE] at h
   | DictComp=>simp[cE] at h
   | _=>simp[kJ] at hc
 ·exact y7 hN hi l1 (S.e _ _ h).1 (qm (by simpa using hc) _ _ _) l2
structure JU (g:G) (F:FT) (n:Nat) (Γ:Gm) (X:Cx) (Φ:Fm) (W:Addr->Prop) (dp fF:Bool):Prop where
 s:∀st t,cS n g Γ dp fF st=some t->PS X st (lS Φ Γ F W fF t)
 ss:∀zR ts,wm n g Γ dp fF zR=some ts->qL X zR (pN Φ Γ F W fF ts)
def lA {x:Str} {i:Nat} {p:Pos} (gx:GX g Γ X) (h:slot Γ x=some i):PE X (.Name x p) (lI i):=by obtain⟨v1,v2,v3⟩:=u3 h;obtain⟨n1,n2,n3⟩:=ey v2;exact wW (by rw[gx.N];exact v3) (gx.vis x v1) n1 n2
def EV {n i:Nat} {x:Str} {e:Expr} {t:T} {pos' pos:Pos} {fF:Bool} (gx:GX g Γ X) (hX:HX g xv CX k F Φ X) (hs:gw Γ x=some i) (hp:plainS Γ i=true) (h:C3 n g Γ i e=some t):PS X (.Assign [.Name x pos'] e pos) (lS Φ Γ F W fF t):=by
 have B8:∀{e:Expr} {t:T},((cE n g Γ e).bind λc=>some (T.asg i c))=some t->PS X (.Assign [.Name x pos'] e pos) (lS Φ Γ F W fF t):=λ {e t} h=>by obtain⟨c,h1,h⟩:=PQ.mp h;cases h;exact Hf hp (pO gx hX hs h1)
 unfold C3 at h;split at h
 ·rename_i y p;split at h
  ·rename_i j hj;split at h
   ·cases h
   ·exact B8 h
  ·exact B8 h
 ·exact B8 h
def E7 {n:Nat} {e:Expr} {t:T} {pos:Pos} {fF:Bool} (gx:GX g Γ X) (hX:HX g xv CX k F Φ X) (h:D1 n g Γ fF e=some t):PS X (.Return (some e) pos) (lS Φ Γ F W fF t):=by
 have S:=iO (F:=F) n Γ X Φ gx hX;have plain:∀{e:Expr} {t:T},((cE n g Γ e).bind λc=>if fF then none else some (T.ret c))=some t->PS X (.Return (some e) pos) (lS Φ Γ F W fF t):=λ {e t} h=>by
  obtain⟨c,h1,h⟩:=PQ.mp h;split at h
  ·cases h
  ·rename_i hf;cases h;exact Cy (λz=>absurd z hf) (rD (S.e _ _ h1).1)
 unfold D1 at h;split at h
 ·rename_i y p;split at h
  ·rename_i j hj;split at h
   ·rename_i hm;split at h
    ·cases h
    ·cases h;exact CC hm (rD (lA gx hj))
   ·exact plain h
  ·exact plain h
 ·obtain⟨c,h1,h⟩:=PQ.mp h;split at h
  ·rename_i hf;cases h;refine Cy (λz=>?_) (rD (S.e _ _ h1).1);rw[z] at hf;simpa using hf
  ·cases h
def y9 {dp fF:Bool} (n:Nat):∀(Γ:Gm) (X:Cx) (Φ:Fm),GX g Γ X->HX g xv CX k F Φ X->(dp=false->Φ.d0=none)->PassesOwn (model X.prog X.w) X.A X.env X.xe->JU g F n Γ X Φ W dp fF:=by
 induction n with
 | zero=>intro Γ X Φ gx hX hd ho;exact⟨λst t h=>by simp[cS] at h,λst t h=>by simp[wm] at h⟩
 | succ n ih=>
  intro Γ X Φ gx hX hd ho;have I:=ih Γ X Φ gx hX hd ho;have S:=iO (F:=F) n Γ X Φ gx hX;have hK:=hX.K;refine⟨λst t h=>?_,λzR ts h=>?_⟩
  ·unfold cS at h;split at h
   ·rename_i x xp e pos;obtain⟨i,hs,h⟩:=PQ.mp h;split at h
    ·cases h
    ·rename_i hδ;have hδ':Γ.δ≠some i:=λz=>hδ (by rw[z];exact beq_self_eq_true _)
     split at h
     ·rename_i hm;obtain⟨c,h1,h⟩:=PQ.mp h;split at h
      ·rename_i hf;cases h;exact CD hm hδ' hf (pO gx hX hs h1)
      ·cases h
     ·rename_i hm;refine EV gx hX hs ?_ h;unfold plainS;rw[PX];exact⟨by simpa using hm,by simpa using hδ'⟩
   ·cases h
   ·rename_i x xp kx sp v pos;obtain⟨i,hs,h⟩:=PQ.mp h;split at h
    ·rename_i hm;obtain⟨v',h1,h⟩:=PQ.mp h;obtain⟨k',h2,h⟩:=PQ.mp h;cases h;have NB:=(S.e _ _ h2).2.2;refine Ej hm (CH (S.e _ _ h1).1 (DL (lA gx hs) (S.e _ _ h2).1 set_list (by intro _;cases kx <;> first | rfl | (simp[vz] at NB))) (show swapsWithSole [Expr.Subscript (Expr.Name x xp) kx sp] v pos.line X.env=pure false from vg (e:=v) (t:=Expr.Subscript (Expr.Name x xp) kx sp) (λx p z=>by cases z) pos.line X.env) ?_);cases v <;> rfl
    ·cases h
   ·rename_i x xp m ap a cp pos;obtain⟨i,hs,h⟩:=PQ.mp h;split at h
    ·rename_i hm;rw[PX] at hm;obtain⟨a',h1,h9⟩:=PQ.mp h;clear h;have lF:=bK (S.e _ _ h1).2.2 [] X.env;split at h9
     ·rename_i hma;have em:=Qm hma;subst em;cases h9;exact FW hm.1 (jI (Cw PySem.F.plainAttrs_list PySem.F.slot_list_append PySem.F.type_list_append mz (lA gx hs) (dy (S.e _ _ h1).1 gD lF) rfl (by rw[lF];rfl) hm.2 lF rfl))
     split at h9
     ·rename_i hma;have em:=Qm hma;subst em;cases h9;exact Ho hm.1 (jI (Cw PySem.F.plainAttrs_list PySem.F.slot_list_extend PySem.F.type_list_extend vO (lA gx hs) (dy (S.e _ _ h1).1 gD lF) rfl (by rw[lF];rfl) hm.2 lF rfl))
     ·cases h9
    ·cases h
   ·rename_i x xp m ap cp pos;obtain⟨i,hs,h9⟩:=PQ.mp h;clear h;split at h9
    ·rename_i hm;rw[PX,PX] at hm;have em:=Qm hm.2;subst em;cases h9;exact GU hm.1.1 (jI (DY PySem.F.plainAttrs_list PySem.F.slot_list_clear PySem.F.type_list_clear yb (lA gx hs) rfl hm.1.2))
    ·cases h9
   ·split at h
    ·cases h
    ·rename_i hc;obtain⟨c,h1,h⟩:=PQ.mp h;cases h;exact G6 (jI (S.e _ _ h1).1 (qm (by simpa using hc) _ _ _))
   ·exact E7 gx hX h
   ·cases h;exact DQ AU
   ·obtain⟨t',h1,h⟩:=PQ.mp h;obtain⟨a',h2,h⟩:=PQ.mp h;obtain⟨b',h3,h⟩:=PQ.mp h;cases h;exact GQ (G2 (S.e _ _ h1).2.1 (I.ss _ _ h2) (I.ss _ _ h3))
   ·obtain⟨jL,h1,h⟩:=PQ.mp h;obtain⟨kg,h2,h⟩:=PQ.mp h;obtain⟨b',h3,h⟩:=PQ.mp h;cases h;exact Gi hK (λi hi=>(fE h2 i hi).1) (Ei ho gx.calm (S.i _ _ _ h1).1 (sT gx h2) (I.ss _ _ h3) (gE (S.i _ _ _ h1).2 _))
   ·cases h
   ·cases h;exact Gc xI
   ·cases h;exact GV pU
   ·cases h;exact Dx Ag
   ·cases h
  ·unfold wm at h;split at h
   ·cases h;exact CB
   ·obtain⟨t,h1,h⟩:=PQ.mp h;obtain⟨oQ,h2,h⟩:=PQ.mp h;cases h;exact Bw (I.s _ _ h1) (I.ss _ _ h2)
end
section
variable {P:Program} {w:World} {K:Frag} {mg:Str->Option Value} {base:Heap} {g:G} {xv:Nat->Value} {F:FT} {k:Nat}
structure MG (g:G) (mg:Str->Option Value):Prop where
 con:∀x d,g.cons.lookup x=some d->∃u,oP d=true/\mg x=some u/\RelV (qK d) u
 bl:∀x∈g.bls,mg x=none
def vk (bc:Bool) (args:List Dt) (n ps:Nat):ak:=(if bc then[none] else[])++args.map some++List.replicate (n - ps) none
def pM {bc:Bool} {args:List Dt} {n ps i:Nat} {d:Dt} (h:(vk bc args n ps)[i]?=some (some d)):∃j,args[j]?=some d/\i=j + (if bc then 1 else 0):=by
 unfold vk at h;have tail:∀{i:Nat},(args.map some++List.replicate (n - ps) (none:Option Dt))[i]?=some (some d)->args[i]?=some d:=λ {i} h=>by
  by_cases hi:i < args.length
  ·rw[QE (by simpa using hi),Qi] at h;cases e:args[i]? with
   | none=>rw[e] at h;cases h
   | some a=>rw[e] at h;cases h;rfl
  ·rw[QF (by simpa using hi),List.getElem?_replicate] at h;split at h <;> cases h
 cases bc with
 | false=>simp only[Bool.false_eq_true,if_false,List.nil_append] at h;exact⟨i,tail h,rfl⟩
 | true=>
  simp only[if_true,Qd] at h;cases i with
  | zero=>cases h
  | succ i=>have h:(args.map some++List.replicate (n - ps) (none:Option Dt))[i]?=some (some d):=h;exact⟨i,tail h,rfl⟩
def mV {N:List Str} {vs:List V} {i:Nat} {v:V} (h:vs[i]?=some v):(start N vs)[i]?=some (some v):=by unfold L2.start;have hi:=(P0.mp h).1;rw[QE (by simpa using hi),Qi,h];rfl
def zj {M:List Bool} {δ:Option Nat} {names:List (Str×NameKind)} {N:List Str} {np:Nat} {bc:Bool} {vs v7:List V} {H:Hp} {W:Addr->Prop} {dr:Option Addr} {args:List Dt} {S:Sx} {Ek:Nat->Prop}
  (hM:∀i,i < np->M[i]?≠some true) (hδ:bc=true->δ=some 0) (PM:np<=N.length) (hl:vs.length=np)
  (hd:if bc=true then∃(a:Addr) (ns:List Int),vs= .ref a::v7/\dr=some a/\W a/\S=some ns/\H a=some (.lst (ns.map V.int)) else vs=v7/\dr=none/\S=none)
  (ha:aj K W H v7 args) (hw:∀a,W a->∃x,H a=some x):ER ⟨K,H,dr,Ek⟩ ⟨names,N,M,δ⟩ ⟨W,W,dr⟩ (vk bc args N.length np) S (start N vs) H/\args.length + (if bc then 1 else 0)=np:=by
 have tW:=ha.length;have Hs:args.length + (if bc then 1 else 0)=np:=by
  cases bc with
  | false=>simp only[Bool.false_eq_true,if_false] at hd ⊢;obtain⟨e,_,_⟩:=hd;subst e;omega
  | true=>simp only[if_true] at hd ⊢;obtain⟨a,ns,e,_⟩:=hd;rw[e] at hl;simp at hl;omega
 refine⟨⟨?_,λa z=>z,λa z=>?_,hw,λi d h=>?_,λi j a d e hm hm' h1 h2 _ _=>?_,λa z=>?_,λz=>?_,λi a hi z=>?_,λa z=> .inl z,aX.refl⟩,Hs⟩
 ·unfold L2.start vk;simp only[Qf,P8,List.length_replicate];cases bc <;> simp at Hs ⊢ <;> omega
 ·cases bc with
  | false=>simp only[Bool.false_eq_true,if_false] at hd;rw[hd.2.1] at z;cases z
  | true=>simp only[if_true] at hd;obtain⟨b,ns,_,e,hb,_⟩:=hd;rw[e] at z;cases z;exact hb
 ·obtain⟨j,hj,rfl⟩:=pM h;obtain⟨v,h1,h2⟩:=ha.getD hj;have OY:=(P0.mp hj).1;have hm:fm ⟨names,N,M,δ⟩ (j + if bc=true then 1 else 0)=false:=by unfold fm;have:=hM (j + if bc=true then 1 else 0) (by omega);simpa using this
  refine⟨v,mV ?_,?_⟩
  ·cases bc with
   | false=>simp only[Bool.false_eq_true,if_false] at hd ⊢;rw[hd.1];exact h1
   | true=>simp only[if_true] at hd ⊢;obtain⟨b,ns,e,_⟩:=hd;rw[e];simpa using h1
  ·rw[hm,if_neg (by simp)];exact h2
 ·obtain⟨j1,hj,rfl⟩:=pM h1;have OY:=(P0.mp hj).1;exfalso;unfold fm at hm;exact hM (j1 + if bc=true then 1 else 0) (by omega) (Qm hm)
 ·cases bc with
  | false=>simp only[Bool.false_eq_true,if_false] at hd;rw[hd.2.1] at z;cases z
  | true=>simp only[if_true] at hd;obtain⟨b,ns,_,e,_,e2,e3⟩:=hd;rw[e] at z;cases z;exact⟨ns,e2,e3⟩
 ·cases bc with
  | false=>simp only[Bool.false_eq_true,if_false] at hd;exact hd.2.2
  | true=>simp only[if_true] at hd;obtain⟨b,ns,_,e,_⟩:=hd;rw[e] at z;cases z
 ·cases bc with
  | false=>simp only[Bool.false_eq_true,if_false] at hd;rw[hd.2.1] at z;cases z
  | true=>simp only[if_true] at hd;obtain⟨b,ns,e1,e,_⟩:=hd;rw[e] at z;cases z;have hi:δ=some i:=hi;rw[hδ rfl] at hi;cases hi;exact mV (by rw[e1];rfl)
def Hz {CX:lE} {N ps:List Str} {sc:Scope} {M:List Bool} {δ:Option Nat} {qual:Str} {f:Addr} {ft:Value} {A:Around} {outer:List Env} {s:Shared} {H:Hp} {E:XK} (m:MG g mg) (S:eK N ps sc) (hr:iJ k (A.deeper (envOfC qual sc s.heap.objs.size f ft))):
  GX g ⟨sc.names,N,M,δ⟩ (kK CX P w K mg base N qual sc f ft A outer s H E) where
 N:=rfl
 nd:=S.nd
 vis:=λx h=>by
  have h:xY (sc.names.lookup x)=true:=h;show FY sc x;unfold FY;cases hl:sc.names.lookup x with
  | none=>rw[hl] at h;cases h
  | some kk=>
   rw[hl] at h;cases kk with
   | «local»=>exact .inl rfl
   | cell=>exact .inr (.inl rfl)
   | free=>exact .inr (.inr rfl)
   | globalExplicit=>cases h
   | globalImplicit=>cases h
 loc:=λx h=>by
  have h:yl (sc.names.lookup x)=true:=h;refine⟨?_,.inl rfl⟩;show L2.Loc sc x;unfold L2.Loc;cases hl:sc.names.lookup x with
  | none=>rw[hl] at h;cases h
  | some kk=>
   rw[hl] at h;cases kk with
   | «local»=>exact .inl rfl
   | cell=>exact .inr rfl
   | free=>cases h
   | globalExplicit=>cases h
   | globalImplicit=>cases h
 gl:=λx h=>by
  have h:yS (sc.names.lookup x)=true:=h;show sc.names.lookup x=_;cases hl:sc.names.lookup x with
  | none=>rw[hl] at h;cases h
  | some kk=>
   rw[hl] at h;cases kk with
   | globalImplicit=>rfl
   | «local»=>cases h
   | cell=>cases h
   | free=>cases h
   | globalExplicit=>cases h
 fre:=λx h=>h
 calm:=rfl
 un:=by have:=hr.un;show (A.deeper (envOfC qual sc s.heap.objs.size f ft)).units + 150 < cLine;omega
 con:=m.con
 bl:=m.bl
def GX.dM {Γ:Gm} {X:Cx} {E:Value->Shared->Prop} (gx:GX g Γ X):GX g Γ (X.dM E):=⟨gx.N,gx.nd,gx.vis,gx.loc,gx.gl,gx.fre,gx.calm,gx.un,gx.con,gx.bl⟩
def lq {X:Cx} {E:Value->Shared->Prop} {E':XK} {e:Value} {s':Shared} (h:km (X.dM E) E' e s'):km X E' e s':=by obtain⟨σ,H',a,cls,e1,I,f,q⟩:=h;exact⟨σ,H',a,cls,e1,I.eV,f,q⟩
def xk {X:Cx} {E:Value->Shared->Prop} {E':XK} {e:Value} {s':Shared} (h:km X E' e s'):km (X.dM E) E' e s':=by obtain⟨σ,H',a,cls,e1,I,f,q⟩:=h;exact⟨σ,H',a,cls,e1,I.dM E,f,q⟩
def sP {X:Cx} {E:Value->Shared->Prop} {st:List Stmt} {t:TS} (h:qL (X.dM E) st t) (hx:∀e s',E e s'->X.xe e s'):qL X st t:=λpins s σ H D I hw=>
 wpAny_mono (h pins s σ H D (I.dM _) hw) (λ_ _ q=>q.eV) λe s' z=>hx e s' z
def mP {name qual:Str} {params:Arguments} {body:List Stmt} {scope:Scope} {dV kV doc pm ft ct oc:Value} {an od:Option Addr} {tL:Array (Option Value)} {f:Addr} {N ps:List Str} {M:List Bool} {δ:Option Nat} {bc fF:Bool} {n m:Nat} {ts:Ts}
  (lk:K.lookup f=some ⟨oc,od,.func (PySem.W.fnOf name qual params body scope dV kV doc pm an ft ct),tL⟩) (zM:PySem.W.codeIn K ft qual=true) (S:eK N ps scope) (hm:MG g mg) (fx:FX g xv (oJ P w) P w K mg base m k F)
  (hM:∀i,i < ps.length->M[i]?≠some true) (hδ:bc=true->δ=some 0) (hc:wm n g ⟨scope.names,N,M,δ⟩ bc fF body=some ts):
  jb P w K mg base (oJ P w) (k + 1) f (PySem.W.fnOf name qual params body scope dV kV doc pm an ft ct) ps (M3 K xv (gp F ⟨ps.length,N.length,bc,ts⟩) ps.length fF bc):=by
 have gL:ps.length<=N.length:=by have:=congrArg List.length S.pre;rw[List.length_take] at this;omega
 refine HU lk zM S (λvs H Q E h=>h.1) λA outer s H vs Q E hr h=>?_
 obtain⟨hl,W,dr,args,S0,v7,hd,ha,hw,h⟩:=h;have er:=zj (K:=K) (names:=scope.names) (N:=N) (Ek:=λkk=>∀H',aX (λb=>dr=some b) H H'->E (xv kk) none H') hM hδ gL hl hd ha hw;obtain⟨er,GB⟩:=er;generalize hXX:kK (oJ P w) P w K mg base N qual scope f ft A outer s H E=X;generalize hΦ:(⟨K,H,dr,λkk=>∀H',aX (λb=>dr=some b) H H'->E (xv kk) none H'⟩:Fm)=Φ at er;have hΦE:∀v a H',mX Φ xv v a H'->E v none H':=λv a H' z=>by obtain⟨kk,rfl,z1,z2⟩:=z;subst hΦ;exact z1 H' z2
 have NQ:∀e s',km X (mX Φ xv) e s'->X.xe e s':=λe s' z=>by subst hXX;obtain⟨σ,H',a,cls,e1,I,fl,q⟩:=z;exact Dq ⟨σ,H',a,cls,e1,I,fl,hΦE _ _ _ q⟩
 have st:fL X:=by subst hXX;exact zm
 have gx:GX g ⟨scope.names,N,M,δ⟩ X:=by subst hXX;exact Hz (P:=P) (w:=w) (K:=K) (base:=base) (CX:=oJ P w) (M:=M) (δ:=δ) (outer:=outer) (H:=H) (E:=E) hm S hr
 have Ml:fL (X.dM (km X (mX Φ xv))):=⟨st.pn,st.st⟩;have hX:HX g xv (oJ P w) k F Φ (X.dM (km X (mX Φ xv))):=by
  refine⟨?_,⟨m,?_⟩,?_,?_,Ml,λe s' z=>lq z⟩
  ·subst hΦ hXX;rfl
  ·subst hXX;exact fx
  ·subst hXX;exact hr
  ·subst hXX;rfl
 have own:PassesOwn (model (X.dM (km X (mX Φ xv))).prog (X.dM (km X (mX Φ xv))).w) (X.dM (km X (mX Φ xv))).A (X.dM (km X (mX Φ xv))).env (X.dM (km X (mX Φ xv))).xe:=uJ (E:=mX Φ xv) Ml (λe s' z=>lq z) λe s' z=>xk z
 have d0:Φ.d0=dr:=by subst hΦ;rfl
 have SS:=y9 (dp:=bc) (fF:=fF) (W:=W) n _ _ _ gx.dM hX (λz=>by
  rw[d0];subst z;simp only[Bool.false_eq_true,if_false] at hd;exact hd.2.1) own
 refine⟨_,sP (SS.ss _ _ hc) NQ,⟨W,W,dr⟩,_,S0,⟨rfl,λa z=>by rw[d0] at z;exact z⟩,er,?_⟩;subst hΦ;unfold gp at h;simp only at h;rw[if_pos GB] at h;have h:(match (aQ F ts (vk bc args N.length ps.length) S0).bind (λp=>match p.1 with
   | .next=>R.ok (Dt.bo,p.2.2)
   | .ret d=>R.ok (d,p.2.2)
   | _=>R.bad) with
  | .ok p=>∀v H',FO K W dr fF H p.1 p.2 v H'->Q v H'
  | .ex kk=>∀H',aX (λb=>dr=some b) H H'->E (xv kk) none H'
  | .bad=>False):=h
 cases he:aQ F ts (vk bc args N.length ps.length) S0 with
 | ok p=>
  rw[he] at h;simp only[R.ax] at h;show dS _ _ _ _ _ _ _ p;unfold dS;cases hp:p.1 with
  | next=>rw[hp] at h;intro σ' H' so;obtain⟨o',oi,Es,_⟩:=so.ex;exact h _ _ ⟨Es.ent,RV.gR,λa z=>Es.drw a (oi.d a z),λ_ ds e=>by cases e⟩
  | ret d=>rw[hp] at h;intro v H' ro;exact h _ _ ⟨ro.ent,ro.val,ro.drw,ro.fu⟩
  | brk=>rw[hp] at h;exact h.elim
  | cnt=>rw[hp] at h;exact h.elim
 | ex kk=>rw[he] at h;exact h
 | bad=>rw[he] at h;exact h.elim
end
structure zo (g:G) (K:Frag) (mg:Str->Option Value) (e:Str×Nat×List Dt×Bool) (idx:Nat) (fn:Fn):Prop where
 ex:∃(fa:Addr) (ps N:List Str) (M:List Bool) (δ:Option Nat) (n:Nat) (oc:Value) (od an:Option Addr) (tL:Array (Option Value)) (params:Arguments) (body:List Stmt) (scope:Scope) (dV kV doc pm ft ct:Value),
  K.lookup fa=some ⟨oc,od,.func (PySem.W.fnOf e.1 e.1 params body scope dV kV doc pm an ft ct),tL⟩/\PySem.W.codeIn K ft e.1=true/\PySem.W.keepIn K (.ref fa)=true/\mg e.1=some (.ref fa)/\eK N ps scope/\(∀i,i < ps.length->M[i]?≠some true)/\
  (e.2.2.2=true->δ=some 0)/\ps.length=e.2.1/\wm n g ⟨scope.names,N,M,δ⟩ e.2.2.2 (g.fr idx) body=some fn.body/\fn.ps=ps.length/\fn.n=N.length/\fn.bc=e.2.2.2/\
  (∀j,j<=e.2.2.1.length->∃ds,aw ((e.2.2.1.drop j).map qK) ds/\Binds K (PySem.W.fnOf e.1 e.1 params body scope dV kV doc pm an ft ct) ps ds)/\e.2.2.1.all oP=true
def pP (g:G) (K:Frag) (mg:Str->Option Value):Nat->List (Str×Nat×List Dt×Bool)->List Fn->Prop
 | _,[],[]=>True
 | i,e::es,f::fs=>zo g K mg e i f/\pP g K mg (i + 1) es fs
 | _,_,_=>False
section
variable {g:G} {K:Frag} {mg:Str->Option Value}
def oA {x:Str}:∀{es:List (Str×Nat×List Dt×Bool)} {fs:List Fn} {i j:Nat} {r:Nat×List Dt×Bool},pP g K mg i es fs->sU x es=some (j,r)->∃f,zo g K mg (x,r) (i + j) f/\fs[j]?=some f
 | [],fs,i,j,r,_,h=>by simp[sU] at h
 | e::es,[],i,j,r,h,_=>h.elim
 | e::es,f::fs,i,j,r,ok,h=>by
  obtain⟨o1,o2⟩:=ok;unfold sU at h;split at h
  ·rename_i hx;cases h;have ex:x=e.1:=Qm hx;subst ex;exact⟨f,o1,rfl⟩
  ·obtain⟨p,h1,h2⟩:=Qe.mp h;obtain⟨j',r'⟩:=p;cases h2;obtain⟨f',k1,k2⟩:=oA o2 h1;refine⟨f',?_,k2⟩;have:i + (j' + 1)=i + 1 + j':=by omega
   rw[this];exact k1
variable {P:Program} {w:World} {base:Heap} {xv:Nat->Value} {fs:List Fn}
def j8 (hm:MG g mg) (ok:pP g K mg 0 g.fns fs):∀n,FX g xv (oJ P w) P w K mg base n n (aI fs n)
 | 0=>⟨λx f np fP bc h=>by
   obtain⟨fn,⟨fa,ps,N,M,δ,n,oc,od,an,tL,params,body,scope,dV,kV,doc,pm,ft,ct,h1,h2,h3,h4,h5,h6,h7,h8,h9,K2,Kk,JZ,LI,LM⟩,hf⟩:=oA ok h;refine⟨fa,_,ps,h8,h4,h3,⟨λvs H Q E q=>q.1.trans h8.symm,λA outer s H args us vs Q E _ _ _ _ q=>?_⟩,LI,LM⟩;obtain⟨_,W,dr,as,S,v7,_,_,_,q⟩:=q;exact q.elim⟩
 | n + 1=>⟨λx f np fP bc h=>by
   have ih:=j8 hm ok n;obtain⟨fn,⟨fa,ps,N,M,δ,m,oc,od,an,tL,params,body,scope,dV,kV,doc,pm,ft,ct,h1,h2,h3,h4,h5,h6,h7,h8,h9,K2,Kk,JZ,LI,LM⟩,hf⟩:=oA ok h;rw[Nat.zero_add] at h9;refine⟨fa,_,ps,h8,h4,h3,?_,LI,LM⟩;have:=mP (xv:=xv) (P:=P) (w:=w) (base:=base) h1 h2 h5 hm ih h6 h7 h9;have e:(aI fs (n + 1)) f=gp (aI fs n) ⟨ps.length,N.length,bc,fn.body⟩:=by funext args S;show (match fs[f]? with | some g=>gp (aI fs n) g args S | none=>R.bad)=_;rw[hf];obtain⟨a1,a2,a3,a4⟩:=fn;simp only at K2 Kk JZ;subst K2 Kk JZ;rfl
   have Ox:ps.length=np:=h8;rw[e,<-Ox];exact this⟩
def tU (K:Frag):Sp:=λvs H Q _=>∃(a:Addr) (ns:List Int),vs=[.ref a]/\d9 K H a (ns.map V.int)/\ns.length<=63/\∀H',Q (.bl true) H'
def binds0 {fd:FuncData} {ps:List Str} (h:∀us:List Value,us.length=ps.length->bindArgs fd ⟨us,[]⟩=pure (ps.zip us)):∀j,j<=([]:List Dt).length->∃ds,aw ((([]:List Dt).drop j).map qK) ds/\Binds K fd ps ds:=λj hj=>by
 have:j=0:=by simpa using hj
 subst this;exact⟨[],.nil,Binds.all h⟩
def Nr (names:List (Str×NameKind)) (ps:List Str):List Str:=ps++names.filterMap λp=>if yl (some p.2)&& !ps.contains p.1 then some p.1 else none
def Fx (N ms:List Str):List Bool:=N.map λx=>ms.contains x
def Im {N ms ps:List Str} (h:((Fx N ms).take ps.length).all (λb=> !b)=true):∀i,i < ps.length->(Fx N ms)[i]?≠some true:=λi hi e=>by have hm:true∈(Fx N ms).take ps.length:=List.mem_iff_getElem?.mpr ⟨i,by rw[List.getElem?_take_of_lt hi];exact e⟩;have:=Qz.mp h true hm;cases this
end
end Rx
end
section
namespace Rx
open PySem PySem.W PySem.Spec PyProof.Rows L2
section
variable {F:FT} {S:Sx} {ρ:ak}
def cw {tg:Tg} {body:ak->Sx->RS} {ds:List Dt} (P:List Dt->ak->Prop) (h0:P [] ρ)
  (step:∀pre x post ρ,ds=pre++x::post->P pre ρ->∃ρ1 ρ2,cA tg x ρ= .ok ρ1/\body ρ1 S= .ok (.next,ρ2,S)/\P (pre++[x]) ρ2):∃ρ',forL tg body ds ρ S= .ok (.next,ρ',S)/\P ds ρ':=by
 have key:∀(post pre:List Dt) (ρ:ak),ds=pre++post->P pre ρ->∃ρ',forL tg body post ρ S= .ok (.next,ρ',S)/\P ds ρ':=by
  intro post
  induction post with
  | nil=>intro pre ρ e h;rw[QC] at e;subst e;exact⟨ρ,rfl,h⟩
  | cons x post ih=>intro pre ρ e h;obtain⟨ρ1,ρ2,h1,h2,h3⟩:=step pre x post ρ e h;obtain⟨ρ',h4,h5⟩:=ih (pre++[x]) ρ2 (by rw[e];simp) h3;refine⟨ρ',?_,h5⟩;rw[forL,h1,R.ax,h2,R.ax];exact h4
 exact key ds [] ρ rfl h0
def fM {α β:Type} (f:α->β):∀l:List α,(l.flatMap λx=>[f x])=l.map f
 | []=>rfl
 | x::l=>by rw[List.flatMap_cons,fM f l];rfl
end
def A7 {fs:List Fn} {n k:Nat} {g:Fn} {args:List Dt} {S:Sx} (h:fs[k]?=some g):aI fs (n + 1) k args S=gp (aI fs n) g args S:=by show (match fs[k]? with | some g=>gp (aI fs n) g args S | none=>R.bad)=_;rw[h]
def GD (d:Dt) (S:Sx):R (Dt×Sx):=match d with | .int i=> .ok (.int (-i),S) | _=> .bad
def Mn (d:Dt) (S:Sx):R (Dt×Sx):=match d with | .bl b=> .ok (.bl !b,S) | _=> .bad
def HK (d:Dt) (S:Sx):R (Dt×Sx):=match d with | .bl c=> .ok (.bl c,S) | _=> .bad
def CK (f:Sx->R (Dt×Sx)) (d:Dt) (S:Sx):R (Dt×Sx):=match d with | .bl true=>(f S).bind (λy=>HK y.1 y.2) | .bl false=> .ok (.bl false,S) | _=> .bad
def LX (f:Sx->R (Dt×Sx)) (d:Dt) (S:Sx):R (Dt×Sx):=match d with | .bl false=>(f S).bind (λy=>HK y.1 y.2) | .bl true=> .ok (.bl true,S) | _=> .bad
def BR (k:List Dt->Dt) (ds:List Dt) (S:Sx):R (Dt×Sx):=ag (decide (ds.length<=lim)) (.ok (k ds,S))
def Kj (o:Option (List Dt)) (S:Sx):R (List Dt×Sx):=match o with | some ds=> .ok (ds,S) | none=> .bad
def HE (d e:Dt) (S:Sx):R (Dt×Sx):=match e with | .int i=>(iB d (some i) none).bind λd=> .ok (d,S) | _=> .bad
def Ge (d e:Dt) (S:Sx):R (Dt×Sx):=match e with | .int i=>(iB d none (some i)).bind λd=> .ok (d,S) | _=> .bad
def RX:
  (∀{F:FT} {S:Sx} {ρ:ak} {d:Dt},ev F (.con d) ρ S= .ok (d,S))/\
  (∀{F:FT} {S:Sx} {ρ:ak} {i:Nat},ev F (.var i) ρ S=(fN ρ i).bind λd=> .ok (d,S))/\
  (∀{F:FT} {S:Sx} {ρ:ak} {i:Nat},ev F (.mvr i) ρ S=(fN ρ i).bind λd=> .ok (d,S))/\
  (∀{F:FT} {S:Sx} {ρ:ak} {o:Operator} {a b:C},ev F (.bin o a b) ρ S=(ev F a ρ S).bind λx=>(ev F b ρ x.2).bind λy=>(nh o x.1 y.1).bind λd=> .ok (d,y.2))/\
  (∀{F:FT} {S:Sx} {ρ:ak} {o:CmpOp} {a b:C},ev F (.cmp o a b) ρ S=(ev F a ρ S).bind λx=>(ev F b ρ x.2).bind λy=>(c8 o x.1 y.1).bind λd=> .ok (.bl d,y.2))/\
  (∀{F:FT} {S:Sx} {ρ:ak} {a:C},ev F (.neg a) ρ S=(ev F a ρ S).bind λx=>GD x.1 x.2)/\
  (∀{F:FT} {S:Sx} {ρ:ak} {a:C},ev F (.nt a) ρ S=(ev F a ρ S).bind λx=>Mn x.1 x.2)/\
  (∀{F:FT} {S:Sx} {ρ:ak} {a b:C},ev F (.and a b) ρ S=(ev F a ρ S).bind λx=>CK (ev F b ρ) x.1 x.2)/\
  (∀{F:FT} {S:Sx} {ρ:ak} {a b:C},ev F (.or a b) ρ S=(ev F a ρ S).bind λx=>LX (ev F b ρ) x.1 x.2)/\
  (∀{F:FT} {S:Sx} {ρ:ak} {a b c:C},ev F (.ite a b c) ρ S=(cq F a ρ S).bind λx=>if x.1=true then ev F b ρ x.2 else ev F c ρ x.2)/\
  (∀{F:FT} {S:Sx} {ρ:ak} {a b:C},ev F (.idx a b) ρ S=(ev F a ρ S).bind λx=>(ev F b ρ x.2).bind λy=>(dm x.1 y.1).bind λd=> .ok (d,y.2))/\
  (∀{F:FT} {S:Sx} {ρ:ak} {a b:C},ev F (.sliL a b) ρ S=(ev F a ρ S).bind λx=>(ev F b ρ x.2).bind λy=>HE x.1 y.1 y.2)/\
  (∀{F:FT} {S:Sx} {ρ:ak} {a b:C},ev F (.sliH a b) ρ S=(ev F a ρ S).bind λx=>(ev F b ρ x.2).bind λy=>Ge x.1 y.1 y.2)/\
  (∀{F:FT} {S:Sx} {ρ:ak} {f:Nat} {es:Cs} {ds:List Dt},ev F (.call f es ds) ρ S=(gz F es ρ S).bind λx=>(F f (x.1++ds) none).bind λy=> .ok (y.1,x.2))/\
  (∀{F:FT} {S:Sx} {ρ:ak} {u:BI} {es:Cs},ev F (.bi u es) ρ S=(gz F es ρ S).bind λx=>(dX u x.1).bind λd=> .ok (d,x.2))/\
  (∀{F:FT} {S:Sx} {ρ:ak} {es:Cs},ev F (.tup es) ρ S=(gz F es ρ S).bind λx=>BR .tup x.1 x.2)/\
  (∀{F:FT} {S:Sx} {ρ:ak} {es:Cs},ev F (.lst es) ρ S=(gz F es ρ S).bind λx=>BR .lst x.1 x.2)/\
  (∀{F:FT} {S:Sx} {ρ:ak},gz F .nil ρ S= .ok ([],S))/\
  (∀{F:FT} {S:Sx} {ρ:ak} {a:C} {es:Cs},gz F (.cons a es) ρ S=(ev F a ρ S).bind λx=>(gz F es ρ x.2).bind λy=> .ok (x.1::y.1,y.2))/\
  (∀{F:FT} {S:Sx} {ρ:ak} {o:CmpOp} {a b:C},cq F (.cmp o a b) ρ S=(ev F a ρ S).bind λx=>(ev F b ρ x.2).bind λy=>(c8 o x.1 y.1).bind λd=> .ok (d,y.2))/\
  (∀{F:FT} {S:Sx} {ρ:ak} {a b:C},cq F (.and a b) ρ S=(cq F a ρ S).bind λx=>if x.1=true then cq F b ρ x.2 else .ok (false,x.2))/\
  (∀{F:FT} {S:Sx} {ρ:ak} {a b:C},cq F (.or a b) ρ S=(cq F a ρ S).bind λx=>if x.1=true then .ok (true,x.2) else cq F b ρ x.2)/\
  (∀{F:FT} {S:Sx} {ρ:ak} {a:C},cq F (.nt a) ρ S=(cq F a ρ S).bind λx=> .ok (!x.1,x.2))/\
  (∀{F:FT} {S:Sx} {ρ:ak} {f:Nat} {es:Cs} {ds:List Dt},cq F (.call f es ds) ρ S=(gz F es ρ S).bind λx=>(F f (x.1++ds) none).bind λy=>(dU y.1).bind λb=> .ok (b,x.2))/\
  (∀{F:FT} {S:Sx} {ρ:ak} {u:BI} {es:Cs},cq F (.bi u es) ρ S=(gz F es ρ S).bind λx=>(dX u x.1).bind λd=>(dU d).bind λb=> .ok (b,x.2))/\
  (∀{F:FT} {S:Sx} {ρ:ak} {i:Nat},cq F (.var i) ρ S=(fN ρ i).bind λd=>(dU d).bind λb=> .ok (b,S))/\
  (∀{F:FT} {S:Sx} {ρ:ak} {i:Nat},cq F (.mvr i) ρ S=(fN ρ i).bind λd=>(dU d).bind λb=> .ok (b,S))/\
  (∀{F:FT} {S:Sx} {ρ:ak} {a b:C},cq F (.idx a b) ρ S=(ev F a ρ S).bind λx=>(ev F b ρ x.2).bind λy=>(dm x.1 y.1).bind λd=>(dU d).bind λb=> .ok (b,y.2))/\
  (∀{F:FT} {S:Sx} {ρ:ak},cU F .nil ρ S= .ok (true,S))/\
  (∀{F:FT} {S:Sx} {ρ:ak} {a:C},cU F (.cons a .nil) ρ S=cq F a ρ S)/\
  (∀{F:FT} {S:Sx} {ρ:ak} {a:C},eG F (.seq a) ρ S=(ev F a ρ S).bind λx=>Kj (itemsOf x.1) x.2)/\
  (∀{F:FT} {S:Sx} {ρ:ak} {a:C},eG F (.enum a) ρ S=(ev F a ρ S).bind λx=>Kj ((bM x.1).map (dI 0)) x.2)/\
  (∀{d:Dt} {ρ:ak},fN (some d::ρ) 0= .ok d)/\
  (∀{e:Option Dt} {ρ:ak} {i:Nat},fN (e::ρ) (i + 1)=fN ρ i)/\
  (∀{S:Sx} {i:Int},GD (.int i) S= .ok (.int (-i),S))/\
  (∀{S:Sx} {b:Bool},Mn (.bl b) S= .ok (.bl !b,S))/\
  (∀{S:Sx} {f:Sx->R (Dt×Sx)},CK f (.bl false) S= .ok (.bl false,S))/\
  (∀{S:Sx} {f:Sx->R (Dt×Sx)},CK f (.bl true) S=(f S).bind λy=>HK y.1 y.2)/\
  (∀{S:Sx} {f:Sx->R (Dt×Sx)},LX f (.bl true) S= .ok (.bl true,S))/\
  (∀{S:Sx} {f:Sx->R (Dt×Sx)},LX f (.bl false) S=(f S).bind λy=>HK y.1 y.2)/\
  (∀{S:Sx} {b:Bool},HK (.bl b) S= .ok (.bl b,S))/\
  (∀{S:Sx} {ds:List Dt},Kj (some ds) S= .ok (ds,S))/\
  (∀{ds:List Dt} {f:List Dt->List Dt},(some ds).map f=some (f ds))/\
  (∀{S:Sx} {k:List Dt->Dt},BR k [] S= .ok (k [],S))/\
  (∀{S:Sx} {k:List Dt->Dt} {a:Dt},BR k [a] S= .ok (k [a],S))/\
  (∀{S:Sx} {k:List Dt->Dt} {a b:Dt},BR k [a,b] S= .ok (k [a,b],S))/\
  (∀{S:Sx} {k:List Dt->Dt} {a b c:Dt},BR k [a,b,c] S= .ok (k [a,b,c],S))/\
  (∀{S:Sx} {k:List Dt->Dt} {a b c d:Dt},BR k [a,b,c,d] S= .ok (k [a,b,c,d],S))/\
  (∀{S:Sx} {k:List Dt->Dt} {a b c d e:Dt},BR k [a,b,c,d,e] S= .ok (k [a,b,c,d,e],S))/\
  (∀{S:Sx} {d:Dt} {i:Int},HE d (.int i) S=(iB d (some i) none).bind λd=> .ok (d,S))/\
  (∀{S:Sx} {d:Dt} {i:Int},Ge d (.int i) S=(iB d none (some i)).bind λd=> .ok (d,S))/\
  (∀{m n:Int},nh .Add (.int m) (.int n)= .ok (.int (m + n)))/\
  (∀{m n:Int},nh .Sub (.int m) (.int n)= .ok (.int (m - n)))/\
  (∀{m n:Int},c8 .Lt (.int m) (.int n)= .ok (decide (m < n)))/\
  (∀{m n:Int},c8 .LtE (.int m) (.int n)= .ok (decide (m<=n)))/\
  (∀{m n:Int},c8 .Gt (.int m) (.int n)= .ok (decide (n < m)))/\
  (∀{m n:Int},c8 .GtE (.int m) (.int n)= .ok (decide (n<=m)))/\
  (∀{m n:Int},c8 .Eq (.int m) (.int n)= .ok (m==n))/\
  (∀{m n:Int},c8 .NotEq (.int m) (.int n)= .ok (!(m==n)))/\
  (∀{m n:Str},c8 .Eq (.str m) (.str n)= .ok (m==n))/\
  (∀{m n:Str},c8 .NotEq (.str m) (.str n)= .ok (!(m==n)))/\
  (∀{ns:List Int},dX .len [.br ns]= .ok (.int ns.length))/\
  (∀{ds:List Dt},dX .len [.lst ds]= .ok (.int ds.length))/\
  (∀{ds:List Dt},dX .len [.tup ds]= .ok (.int ds.length))/\
  (∀{ds:List Dt},dX .tuple [.lst ds]= .ok (.tup ds))/\
  (∀{ds:List Dt},dX .tuple [.tup ds]= .ok (.tup ds))/\
  (∀{ds:List Dt},dX .list [.lst ds]= .ok (.lst ds))/\
  (∀{ds:List Dt},dX .list [.tup ds]= .ok (.lst ds))/\
  (∀{m n:Int},dX .min2 [.int m,.int n]= .ok (.int (if n < m then n else m)))/\
  (∀{t:Bool},dU (.bl t)= .ok t)/\
  (∀{ds:List Dt},dU (.lst ds)= .ok !ds.isEmpty)/\
  (∀{ds:List Dt},dU (.tup ds)= .ok !ds.isEmpty)/\
  (∀{ds:List Dt},itemsOf (.lst ds)=some ds)/\
  (∀{ds:List Dt},itemsOf (.tup ds)=some ds)/\
  (∀{ds:List Dt},bM (.lst ds)=some ds)/\
  (∀{ds:List Dt},bM (.tup ds)=some ds)/\
  (∀{α β:Type} {x:α} {f:α->R β},(R.ok x).bind f=f x)/\
  (∀{α:Type} {r:R α},ag true r=r)/\
  (∀{ds:List Dt},(ds++[]:List Dt)=ds)/\
  (∀{e v:Option Dt} {ρ:ak},(e::ρ).set 0 v=v::ρ)/\
  (∀{e v:Option Dt} {ρ:ak} {i:Nat},(e::ρ).set (i + 1) v=e::ρ.set i v)/\
  (∀{d:Dt} {ρ:ak} {i:Nat},cA (.nm i) d ρ= .ok (ρ.set i (some d)))/\
  (∀{is:List Nat} {ds:List Dt} {ρ:ak},cA (.tp is) (.tup ds) ρ=dZ is ds ρ)/\
  (∀{ρ:ak},dZ [] [] ρ= .ok ρ)/\
  (∀{i:Nat} {is:List Nat} {d:Dt} {ds:List Dt} {ρ:ak},dZ (i::is) (d::ds) ρ=dZ is ds (ρ.set i (some d)))/\
  (∀{d:Dt},dm (.tup [d]) (.int 0)= .ok d)/\
  (∀{d d2:Dt},dm (.tup [d,d2]) (.int 0)= .ok d)/\
  (∀{d d2:Dt},dm (.tup [d,d2]) (.int 1)= .ok d2)/\
  (∀{d d2 d3:Dt},dm (.tup [d,d2,d3]) (.int 0)= .ok d)/\
  (∀{d d2 d3:Dt},dm (.tup [d,d2,d3]) (.int 1)= .ok d2)/\
  (∀{d d2 d3:Dt},dm (.tup [d,d2,d3]) (.int 2)= .ok d3):=
 ⟨@λ_ _ _ _=>rfl,
  @λ_ _ _ _=>rfl,
  @λ_ _ _ _=>rfl,
  @λ_ _ _ _ _ _=>rfl,
  @λ_ _ _ _ _ _=>rfl,
  @λ_ _ _ _=>rfl,
  @λ_ _ _ _=>rfl,
  @λ_ _ _ _ _=>rfl,
  @λ_ _ _ _ _=>rfl,
  @λ_ _ _ _ _ _=>rfl,
  @λ_ _ _ _ _=>rfl,
  @λ_ _ _ _ _=>rfl,
  @λ_ _ _ _ _=>rfl,
  @λ_ _ _ _ _ _=>rfl,
  @λ_ _ _ _ _=>rfl,
  @λ_ _ _ _=>rfl,
  @λ_ _ _ _=>rfl,
  @λ_ _ _=>rfl,
  @λ_ _ _ _ _=>rfl,
  @λ_ _ _ _ _ _=>rfl,
  @λ_ _ _ _ _=>rfl,
  @λ_ _ _ _ _=>rfl,
  @λ_ _ _ _=>rfl,
  @λ_ _ _ _ _ _=>rfl,
  @λ_ _ _ _ _=>rfl,
  @λ_ _ _ _=>rfl,
  @λ_ _ _ _=>rfl,
  @λ_ _ _ _ _=>rfl,
  @λ_ _ _=>rfl,
  @λ_ _ _ _=>rfl,
  @λ_ _ _ _=>rfl,
  @λF S ρ a=>by rw[eG];cases ev F a ρ S with | ok x=>(simp only[R.ax];cases bM x.1 <;> rfl) | ex k=>rfl | bad=>rfl,
  @λ_ _=>rfl,
  @λ_ _ _=>rfl,
  @λ_ _=>rfl,
  @λ_ _=>rfl,
  @λ_ _=>rfl,
  @λ_ _=>rfl,
  @λ_ _=>rfl,
  @λ_ _=>rfl,
  @λ_ _=>rfl,
  @λ_ _=>rfl,
  @λ_ _=>rfl,
  @λ_ _=>rfl,
  @λ_ _ _=>rfl,
  @λ_ _ _ _=>rfl,
  @λ_ _ _ _ _=>rfl,
  @λ_ _ _ _ _ _=>rfl,
  @λ_ _ _ _ _ _ _=>rfl,
  @λ_ _ _=>rfl,
  @λ_ _ _=>rfl,
  @λ_ _=>rfl,
  @λ_ _=>rfl,
  @λ_ _=>rfl,
  @λ_ _=>rfl,
  @λ_ _=>rfl,
  @λ_ _=>rfl,
  @λ_ _=>rfl,
  @λ_ _=>rfl,
  @λ_ _=>rfl,
  @λ_ _=>rfl,
  @λ_=>rfl,
  @λ_=>rfl,
  @λ_=>rfl,
  @λ_=>rfl,
  @λ_=>rfl,
  @λ_=>rfl,
  @λ_=>rfl,
  @λ_ _=>rfl,
  @λ_=>rfl,
  @λ_=>rfl,
  @λ_=>rfl,
  @λ_=>rfl,
  @λ_=>rfl,
  @λ_=>rfl,
  @λ_=>rfl,
  @λ_ _ _ _=>rfl,
  @λ_ _=>rfl,
  @λds=>QC ds,
  @λ_ _ _=>rfl,
  @λ_ _ _ _=>rfl,
  @λ_ _ _=>rfl,
  @λ_ _ _=>rfl,
  @λ_=>rfl,
  @λ_ _ _ _ _=>rfl,
  @λ_=>rfl,
  @λ_ _=>rfl,
  @λ_ _=>rfl,
  @λ_ _ _=>rfl,
  @λ_ _ _=>rfl,
  @λ_ _ _=>rfl⟩
section
variable {F:FT} {S:Sx} {ρ:ak}
def bB {i j:Int} (h:i.natAbs < 2 ^ 64\/j.natAbs < 2 ^ 64):nh .Mult (.int i) (.int j)= .ok (.int (i * j)):=by grind [ag,nh]
def c6 {i j:Int} (h:0 < j):nh .Mod (.int i) (.int j)= .ok (.int (i % j)):=by show ag (decide (0 < j)) _=_;rw[Qs h];rfl
def xR {i j:Int} (h:0 < j) (h2:j.natAbs.log2 < 9000):nh .FloorDiv (.int i) (.int j)= .ok (.int (i / j)):=by grind [ag,nh]
def fin (r:RS):R (Dt×Sx):=r.bind λp=>match p.1 with
 | .next=> .ok (.bo,p.2.2)
 | .ret d=> .ok (d,p.2.2)
 | _=> .bad
def Ts.app:Ts->Ts->Ts
 | .nil,b=>b
 | .cons t a,b=> .cons t (a.app b)
def oB:∀{a b:Ts} {ρ:ak} {S:Sx},aQ F (a.app b) ρ S=(aQ F a ρ S).bind λp=>match p.1 with
  | .next=>aQ F b p.2.1 p.2.2
  | f=> .ok (f,p.2)
 | .nil,b,ρ,S=>rfl
 | .cons t a,b,ρ,S=>by
  show aQ F (.cons t (a.app b)) ρ S=_;rw[aQ,aQ];cases ex F t ρ S with
  | ok p=>
   obtain⟨f,ρ1,S1⟩:=p;cases f with
   | next=>exact oB
   | brk=>rfl
   | cnt=>rfl
   | ret d=>rfl
  | ex k=>rfl
  | bad=>rfl
section
variable {r:R (Dt×Sx)} {ts:Ts}
def fO {t:T} {ρ1:ak} {S1:Sx} (h:ex F t ρ S= .ok (.next,ρ1,S1)) (k:fin (aQ F ts ρ1 S1)=r):fin (aQ F (.cons t ts) ρ S)=r:=by rw[aQ,h];exact k
def BG {t:T} {ρ1:ak} {S1:Sx} {d:Dt} (h:ex F t ρ S= .ok (.ret d,ρ1,S1)):fin (aQ F (.cons t ts) ρ S)= .ok (d,S1):=by rw[aQ,h];rfl
def aJ {i:Nat} {c:C} {d:Dt} {S1:Sx} (h:ev F c ρ S= .ok (d,S1)) (hs:eL c d=true) (k:fin (aQ F ts (ρ.set i (some d)) S1)=r):fin (aQ F (.cons (.asg i c) ts) ρ S)=r:=by refine fO ?_ k;rw[ex,h,R.ax,hs];rfl
def bw {i:Nat} {c:C} {d:Dt} {S1:Sx} (h:ev F c ρ S= .ok (d,S1)) (hs:mn c d=true) (k:fin (aQ F ts (ρ.set i (some d)) S1)=r):fin (aQ F (.cons (.asgM i c) ts) ρ S)=r:=by refine fO ?_ k;rw[ex,h,R.ax,hs];rfl
def ar {c:C} {d:Dt} {S1:Sx} (h:ev F c ρ S= .ok (d,S1)):fin (aQ F (.cons (.ret c) ts) ρ S)= .ok (d,S1):=by refine BG (ρ1:=ρ) ?_;rw[ex,h];rfl
def zk {t:C} {a b:Ts} {x:Bool} {S1:Sx} (h:cq F t ρ S= .ok (x,S1)) (k:fin (aQ F ((if x=true then a else b).app ts) ρ S1)=r):fin (aQ F (.cons (.ifs t a b) ts) ρ S)=r:=by rw[<-k,oB,aQ,ex,h,R.ax];cases x <;> rfl
def kc {t:C} {a b:Ts} {S1:Sx} (h:cq F t ρ S= .ok (true,S1)) (k:fin (aQ F (a.app ts) ρ S1)=r):fin (aQ F (.cons (.ifs t a b) ts) ρ S)=r:=zk h (by rw[if_pos rfl];exact k)
def eE {t:C} {a b:Ts} {S1:Sx} (h:cq F t ρ S= .ok (false,S1)) (k:fin (aQ F (b.app ts) ρ S1)=r):fin (aQ F (.cons (.ifs t a b) ts) ρ S)=r:=zk h (by rw[if_neg (by simp)];exact k)
def bz {tg:Tg} {it:ql} {b:Ts} {ds:List Dt} {ρ1:ak} {S1 S2:Sx} (h:eG F it ρ S= .ok (ds,S1)) (hl:vF it=0) (hf:forL tg (aQ F b) ds ρ S1= .ok (.next,ρ1,S2)) (k:fin (aQ F ts ρ1 S2)=r):fin (aQ F (.cons (.fr tg it b) ts) ρ S)=r:=by refine fO ?_ k;rw[ex,h,R.ax,Qs hl,Bool.true_or];exact hf
end
end
def aB {fs:List Fn} {n k ps m:Nat} {body:Ts} {args:List Dt} {r:R (Dt×Sx)} {S:Sx} (h:fs[k]?=some ⟨ps,m,false,body⟩) (hn:1<=n) (hl:args.length=ps) (q:fin (aQ (aI fs (n - 1)) body (args.map some++List.replicate (m - ps) none) S)=r):aI fs n k args S=r:=by obtain⟨n,rfl⟩:∃m,n=m + 1:=⟨n - 1,by omega⟩;rw[A7 h];unfold gp;simp only[Bool.false_eq_true,if_false,Nat.add_zero,hl,if_true,List.nil_append];exact q
def pX:Ts:=(.cons (.ifs (.cmp .Lt (.var 1) (.bi .len (.cons (.var 0) .nil))) (.cons (.ret (.idx (.var 0) (.var 1))) .nil) .nil) (.cons (.asg 2 (.bin .Add (.bin .Mult (.var 1) (.con (.int 7919))) (.con (.int 5)))) (.cons (.ifs (.cmp .Gt (.bi .len (.cons (.var 0) .nil)) (.con (.int 0))) (.cons (.asg 2 (.bin .Add (.bin .Add (.bin .Mult (.bin .Mod (.idx (.var 0) (.bin .Mod (.var 1) (.bi .len (.cons (.var 0) .nil)))) (.con (.int 2147483647))) (.con (.int 48271))) (.bin .Mult (.bin .Mult (.var 1) (.var 1)) (.con (.int 7919)))) (.con (.int 11)))) .nil) .nil) (.cons (.ret (.bin .Mod (.bin .Mult (.var 2) (.var 2)) (.con (.int 2147483629)))) .nil))))
def sY {ns:List Int} {k:Nat} (h:k < ns.length):dm (.br ns) (.int k)= .ok (.int ns[k]):=by show vZ (ns.map Dt.int) k=_;unfold vZ;rw[L2.fT (v:= .int ns[k]) (by simp[h])]
def hV (ns:List Int) (k:Nat):Int:=if h:k < ns.length then ns[k] else
 let m:Int:=if h:0 < ns.length then ns[k % ns.length]'(Nat.mod_lt _ h) % 2147483647 * 48271 + k * k * 7919 + 11 else k * 7919 + 5
 m * m % 2147483629
def uN {fs:List Fn} {ic:Nat} (hc:fs[ic]?=some ⟨2,3,false,pX⟩) {n:Nat} (hn:1<=n) {ns:List Int} {k:Nat} (hk:k < 1000000):aI fs n ic [.br ns,.int k] none= .ok (.int (hV ns k),none):=by
 refine aB hc hn rfl ?_;show fin (aQ (aI fs (n - 1)) pX [some (.br ns),some (.int k),none] none)=_;by_cases h:k < ns.length
 ·refine kc (S1:=none) (by simp only[RX];simp[h]) ?_;exact(ar (d:= .int ns[k]) (S1:=none) (by simp only[RX,sY h])).trans (by simp[hV,h])
 ·have b1:(k:Int) * k<=1000000 * 1000000:=by have:k * k<=1000000 * 1000000:=Nat.mul_le_mul (by omega) (by omega);rw[<-Int.natCast_mul];omega
  have b0:(0:Int)<=(k:Int) * k:=Int.mul_nonneg (by omega) (by omega);have m1:=bB (i:=k) (j:=7919) (.inl (by omega));refine eE (S1:=none) (by simp only[RX];simp;omega) (aJ (d:= .int (k * 7919 + 5)) (S1:=none) (by simp only[RX,m1]) rfl ?_);by_cases h2:0 < ns.length
  ·have hm:=Nat.mod_lt k h2;have e1:((k:Int) % (ns.length:Int))=((k % ns.length:Nat):Int):=by simp
   generalize hx:ns[k % ns.length]=x;have r1:=QA x (b:=2147483647) (by decide);have r2:=QB x (b:=2147483647) (by decide);have m2:=c6 (i:=k) (j:=ns.length) (by omega);rw[e1] at m2;have m3:=c6 (i:=x) (j:=2147483647) (by decide);have m4:=bB (i:=x % 2147483647) (j:=48271) (.inl (by omega));have m5:=bB (i:=k) (j:=k) (.inl (by omega));have m6:=bB (i:=(k:Int) * k) (j:=7919) (.inl (by omega));have m7:=bB (i:=x % 2147483647 * 48271 + k * k * 7919 + 11) (j:=x % 2147483647 * 48271 + k * k * 7919 + 11) (.inl (by omega));have m8:=c6 (i:=(x % 2147483647 * 48271 + k * k * 7919 + 11) * (x % 2147483647 * 48271 + k * k * 7919 + 11)) (j:=2147483629) (by decide);refine kc (S1:=none) (by simp only[RX];simp;omega) (aJ (d:= .int (x % 2147483647 * 48271 + k * k * 7919 + 11)) (S1:=none) ?_ rfl ?_)
   ·simp only[RX,m2,m3,m4,m5,m6,sY hm,hx]
   ·refine(ar (d:=_) (S1:=none) (by simp only[RX,m7,m8];rfl)).trans ?_;simp[hV,h,h2,hx]
  ·have z0:decide ((0:Int) < ns.length)=false:=Qo (by omega);have m7:=bB (i:=k * 7919 + 5) (j:=k * 7919 + 5) (.inl (by omega));have m8:=c6 (i:=((k:Int) * 7919 + 5) * (k * 7919 + 5)) (j:=2147483629) (by decide);refine eE (S1:=none) (by simp only[RX,z0]) ((ar (d:=_) (S1:=none) (by simp only[RX,m7,m8];rfl)).trans ?_);simp[hV,h,h2]
section
variable {F:FT} {S S1 S2:Sx} {ρ ρ1:ak} {ts:Ts} {r:RS} {d:Dt} {ds:List Dt}
def nx {t:T} (h:ex F t ρ S= .ok (.next,ρ1,S1)) (k:aQ F ts ρ1 S1=r):aQ F (.cons t ts) ρ S=r:=by rw[aQ,h];exact k
def cg {i:Nat} {c:C} (h:ev F c ρ S= .ok (d,S1)) (hs:eL c d=true) (k:aQ F ts (ρ.set i (some d)) S1=r):aQ F (.cons (.asg i c) ts) ρ S=r:=by refine nx ?_ k;rw[ex,h,R.ax,hs];rfl
def A8 {i:Nat} {c:C} (h:ev F c ρ S= .ok (d,S1)) (hs:mn c d=true) (k:aQ F ts (ρ.set i (some d)) S1=r):aQ F (.cons (.asgM i c) ts) ρ S=r:=by refine nx ?_ k;rw[ex,h,R.ax,hs];rfl
def BZ {t:C} {a b:Ts} {x:Bool} (h:cq F t ρ S= .ok (x,S1)) (k:aQ F ((if x=true then a else b).app ts) ρ S1=r):aQ F (.cons (.ifs t a b) ts) ρ S=r:=by rw[<-k,oB,aQ,ex,h,R.ax];cases x <;> rfl
def qP {t:C} {a b:Ts} (h:cq F t ρ S= .ok (true,S1)) (k:aQ F (a.app ts) ρ S1=r):aQ F (.cons (.ifs t a b) ts) ρ S=r:=BZ h (by rw[if_pos rfl];exact k)
def lL {t:C} {a b:Ts} (h:cq F t ρ S= .ok (false,S1)) (k:aQ F (b.app ts) ρ S1=r):aQ F (.cons (.ifs t a b) ts) ρ S=r:=BZ h (by rw[if_neg (by simp)];exact k)
def nG {tg:Tg} {it:ql} {b:Ts} (h:eG F it ρ S= .ok (ds,S1)) (hl:vF it=0) (hf:forL tg (aQ F b) ds ρ S1= .ok (.next,ρ1,S2)) (k:aQ F ts ρ1 S2=r):aQ F (.cons (.fr tg it b) ts) ρ S=r:=by refine nx ?_ k;rw[ex,h,R.ax,Qs hl,Bool.true_or];exact hf
def nQ {i:Nat} (hl:ρ[i]?=some (some (.lst ds))):isLE ρ i=true:=by unfold isLE;rw[hl]
def jF {i:Nat} (hl:ρ[i]?=some (some (.lst ds))):pZ ρ i= .ok ds:=by unfold pZ;rw[hl]
def EM {i:Nat} {c:C} (hl:ρ[i]?=some (some (.lst ds))) (h:ev F c ρ S= .ok (d,S1)) (hs:eL c d=true) (hz:ds.length<=lim):ex F (.app i c) ρ S= .ok (.next,ρ.set i (some (.lst (ds++[d]))),S1):=by simp_all [ex,nQ,guard_true,R.ax,jF]
def EU {i:Nat} {c:C} {es:List Dt} (hl:ρ[i]?=some (some (.lst ds))) (h:ev F c ρ S= .ok (.lst es,S1)) (hs:lk c<=1) (hz:ds.length + es.length<=lim):ex F (.xtd i c) ρ S= .ok (.next,ρ.set i (some (.lst (ds++es))),S1):=by simp_all [ex,nQ,guard_true,R.ax,jF,ag,lim]
def uZ {i:Nat} {k v:C} {n:Int} {j:Nat} (hl:ρ[i]?=some (some (.lst ds))) (h:ev F v ρ S= .ok (d,S1)) (h2:ev F k ρ S1= .ok (.int n,S2)) (hs:eL v d=true) (hz:nv ds.length n=some j):ex F (.vc i k v) ρ S= .ok (.next,ρ.set i (some (.lst (ds.set j d))),S2):=by simp_all [ex,nQ,guard_true,R.ax,jF,nv]
def wK {i:Nat} (hl:ρ[i]?=some (some (.lst ds))):ex F (.clr i) ρ S= .ok (.next,ρ.set i (some (.lst [])),S):=by rw[ex,jF hl];rfl
def cM {i:Nat} {c:C} (hl:ρ[i]?=some (some (.lst ds))) (h:ev F c ρ S= .ok (d,S1)) (hs:eL c d=true) (hz:ds.length<=lim) (k:aQ F ts (ρ.set i (some (.lst (ds++[d])))) S1=r):aQ F (.cons (.app i c) ts) ρ S=r:=nx (EM hl h hs hz) k
def yY {i:Nat} {c:C} {es:List Dt} (hl:ρ[i]?=some (some (.lst ds))) (h:ev F c ρ S= .ok (.lst es,S1)) (hs:lk c<=1) (hz:ds.length + es.length<=lim) (k:aQ F ts (ρ.set i (some (.lst (ds++es)))) S1=r):aQ F (.cons (.xtd i c) ts) ρ S=r:=nx (EU hl h hs hz) k
def fG {c:C} (h:ev F c ρ S= .ok (d,S1)) (hd:itemsOf d=some ds):eG F (.seq c) ρ S= .ok (ds,S1):=by grind [ev,itemsOf,R.ax,C,eG]
def eR {c:C} {n:Nat} (h:ev F c ρ S= .ok (.int n,S1)) (hn:n<=lim):eG F (.rng1 c) ρ S= .ok (bh 0 n,S1):=by show (ev F c ρ S).bind (λx=>match x.1 with | .int j=>ag (decide (j<=lim)&&decide (-lim<=j)) (.ok (bh 0 j.toNat,x.2)) | _=> .bad)=_;rw[h,R.ax];show ag (decide ((n:Int)<=lim)&&decide (-lim<=(n:Int))) (R.ok (bh 0 (n:Int).toNat,S1))=_;rw[show (decide ((n:Int)<=lim)&&decide (-lim<=(n:Int)))=true by have:lim=1000000:=rfl;simp;omega];simp
def Dh {a b:C} {da db:Dt} {xs ys:List Dt} (ha:ev F a ρ S= .ok (da,S1)) (hb:ev F b ρ S1= .ok (db,S2)) (h1:bM da=some xs) (h2:bM db=some ys):eG F (.zip a b) ρ S= .ok (dR xs ys,S2):=by grind [ev,bM,dR,R.ax,C,Dt,eG]
def dk (F:FT) (e:C):ak->Sx->R (List Dt×Sx):=λρ1 S1=>(ev F e ρ1 S1).bind λy=>ag (eL e y.1) (.ok ([y.1],y.2))
def bA {cJ:List (Option Nat)} {it:ql} {tg:Tg} {cs:Cs} {e:C} {out:List Dt} (h:eG F it ρ S= .ok (ds,S1)) (hl:ds.length<=lim) (hk:(decide (vF it<=1)||ju F it ρ S)=true) (hc:a9 (bJ tg (cU F cs) (dk F e) (lM cJ ρ)) ds S1= .ok (out,S2)):
  ev F (.comp cJ it tg cs e) ρ S= .ok (.lst out,S2):=by
 rw[ev,h,R.ax,Qs hl,hk,Bool.and_true,guard_true];show (a9 (bJ tg (cU F cs) (dk F e) (lM cJ ρ)) ds S1).bind _=_;rw[hc];rfl
def dE {tg:Tg} {e:C} {y:Dt} (hs:cA tg d ρ= .ok ρ1) (he:ev F e ρ1 S= .ok (y,S1)) (hb:eL e y=true):bJ tg (cU F .nil) (dk F e) ρ d S= .ok ([y],S1):=by simp_all [bJ,dk,R.ax,cU,guard_true]
def turn_if {tg:Tg} {c e:C} {b:Bool} {y:Dt} (hs:cA tg d ρ= .ok ρ1) (hc:cq F c ρ1 S= .ok (b,S)) (he:b=true->ev F e ρ1 S= .ok (y,S)/\eL e y=true):bJ tg (cU F (.cons c .nil)) (dk F e) ρ d S= .ok (if b=true then[y] else[],S):=by grind [bJ,dk,R.ax,cU,guard_true]
def ec {k:Nat} (h:ds[k]?=some d):dm (.tup ds) (.int k)= .ok d/\dm (.lst ds) (.int k)= .ok d:=by
 have:vZ ds k= .ok d:=by unfold vZ;rw[L2.fT h]
 exact⟨this,this⟩
end
mutual
def zf:∀m:Mx.D,pl (ofD m)=true
 | .int _=>by simp[ofD,pl]
 | .str _=>by simp[ofD,pl]
 | .tup ms=>by simp[ofD,pl,nB ms]
def nB:∀ms:List Mx.D,jy (aa ms)=true
 | []=>by simp[aa,jy]
 | m::ms=>by simp[aa,jy,zf m,nB ms]
end
mutual
def xq:∀m:Mx.D,dp (ofD m)=Mx.D.dep m
 | .int _=>by simp[ofD,dp,Mx.D.dep]
 | .str _=>by simp[ofD,dp,Mx.D.dep]
 | .tup ms=>by simp[ofD,dp,Mx.D.dep,jd ms]
def jd:∀ms:List Mx.D,mH (aa ms)=Mx.D.b8 ms
 | []=>by simp[aa,mH,Mx.D.b8]
 | m::ms=>by simp[aa,mH,Mx.D.b8,xq m,jd ms]
end
mutual
def zb:∀m:Mx.D,lG (ofD m)=true
 | .int _=>by simp[ofD,lG]
 | .str _=>by simp[ofD,lG]
 | .tup ms=>by simp[ofD,lG,ng ms]
def ng:∀ms:List Mx.D,i5 (aa ms)=true
 | []=>by simp[aa,i5]
 | m::ms=>by simp[aa,i5,zb m,ng ms]
end
mutual
def xQ:∀a b:Mx.D,bC (ofD a) (ofD b)=Mx.D.gu a b
 | .int i,.int j=>by simp[ofD,bC,Mx.D.gu]
 | .str i,.str j=>by simp[ofD,bC,Mx.D.gu]
 | .tup i,.tup j=>by simp[ofD,bC,Mx.D.gu,xJ i j]
 | .int _,.str _=>by simp[ofD,bC,Mx.D.gu]
 | .int _,.tup _=>by simp[ofD,bC,Mx.D.gu]
 | .str _,.int _=>by simp[ofD,bC,Mx.D.gu]
 | .str _,.tup _=>by simp[ofD,bC,Mx.D.gu]
 | .tup _,.int _=>by simp[ofD,bC,Mx.D.gu]
 | .tup _,.str _=>by simp[ofD,bC,Mx.D.gu]
def xJ:∀a b:List Mx.D,bU (aa a) (aa b)=Mx.D.eqs a b
 | [],[]=>by simp[aa,bU,Mx.D.eqs]
 | [],_::_=>by simp[aa,bU,Mx.D.eqs]
 | _::_,[]=>by simp[aa,bU,Mx.D.eqs]
 | a::as,b::bs=>by simp[aa,bU,Mx.D.eqs,xQ a b,xJ as bs]
end
def tu {a b:Mx.D} (h:Mx.D.dep a<=100):c8 .Eq (ofD a) (ofD b)= .ok (decide (a=b)):=by show ag (f9 (ofD a) (ofD b)) (.ok (bC (ofD a) (ofD b)))=_;rw[show f9 (ofD a) (ofD b)=true by simp[f9,zf,xq,h],guard_true,xQ,Mx.D.iD]
def tm {a b:Mx.D} (h:Mx.D.dep a<=100):c8 .NotEq (ofD a) (ofD b)= .ok (!decide (a=b)):=by show ag (f9 (ofD a) (ofD b)) (.ok (!bC (ofD a) (ofD b)))=_;rw[show f9 (ofD a) (ofD b)=true by simp[f9,zf,xq,h],guard_true,xQ,Mx.D.iD]
def aq (a b:List Mx.D):aa (a++b)=aa a++aa b:=by simp[aK]
def ab (a:List Mx.D):(aa a).length=a.length:=by simp[aK]
def zD {d:Dt} {a:List Mx.D} (h:d∈aa a):∃m∈a,d=ofD m:=by rw[aK,Qy] at h;obtain⟨m,h1,rfl⟩:=h;exact⟨m,h1,rfl⟩
def ko {pre post:List Dt} {x:Dt} {a:List Mx.D} (h:aa a=pre++x::post):∃p y q,a=p++y::q/\pre=aa p/\x=ofD y/\post=aa q:=by rw[aK] at h;obtain⟨p,r,e1,e2,e3⟩:=List.map_eq_append_iff.mp h;obtain⟨y,q,e4,e5,e6⟩:=List.map_eq_cons_iff.mp e3;exact⟨p,y,q,by rw[e1,e4],by rw[aK,e2],e5.symm,by rw[aK,e6]⟩
def jg {ms:List Mx.D} (h:iz ms=true):dX .sorted [.lst (aa ms)]= .ok (.lst (aa (aT ms)))/\dX .sorted [.tup (aa ms)]= .ok (.lst (aa (aT ms))):=by
 constructor
 ·show (match kH (aa ms) with | some ms=>ag (iz ms) (R.ok (Dt.lst (aa (aT ms)))) | none=> .bad)=_;rw[fZ];show ag (iz ms) _=_;rw[h];rfl
 ·show (match kH (aa ms) with | some ms=>ag (iz ms) (R.ok (Dt.lst (aa (aT ms)))) | none=> .bad)=_;rw[fZ];show ag (iz ms) _=_;rw[h];rfl
def rB {ms:List Mx.D} (k:Mx.SK) (hl:ms.length < 1000000) (hd:Mx.D.b8 ms<=100) (hk:∀d∈ms,GC k d=true) (hp:∀d∈ms,∀e∈ms,jT d e=true):iz ms=true:=by
 have wo:([Mx.SK.tt,.ts,.ti,.s,.i].any λk=>ms.all (GC k))=true:=by rw[List.any_eq_true];exact⟨k,by cases k <;> simp,Qz.mpr hk⟩
 unfold iz;rw[wo,Qs hl,Qs hd];simp only[Bool.true_and,QD,PX];exact .inr (Qz.mpr λd h=>Qz.mpr λe h2=>hp d h e h2)
def cC {n:Nat}:∀{ms:List Mx.D},(∀d∈ms,Mx.D.dep d<=n)->Mx.D.b8 ms<=n
 | [],_=>by simp[Mx.D.b8]
 | m::ms,h=>by
  have h1:=h m P5;have h2:=cC λd hd=>h d (P1 _ hd)
  simp only[Mx.D.b8];omega
def bE (ms:List Mx.D):(aT ms).Perm ms:=List.mergeSort_perm ..
def bx {d:Mx.D} {ms:List Mx.D}:d∈aT ms↔d∈ms:=(bE ms).mem_iff
def vC (a b c:Mx.D) (h1:oI a b=true) (h2:oI b c=true):oI a c=true:=by
 unfold oI at *;simp only[Bool.not_eq_true'] at *;cases h:Mx.D.lt c a with
 | false=>rfl
 | true=>
  exfalso;cases h3:Mx.D.lt a b with
  | true=>rw[Mx.D.lt_trans c a b h h3] at h2;cases h2
  | false=>have:=Mx.D.ei a b h3 h1;subst this;rw[h] at h2;cases h2
def vJ (a b:Mx.D):(oI a b||oI b a)=true:=by
 unfold oI;cases h:Mx.D.lt b a with
 | false=>rfl
 | true=>
  cases h2:Mx.D.lt a b with
  | false=>rfl
  | true=>have:=Mx.D.lt_trans a b a h2 h;rw[Mx.D.lt_irrefl] at this;cases this
def gX (ms:List Mx.D):(aT ms).Pairwise λa b=>oI a b=true:=List.pairwise_mergeSort vC vJ ms
def j3:∀{a b:List Mx.D},a.Pairwise (λx y=>Mx.D.lt x y=true)->b.Pairwise (λx y=>Mx.D.lt x y=true)->(∀x,x∈a↔x∈b)->a=b
 | [],[],_,_,_=>rfl
 | [],y::b,_,_,h=>by have:=(h y).mpr P5;cases this
 | x::a,[],_,_,h=>by have:=(h x).mp P5;cases this
 | x::a,y::b,ha,hb,h=>by
  have Kt:=List.pairwise_cons.mp ha;have jA:=List.pairwise_cons.mp hb;have OE:x=y:=by
   rcases Qb.mp ((h x).mp P5) with e | e
   ·exact e
   ·rcases Qb.mp ((h y).mpr P5) with e2 | e2
    ·exact e2.symm
    ·have:=Mx.D.lt_trans x y x (Kt.1 y e2) (jA.1 x e);rw[Mx.D.lt_irrefl] at this;cases this
  subst OE;rw[j3 Kt.2 jA.2 λz=>?_];constructor
  ·intro hz;rcases Qb.mp ((h z).mp (P1 _ hz)) with e | e
   ·subst e;have:=Kt.1 z hz;rw[Mx.D.lt_irrefl] at this;cases this
   ·exact e
  ·intro hz;rcases Qb.mp ((h z).mpr (P1 _ hz)) with e | e
   ·subst e;have:=jA.1 z hz;rw[Mx.D.lt_irrefl] at this;cases this
   ·exact e
def pe {a b:Mx.D} (h:oI a b=true) (n:a≠b):Mx.D.lt a b=true:=by
 unfold oI at h;cases h2:Mx.D.lt a b with
 | true=>rfl
 | false=>exact absurd (Mx.D.ei a b h2 (by simpa using h)) n
def pA {ms:List Mx.D} (h:ms.Nodup):(aT ms).Pairwise λa b=>Mx.D.lt a b=true:=by have h1:=gX ms;have h2:(aT ms).Nodup:=(bE ms).nodup_iff.mpr h;exact h1.imp₂ (λa b x y=>pe x y) h2
def uq:Option Mx.D->List Mx.D->List Mx.D
 | _,[]=>[]
 | p,x::r=>if p=some x then uq (some x) r else x::uq (some x) r
def xt {x:Mx.D}:∀{a:List Mx.D} {p:Option Mx.D},uq p (a++[x])=uq p a++uq (a.getLast?.or p) [x]
 | [],p=>by show uq p [x]=[]++uq ((none:Option Mx.D).or p) [x];rw[Option.none_or];rfl
 | y::a,p=>by
  have e:((y::a).getLast?.or p)=(a.getLast?.or (some y)):=by
   cases a with
   | nil=>rfl
   | cons z a=>simp[List.getLast?_cons]
  rw[e,List.cons_append,uq,uq,xt];split <;> simp
def uv:∀{a:List Mx.D} {p:Option Mx.D},(uq p a).getLast?.or p=a.getLast?.or p
 | [],p=>rfl
 | y::a,p=>by
  have ih:=uv (a:=a) (p:=some y);rw[uq];have e:((y::a).getLast?.or p)=(a.getLast?.or (some y)):=by
   cases a with
   | nil=>rfl
   | cons z a=>simp[List.getLast?_cons]
  rw[e];split
  ·rename_i h;rw[h];exact ih
  ·rw[<-ih];cases hq:uq (some y) a with
   | nil=>rfl
   | cons z q=>simp[List.getLast?_cons]
def yQ {x:Mx.D}:∀{a:List Mx.D} {p:Option Mx.D},(x∈uq p a\/p=some x)↔(x∈a\/p=some x)
 | [],p=>by simp[uq]
 | y::a,p=>by
  have ih:=yQ (x:=x) (a:=a) (p:=some y);rw[uq];split
  ·rename_i h;subst h;simp only[Option.some.injEq,Qb] at *;constructor
   ·intro z;rcases ih.mp z with z | z
    ·exact .inl (.inr z)
    ·exact .inr z
   ·rintro((z | z) | z)
    ·exact .inr z.symm
    ·exact ih.mpr (.inl z)
    ·exact .inr z
  ·simp only[Qb,Option.some.injEq] at *;constructor
   ·rintro((z | z) | z)
    ·exact .inl (.inl z)
    ·rcases ih.mp (.inl z) with z | z
     ·exact .inl (.inr z)
     ·exact .inl (.inl z.symm)
    ·exact .inr z
   ·rintro((z | z) | z)
    ·exact .inl (.inl z)
    ·rcases ih.mpr (.inl z) with z | z
     ·exact .inl (.inr z)
     ·exact .inl (.inl z.symm)
    ·exact .inr z
def iS {x:Mx.D}:∀{a:List Mx.D} {p:Option Mx.D},x∈uq p a->x∈a
 | [],p,h=>by simp[uq] at h
 | y::a,p,h=>by
  rw[uq] at h;split at h
  ·exact P1 _ (iS h)
  ·rcases Qb.mp h with h | h
   ·rw[h];exact P5
   ·exact P1 _ (iS h)
def mZ:∀{a:List Mx.D} {p:Option Mx.D},(uq p a).length<=a.length
 | [],p=>by simp[uq]
 | y::a,p=>by have:=mZ (a:=a) (p:=some y);rw[uq];split <;> simp <;> omega
def lY:∀{a:List Mx.D} {p:Option Mx.D},a.Pairwise (λx y=>oI x y=true)->(∀x∈a,∀y,p=some y->oI y x=true)->(uq p a).Pairwise (λx y=>Mx.D.lt x y=true)/\∀x∈uq p a,∀y,p=some y->Mx.D.lt y x=true
 | [],p,_,_=>by simp[uq]
 | y::a,p,h,hp=>by
  have h':=List.pairwise_cons.mp h;obtain⟨i1,i2⟩:=lY (p:=some y) h'.2 (λx hx z e=>by cases e;exact h'.1 x hx);rw[uq];split
  ·rename_i e;subst e;exact⟨i1,i2⟩
  ·rename_i ne;have key:∀z,p=some z->Mx.D.lt z y=true:=λz e=>pe (hp y P5 z e) λe2=>ne (by rw[e,e2])
   refine⟨List.pairwise_cons.mpr ⟨λx hx=>i2 x hx y rfl,i1⟩,λx hx z e=>?_⟩;rcases Qb.mp hx with rfl | hx
   ·exact key z e
   ·exact Mx.D.lt_trans z y x (key z e) (i2 x hx y rfl)
variable {fs:List Fn}
def yj (ic:Nat):Ts:=(.cons (.asg 3 (.bin .Add (.bin .Mult (.bin .Mod (.call ic (.cons (.var 0) (.cons (.var 1) .nil)) []) (.con (.int 2147483647))) (.bin .Add (.con (.int 48271)) (.bin .Mult (.con (.int 2)) (.var 1)))) (.bin .Mult (.con (.int 31)) (.var 1)))) (.cons (.ret (.bin .Mod (.bin .FloorDiv (.bin .Mod (.var 3) (.con (.int 2147483629))) (.con (.int 7))) (.var 2))) .nil))
def bG (ns:List Int) (k many:Nat):Nat:=((((hV ns k % 2147483647) * (48271 + 2 * k) + 31 * k) % 2147483629 / 7) % many).toNat
def cF {ns:List Int} {k many:Nat} (h:0 < many):bG ns k many < many:=by unfold bG;have h1:=QA (((hV ns k % 2147483647) * (48271 + 2 * k) + 31 * k) % 2147483629 / 7) (b:=many) (by omega);have h2:=QB (((hV ns k % 2147483647) * (48271 + 2 * k) + 31 * k) % 2147483629 / 7) (b:=many) (by omega);omega
structure g0 (fs:List Fn) (ip:Nat):Prop where
 ex:∃ic,fs[ic]?=some ⟨2,3,false,pX⟩/\fs[ip]?=some ⟨3,4,false,yj ic⟩
def jQ {ip:Nat} (hp:g0 fs ip) {n:Nat} (hn:2<=n) {ns:List Int} {k many:Nat} (hk:k < 1000000) (hm:0 < many):aI fs n ip [.br ns,.int k,.int many] none= .ok (.int (bG ns k many),none):=by
 obtain⟨ic,h1,h2⟩:=hp.ex;refine aB h2 (by omega) rfl ?_;show fin (aQ (aI fs (n - 1)) (yj ic) [some (.br ns),some (.int k),some (.int many),none] none)=_;have hc:=uN h1 (n:=n - 1) (by omega) (ns:=ns) hk;generalize hx:hV ns k=x at hc;have r1:=QA x (b:=2147483647) (by decide);have r2:=QB x (b:=2147483647) (by decide);have m1:=c6 (i:=x) (j:=2147483647) (by decide);have m2:=bB (i:=2) (j:=k) (.inl (by decide));have m3:=bB (i:=x % 2147483647) (j:=48271 + 2 * k) (.inl (by omega));have m4:=bB (i:=31) (j:=k) (.inl (by decide));have m5:=c6 (i:=x % 2147483647 * (48271 + 2 * k) + 31 * k) (j:=2147483629) (by decide);have m6:=xR (i:=(x % 2147483647 * (48271 + 2 * k) + 31 * k) % 2147483629) (j:=7) (by decide) (by decide);have m7:=c6 (i:=(x % 2147483647 * (48271 + 2 * k) + 31 * k) % 2147483629 / 7) (j:=many) (by omega);refine aJ (d:= .int (x % 2147483647 * (48271 + 2 * k) + 31 * k)) (S1:=none) (by simp only[RX,hc,m1,m2,m3,m4]) rfl ?_;refine(ar (d:=_) (S1:=none) (by simp only[RX,m5,m6,m7];rfl)).trans ?_;have h1:=QA (((x % 2147483647) * (48271 + 2 * k) + 31 * k) % 2147483629 / 7) (b:=many) (by omega);have e:((bG ns k many:Nat):Int)=((x % 2147483647) * (48271 + 2 * k) + 31 * k) % 2147483629 / 7 % many:=by unfold bG;rw[hx];omega
 rw[e]
def uO:Ts:=(.cons (.ret (.bin .Mod (.bin .Add (.bin .Add (.bin .Mult (.var 0) (.con (.int 31))) (.bin .Mult (.var 1) (.con (.int 7)))) (.con (.int 13))) (.con (.int 9973)))) .nil)
def ji (k j:Nat):Nat:=(k * 31 + j * 7 + 13) % 9973
def qt {k j:Nat}:ji k j < 9973:=Nat.mod_lt _ (by decide)
def tQ {i:Nat} (hp:fs[i]?=some ⟨2,2,false,uO⟩) {n:Nat} (hn:1<=n) {k j:Nat}:aI fs n i [.int k,.int j] none= .ok (.int (ji k j),none):=by
 refine aB hp hn rfl ?_;show fin (aQ (aI fs (n - 1)) uO [some (.int k),some (.int j)] none)=_;have m1:=bB (i:=k) (j:=31) (.inr (by decide));have m2:=bB (i:=j) (j:=7) (.inr (by decide));have m3:=c6 (i:=(k:Int) * 31 + j * 7 + 13) (j:=9973) (by decide);refine(ar (d:=_) (S1:=none) (by simp only[RX,m1,m2,m3];rfl)).trans ?_;have e:((ji k j:Nat):Int)=((k:Int) * 31 + j * 7 + 13) % 9973:=by unfold ji;omega
 rw[e]
def jO {z:Str} {k:Nat} (hz:z.length<=lim) (h:k < z.length):∃c,dm (.str z) (.int k)= .ok (.str ⟨#[c]⟩):=by
 have Mv:z.cps.toList.length=z.length:=by simp[Str.length]
 refine⟨z.cps.toList[k],?_⟩;show ag (decide (z.length<=lim)) (match ka z.cps.toList k with | some c=>R.ok (Dt.str ⟨#[c]⟩) | none=> .bad)=_;rw[Qs hz,guard_true,L2.fT (v:=z.cps.toList[k]) (Qn _)]
def fJ {a b:Str} (h:a.length + b.length<=lim):nh .Add (.str a) (.str b)= .ok (.str (a++b)):=by show ag (decide (a.length + b.length<=lim)) _=_;rw[Qs h];rfl
def len_str {z:Str} (h:z.length<=lim):dX .len [.str z]= .ok (.int z.length):=by show ag (decide (z.length<=lim)) _=_;rw[Qs h];rfl
def m9 {z:Str} {lo hi:Option Int} (h:z.length<=lim):iB (.str z) lo hi= .ok (.str (PySem.Txt.slice z lo hi)):=by show ag (decide (z.length<=lim)) _=_;rw[Qs h];rfl
def len_cat (a b:Str):(a++b).length=a.length + b.length:=Str.length_append ..
def tY:Ts:=(.cons (.asg 8 (.idx (.var 2) (.bin .Mod (.bin .Add (.var 6) (.bin .Mult (.con (.int 7)) (.var 4))) (.con (.int 26))))) (.cons (.app 7 (.bin .Add (.bin .Add (.sliH (.var 3) (.var 5)) (.var 8)) (.sliL (.var 3) (.var 5)))) .nil))
def rz (ip:Nat):Ts:=(.cons (.asg 3 (.con (.str ""))) (.cons (.fr (.nm 4) (.rng1 (.call ip (.cons (.var 0) (.cons (.var 1) (.cons (.con (.int 6)) .nil))) [])) (.cons (.asg 3 (.bin .Add (.var 3) (.idx (.var 2) (.call ip (.cons (.var 0) (.cons (.bin .Add (.bin .Add (.var 1) (.bin .Mult (.con (.int 11)) (.var 4))) (.con (.int 1))) (.cons (.con (.int 26)) .nil))) [])))) .nil)) (.cons (.asg 5 (.call ip (.cons (.var 0) (.cons (.bin .Add (.var 1) (.con (.int 2))) (.cons (.bin .Add (.bi .len (.cons (.var 3) .nil)) (.con (.int 1))) .nil))) [])) (.cons (.asg 6 (.call ip (.cons (.var 0) (.cons (.bin .Add (.var 1) (.con (.int 3))) (.cons (.con (.int 26)) .nil))) [])) (.cons (.ifs (.cmp .Eq (.call ip (.cons (.var 0) (.cons (.bin .Add (.var 1) (.con (.int 4))) (.cons (.con (.int 3)) .nil))) []) (.con (.int 0))) (.cons (.asg 3 (.bin .Add (.sliH (.var 3) (.con (.int 3))) (.idx (.var 2) (.var 6)))) (.cons (.ret (.lst (.cons (.var 3) (.cons (.bin .Add (.var 3) (.idx (.var 2) (.var 5))) (.cons (.bin .Add (.bin .Add (.var 3) (.idx (.var 2) (.var 5))) (.idx (.var 2) (.var 6))) .nil))))) .nil)) .nil) (.cons (.asgM 7 (.lst .nil)) (.cons (.fr (.nm 4) (.rng1 (.con (.int 3))) tY) (.cons (.ret (.mvr 7)) .nil))))))))
def dC {n:Nat} {pre post:List Dt} {x:Dt} (h:bh 0 n=pre++x::post):pre.length < n/\x= .int pre.length:=by
 have hl:(bh 0 n).length=n:=by simp[bh]
 have h1:pre.length < n:=by rw[<-hl,h];simp
 refine⟨h1,?_⟩;have e:(bh 0 n)[pre.length]?=some x:=by rw[h];simp
 unfold bh at e;simp[h1] at e;exact e.symm
def qF {ip im:Nat} (hp:g0 fs ip) (hf:fs[im]?=some ⟨3,9,false,rz ip⟩) {n:Nat} (hn:3<=n) {ns:List Int} {k:Nat} {L:Str} (hk:k < 100000) (hL:L.length=26):∃a b c,aI fs n im [.br ns,.int k,.str L] none= .ok (.lst [.str a,.str b,.str c],none):=by
 have cP:lim=1000000:=rfl;have jr:=cF (ns:=ns) (k:=k) (many:=6) (by decide);have P:=λ(k many:Nat) (h1:k < 1000000) (h2:0 < many)=>jQ hp (n:=n - 1) (by omega) (ns:=ns) h1 h2
 have loop:=cw (S:=none) (tg:= .nm 4) (body:=aQ (aI fs (n - 1)) (.cons (.asg 3 (.bin .Add (.var 3) (.idx (.var 2) (.call ip (.cons (.var 0) (.cons (.bin .Add (.bin .Add (.var 1) (.bin .Mult (.con (.int 11)) (.var 4))) (.con (.int 1))) (.cons (.con (.int 26)) .nil))) [])))) .nil)) (ds:=bh 0 (bG ns k 6))
  (ρ:=[some (.br ns),some (.int k),some (.str L),some (.str ""),none,none,none,none,none])
  (λpre ρ=>∃w jv,w.length<=pre.length/\ρ=[some (.br ns),some (.int k),some (.str L),some (.str w),jv,none,none,none,none]) ⟨"",none,P4 _,rfl⟩ (by
   rintro pre x post ρ e ⟨w,jv,hw,rfl⟩;obtain⟨h1,rfl⟩:=dC e;have MJ:=P (k + 11 * pre.length + 1) 26 (by omega) (by decide);have cQ:=cF (ns:=ns) (k:=k + 11 * pre.length + 1) (many:=26) (by decide);obtain⟨c,hc⟩:=jO (z:=L) (k:=bG ns (k + 11 * pre.length + 1) 26) (by omega) (by omega);have m1:=bB (i:=11) (j:=pre.length) (.inl (by decide));have ca:=fJ (a:=w) (b:=⟨#[c]⟩) (by show w.length + 1<=lim;omega);refine⟨_,_,rfl,cg (d:= .str (w++⟨#[c]⟩)) (S1:=none) ?_ rfl rfl,w++⟨#[c]⟩,_,?_,rfl⟩
   ·rw[show ((k + 11 * pre.length + 1:Nat):Int)=(k:Int) + 11 * pre.length + 1 by omega] at MJ;simp only[RX,m1];rw[show ([Dt.br ns,.int ((k:Int) + 11 * pre.length + 1),.int 26]:List Dt)=[.br ns,.int ((k:Int) + 11 * pre.length + 1),.int (26:Nat)] from rfl,MJ];simp only[RX,hc,ca]
   ·rw[len_cat,Qf];show w.length + 1<=_;simp;omega)
 obtain⟨ρ1,bf,w,jv,hw,rfl⟩:=loop;have Jh:w.length<=5:=by
  have:(bh 0 (bG ns k 6)).length=bG ns k 6:=by simp[bh]
  omega
 have p2:=P (k + 2) (w.length + 1) (by omega) (by omega);have l2:=cF (ns:=ns) (k:=k + 2) (many:=w.length + 1) (by omega);have p3:=P (k + 3) 26 (by omega) (by decide);have l3:=cF (ns:=ns) (k:=k + 3) (many:=26) (by decide);have p4:=P (k + 4) 3 (by omega) (by decide);generalize bG ns (k + 2) (w.length + 1)=at' at p2 l2;generalize bG ns (k + 3) 26=fi at p3 l3;generalize bG ns (k + 4) 3=q4 at p4;have hlen:=len_str (z:=w) (by omega);obtain⟨cf,ME⟩:=jO (z:=L) (k:=fi) (by omega) (by omega);obtain⟨ca,MX⟩:=jO (z:=L) (k:=at') (by omega) (by omega);have s3:=m9 (z:=w) (lo:=none) (hi:=some 3) (by omega);have e3:=PySem.Txt.slice_le w none (some 3);generalize PySem.Txt.slice w none (some 3)=w3 at s3 e3;have PK:((26:Nat):Int)=26:=rfl;have head:∃a b c,fin (aQ (aI fs (n - 1)) (rz ip) [some (.br ns),some (.int k),some (.str L),none,none,none,none,none,none] none)= .ok (.lst [.str a,.str b,.str c],none):=by
  by_cases h4:q4=0
  ·subst h4;have c1:=fJ (a:=w3) (b:=⟨#[cf]⟩) (by show w3.length + 1<=lim;omega);have c2:=fJ (a:=w3++⟨#[cf]⟩) (b:=⟨#[ca]⟩) (by rw[len_cat];show w3.length + 1 + 1<=lim;omega);have c3:=fJ (a:=w3++⟨#[cf]⟩++⟨#[ca]⟩) (b:=⟨#[cf]⟩) (by rw[len_cat,len_cat];show w3.length + 1 + 1 + 1<=lim;omega);refine⟨w3++⟨#[cf]⟩,w3++⟨#[cf]⟩++⟨#[ca]⟩,w3++⟨#[cf]⟩++⟨#[ca]⟩++⟨#[cf]⟩,?_⟩;refine aJ (d:= .str "") (S1:=none) rfl rfl (bz (ds:=bh 0 (bG ns k 6)) (S1:=none) (eR (by simp only[RX];exact congrArg (R.bind · _) (P k 6 (by omega) (by decide))) (by omega)) rfl bf ?_);refine aJ (d:= .int at') (S1:=none) (by simp only[RX,hlen];exact congrArg (R.bind · _) p2) rfl ?_;refine aJ (d:= .int fi) (S1:=none) (by simp only[RX];exact congrArg (R.bind · _) p3) rfl ?_;refine kc (S1:=none) (by simp only[RX];rw[show aI fs (n - 1) ip [.br ns,.int ((k:Int) + 4),.int 3] none=_ from p4];rfl) ?_;refine aJ (d:= .str (w3++⟨#[cf]⟩)) (S1:=none) (by simp only[RX,s3,ME,c1]) rfl ?_;exact ar (by simp only[RX,MX,ME,c2,c3])
  ·have l4:=λj:Nat=>Nat.mod_lt (fi + 7 * j) (y:=26) (by decide)
   have s5:=m9 (z:=w) (lo:=none) (hi:=some (at':Int)) (by omega);have e5:=PySem.Txt.slice_le w none (some (at':Int));have s6:=m9 (z:=w) (lo:=some (at':Int)) (hi:=none) (by omega);have e6:=PySem.Txt.slice_le w (some (at':Int)) none;generalize PySem.Txt.slice w none (some (at':Int))=wa at s5 e5;generalize PySem.Txt.slice w (some (at':Int)) none=wb at s6 e6;have GA:=cw (S:=none) (tg:= .nm 4) (body:=aQ (aI fs (n - 1)) tY) (ds:=bh 0 3)
    (ρ:=[some (.br ns),some (.int k),some (.str L),some (.str w),jv,some (.int at'),some (.int fi),some (.lst []),none])
    (λpre ρ=>∃us:List Str,∃jv s8,us.length=pre.length/\ρ=[some (.br ns),some (.int k),some (.str L),some (.str w),jv,some (.int at'),some (.int fi),some (.lst (us.map Dt.str)),s8]) ⟨[],jv,none,rfl,rfl⟩ (by
     rintro pre x post ρ e ⟨us,jv,s8,xP,rfl⟩;obtain⟨h1,rfl⟩:=dC e;obtain⟨c,hc⟩:=jO (z:=L) (k:=(fi + 7 * pre.length) % 26) (by omega) (by have:=l4 pre.length;omega);rw[show (((fi + 7 * pre.length) % 26:Nat):Int)=((fi:Int) + 7 * pre.length) % 26 by omega] at hc;have m1:=bB (i:=7) (j:=pre.length) (.inl (by decide));have m2:=c6 (i:=(fi:Int) + 7 * pre.length) (j:=26) (by decide);have c1:=fJ (a:=wa) (b:=⟨#[c]⟩) (by show wa.length + 1<=lim;omega);have c2:=fJ (a:=wa++⟨#[c]⟩) (b:=wb) (by rw[len_cat];show wa.length + 1 + wb.length<=lim;omega);refine⟨_,_,rfl,cg (d:= .str ⟨#[c]⟩) (S1:=none) (by simp only[RX,m1,m2,hc]) rfl (cM (ds:=us.map Dt.str) (d:= .str (wa++⟨#[c]⟩++wb)) (S1:=none) rfl (by simp only[RX,s5,s6,c1,c2]) rfl (by simp;omega) rfl),us++[wa++⟨#[c]⟩++wb],some (.int pre.length),some (.str ⟨#[c]⟩),by simp[xP],by rw[QH];rfl⟩)
   obtain⟨ρ2,Dg,us,Pw,s8,xP,rfl⟩:=GA;have xP:us.length=3:=xP;obtain⟨a,b,c,rfl⟩:∃a b c,us=[a,b,c]:=match us,xP with | [a,b,c],_=>⟨a,b,c,rfl⟩
   refine⟨a,b,c,?_⟩;refine aJ (d:= .str "") (S1:=none) rfl rfl (bz (ds:=bh 0 (bG ns k 6)) (S1:=none) (eR (by simp only[RX];exact congrArg (R.bind · _) (P k 6 (by omega) (by decide))) (by omega)) rfl bf ?_);refine aJ (d:= .int at') (S1:=none) (by simp only[RX,hlen];exact congrArg (R.bind · _) p2) rfl ?_;refine aJ (d:= .int fi) (S1:=none) (by simp only[RX];exact congrArg (R.bind · _) p3) rfl ?_;refine eE (S1:=none) (by simp only[RX];rw[show aI fs (n - 1) ip [.br ns,.int ((k:Int) + 4),.int 3] none=_ from p4];simp only[RX];simp[h4]) ?_;refine bw (d:= .lst []) (S1:=none) rfl rfl (bz (ds:=bh 0 3) (S1:=none) (eR (n:=3) rfl (by decide)) rfl Dg ?_);exact ar (by simp only[RX];rfl)
 obtain⟨a,b,c,h1⟩:=head;exact⟨a,b,c,aB hf (by omega) rfl h1⟩
variable {fs:List Fn}
mutual
def sm:Dt->Bool
 | .int _=>true
 | .str _=>true
 | .tup ds=>AS ds
 | .lst ds=>AS ds
 | _=>false
def AS:List Dt->Bool
 | []=>true
 | d::ds=>sm d&&AS ds
end
mutual
def Hg:∀m:Mx.D,sm (ofD m)=true
 | .int _=>by simp[ofD,sm]
 | .str _=>by simp[ofD,sm]
 | .tup ms=>by simp[ofD,sm,nZ ms]
def nZ:∀ms:List Mx.D,AS (aa ms)=true
 | []=>by simp[aa,AS]
 | m::ms=>by simp[aa,AS,Hg m,nZ ms]
end
def uS:∀{ds:List Dt} {d:Dt},AS ds=true->d∈ds->sm d=true/\dp d<=mH ds
 | d::ds,x,h,hx=>by
  simp only[AS,PX] at h;simp only[mH];rcases Qb.mp hx with rfl | hx
  ·exact⟨h.1,by omega⟩
  ·have:=uS h.2 hx;exact⟨this.1,by omega⟩
def pB (is:Nat):Ts:=(.cons (.ifs (.bi (.isi "str") (.cons (.var 1) .nil)) (.cons (.ret (.and (.bi (.isi "str") (.cons (.var 0) .nil)) (.cmp .Eq (.var 0) (.var 1)))) .nil) .nil) (.cons (.ifs (.bi (.isi "int") (.cons (.var 1) .nil)) (.cons (.ret (.and (.bi (.isi "int") (.cons (.var 0) .nil)) (.and (.nt (.bi (.isi "bool") (.cons (.var 0) .nil))) (.cmp .Eq (.var 0) (.var 1))))) .nil) .nil) (.cons (.ifs (.or (.cmp .NotEq (.bi (.isi "list") (.cons (.var 1) .nil)) (.bi (.isi "list") (.cons (.var 0) .nil))) (.cmp .NotEq (.bi (.isi "tuple") (.cons (.var 1) .nil)) (.bi (.isi "tuple") (.cons (.var 0) .nil)))) (.cons (.ret (.con (.bl false))) .nil) .nil) (.cons (.ifs (.cmp .NotEq (.bi .len (.cons (.var 0) .nil)) (.bi .len (.cons (.var 1) .nil))) (.cons (.ret (.con (.bl false))) .nil) .nil) (.cons (.fr (.tp [2,3]) (.zip (.var 0) (.var 1)) (.cons (.ifs (.nt (.call is (.cons (.var 2) (.cons (.var 3) .nil)) [])) (.cons (.ret (.con (.bl false))) .nil) .nil) .nil)) (.cons (.ret (.con (.bl true))) .nil))))))
def vI {ds pre post:List Dt} {x:Dt} (h:dR ds ds=pre++x::post):∃y∈ds,x= .tup [y,y]:=by
 have hx:x∈dR ds ds:=by rw[h];simp
 unfold dR at hx;have:List.zipWith (λx y=>Dt.tup [x,y]) ds ds=ds.map λy=>Dt.tup [y,y]:=by
  clear h hx
  induction ds with
  | nil=>rfl
  | cons d ds ih=>simp[ih]
 rw[this,Qy] at hx;obtain⟨y,h1,h2⟩:=hx;exact⟨y,h1,h2.symm⟩
def ox {is:Nat} (hf:fs[is]?=some ⟨2,4,false,pB is⟩):∀(n:Nat) (d:Dt),sm d=true->dp d < n->aI fs n is [d,d] none= .ok (.bl true,none)
 | 0,d,_,h=>by omega
 | n + 1,d,h,hd=>by
  have ih:=ox hf n;have main:∀ds:List Dt,AS ds=true->mH ds < n->(d= .tup ds\/d= .lst ds)->aI fs (n + 1) is [d,d] none= .ok (.bl true,none):=by
   intro ds hs hl hd;have hlen:dX .len [d]= .ok (.int ds.length):=by rcases hd with rfl | rfl <;> rfl
   have IT:bM d=some ds:=by rcases hd with rfl | rfl <;> rfl
   have i1:dX (.isi "str") [d]= .ok (.bl false):=by rcases hd with rfl | rfl <;> rfl
   have i2:dX (.isi "int") [d]= .ok (.bl false):=by rcases hd with rfl | rfl <;> rfl
   have i3:(∃b,dX (.isi "list") [d]= .ok (.bl b))/\∃b,dX (.isi "tuple") [d]= .ok (.bl b):=by rcases hd with rfl | rfl <;> exact⟨⟨_,rfl⟩,⟨_,rfl⟩⟩
   obtain⟨⟨b3,i3⟩,⟨b4,i4⟩⟩:=i3;have e3:∀b:Bool,c8 .NotEq (.bl b) (.bl b)= .ok false:=λb=>by cases b <;> rfl
   have loop:=cw (S:=none) (tg:= .tp [2,3]) (body:=aQ (aI fs n) (.cons (.ifs (.nt (.call is (.cons (.var 2) (.cons (.var 3) .nil)) [])) (.cons (.ret (.con (.bl false))) .nil) .nil) .nil)) (ds:=dR ds ds)
    (ρ:=[some d,some d,none,none]) (λpre ρ=>∃a b,ρ=[some d,some d,a,b]) ⟨none,none,rfl⟩ (by
     rintro pre x post ρ e ⟨a,b,rfl⟩;obtain⟨y,hy,rfl⟩:=vI e;have:=uS hs hy;have hc:=ih y this.1 (by omega);exact⟨[some d,some d,some y,some y],_,rfl,lL (S1:=none) (by simp only[RX,hc];rfl) rfl,some y,some y,rfl⟩)
   obtain⟨ρ1,bf,a,b,rfl⟩:=loop;refine aB hf (by omega) rfl ?_;show fin (aQ (aI fs n) (pB is) [some d,some d,none,none] none)=_;refine eE (S1:=none) (by simp only[RX,i1]) (eE (S1:=none) (by simp only[RX,i2]) (eE (S1:=none) (by simp only[RX,i3,i4,e3];rfl) (eE (S1:=none) (by simp only[RX,hlen];simp) ?_)));refine bz (ds:=dR ds ds) (S1:=none) (Dh (S1:=none) (S2:=none) rfl rfl IT IT) rfl bf (ar rfl)
  cases d with
  | str x=>refine aB hf (by omega) rfl ?_;show fin (aQ (aI fs n) (pB is) [some (.str x),some (.str x),none,none] none)=_;have i1:dX (.isi "str") [.str x]= .ok (.bl true):=rfl;exact kc (S1:=none) (by simp only[RX,i1]) (ar (by simp only[RX,i1];simp))
  | int x=>refine aB hf (by omega) rfl ?_;show fin (aQ (aI fs n) (pB is) [some (.int x),some (.int x),none,none] none)=_;have i1:dX (.isi "str") [.int x]= .ok (.bl false):=rfl;have i2:dX (.isi "int") [.int x]= .ok (.bl true):=rfl;have i3:dX (.isi "bool") [.int x]= .ok (.bl false):=rfl;exact eE (S1:=none) (by simp only[RX,i1]) (kc (S1:=none) (by simp only[RX,i2]) (ar (by simp only[RX,i2,i3,Bool.not_false];simp)))
  | tup ds=>exact main ds (by simpa [sm] using h) (by simp only[dp] at hd;omega) (.inl rfl)
  | lst ds=>exact main ds (by simpa [sm] using h) (by simp only[dp] at hd;omega) (.inr rfl)
  | _=>simp[sm] at h
def fy (x:Str):Mx.D:= .tup [.str "any",.str x]
def ofT (x:Str) (ps:List Mx.D):Mx.D:= .tup [.str "of",.str x,.tup ps]
def ot (Q:Mx.D->Prop) (it:Mx.D):Prop:=(∃x,it=fy x)\/∃x ps,it=ofT x ps/\ps.length<=3/\∀p∈ps,Q p
def sE (Q:Mx.D->Prop) (r:Mx.D):Prop:=∃it c,r= .tup [it,.int c]/\ot Q it
def ck:Nat->Mx.D->Prop
 | 0,_=>False
 | n + 1,d=>∃rs,d= .tup rs/\rs.length<=4/\∀r∈rs,sE (ck n) r
def cH {n m:Nat} {it:Mx.D} {Q:Mx.D->Prop} (hQ:∀d,Q d->Mx.D.dep d<=m) (hn:n=m + 2) (h:ot Q it):Mx.D.dep it<=n:=by
 rcases h with ⟨x,rfl⟩ | ⟨x,ps,rfl,_,hp⟩
 ·simp[fy,Mx.D.dep,Mx.D.b8];omega
 ·have:=cC λp kB=>hQ p (hp p kB)
  simp[ofT,Mx.D.dep,Mx.D.b8];omega
def bI:∀{n:Nat} {d:Mx.D},ck n d->Mx.D.dep d<=4 * n
 | 0,d,h=>h.elim
 | n + 1,d,⟨rs,e,_,h⟩=>by
  subst e;have:Mx.D.b8 rs<=4 * n + 3:=cC λr hr=>by obtain⟨it,c,rfl,hi⟩:=h r hr;have:=cH (n:=4 * n + 2) (λd hd=>bI hd) rfl hi;simp[Mx.D.dep,Mx.D.b8];omega
  simp only[Mx.D.dep];omega
def sJ:∀{xs ys:List Mx.D},(∀x∈xs,∀y∈ys,jT x y=true)->iT xs ys=true
 | [],_,_=>by simp[iT]
 | _::_,[],_=>by simp[iT]
 | x::xs,y::ys,h=>by simp only[iT,PX];exact⟨h x P5 y P5,sJ λa ha b hb=>h a (P1 _ ha) b (P1 _ hb)⟩
theorem t9 {P Q:Mx.D->Prop} {a b:Mx.D} (Na:∀p q,P p->Q q->jT p q=true) (ha:ot P a) (hb:ot Q b):jT a b=true:=by
 rcases ha with ⟨x,rfl⟩ | ⟨x,ps,rfl,_,hp⟩ <;> rcases hb with ⟨y,rfl⟩ | ⟨y,qs,rfl,_,hq⟩
 ·simp[fy,jT,iT]
 ·simp[fy,ofT,jT,iT]
 ·simp[fy,ofT,jT,iT]
 ·simp only[ofT,jT,iT,Bool.true_and,Bool.and_true];exact sJ λp kB q hq'=>Na p q (hp p kB) (hq q hq')
def lk_row {P Q:Mx.D->Prop} {a b:Mx.D} (Na:∀p q,P p->Q q->jT p q=true) (ha:sE P a) (hb:sE Q b):jT a b=true:=by grind [jT,iT,t9,sE]
def nV:∀{n m:Nat} {a b:Mx.D},ck n a->ck m b->jT a b=true
 | 0,_,_,_,h,_=>h.elim
 | _ + 1,0,_,_,_,h=>h.elim
 | n + 1,m + 1,a,b,⟨rs,e1,_,h1⟩,⟨qs,e2,_,h2⟩=>by subst e1 e2;simp only[jT];exact sJ λr hr q hq=>lk_row (λp q hp hq=>nV hp hq) (h1 r hr) (h2 q hq)
def yT {n:Nat} {ms:List Mx.D} (hn:n<=8) (hl:ms.length < 1000000) (h:∀m∈ms,sE (ck n) m):iz ms=true:=by
 refine rB .tt hl (cC λd hd=>?_) (λd hd=>?_) λd hd e he=>lk_row (λp q hp hq=>nV hp hq) (h d hd) (h e he)
 ·obtain⟨it,c,rfl,hi⟩:=h d hd;have:=cH (n:=4 * n + 2) (λd hd=>bI hd) rfl hi;simp[Mx.D.dep,Mx.D.b8];omega
 ·obtain⟨it,c,rfl,hi⟩:=h d hd;rcases hi with ⟨x,rfl⟩ | ⟨x,ps,rfl,_⟩ <;> rfl
def lu {n:Nat} {ms:List Mx.D} (hn:n<=8) (hl:ms.length < 1000000) (h:∀m∈ms,ot (ck n) m):iz ms=true:=by
 refine rB .ts hl (cC λd hd=>?_) (λd hd=>?_) λd hd e he=>t9 (λp q hp hq=>nV hp hq) (h d hd) (h e he)
 ·have:=cH (n:=4 * n + 2) (λd hd=>bI hd) rfl (h d hd);omega
 ·rcases h d hd with ⟨x,rfl⟩ | ⟨x,ps,rfl,_⟩ <;> rfl
def ya {ys:List Str} (hl:ys.length < 1000000):iz (ys.map Mx.D.str)=true:=by
 refine rB .s (by simpa using hl) (cC λd hd=>?_) (λd hd=>?_) λd hd e he=>?_
 ·obtain⟨y,_,rfl⟩:=Qy.mp hd;simp[Mx.D.dep]
 ·obtain⟨y,_,rfl⟩:=Qy.mp hd;rfl
 ·obtain⟨y,_,rfl⟩:=Qy.mp hd;obtain⟨z,_,rfl⟩:=Qy.mp he;simp[jT]
def wQ:Ts:=(.cons (.ifs (.and (.cmp .NotEq (.mvr 1) (.lst .nil)) (.cmp .Eq (.idx (.idx (.mvr 1) (.neg (.con (.int 1)))) (.con (.int 0))) (.var 2))) (.cons (.vc 1 (.neg (.con (.int 1))) (.tup (.cons (.var 2) (.cons (.bin .Add (.idx (.idx (.mvr 1) (.neg (.con (.int 1)))) (.con (.int 1))) (.var 3)) .nil)))) .nil) (.cons (.app 1 (.tup (.cons (.var 2) (.cons (.var 3) .nil)))) .nil)) .nil)
def sW:Ts:=(.cons (.asgM 1 (.lst .nil)) (.cons (.fr (.tp [2,3]) (.seq (.bi .sorted (.cons (.var 0) .nil))) wQ) (.cons (.ret (.bi .tuple (.cons (.mvr 1) .nil))) .nil)))
def fI {ds:List Dt} {d:Dt}:dm (.lst (ds++[d])) (.int (-1))= .ok d:=by show vZ (ds++[d]) (-1)=_;unfold vZ;rw[Mx.pC]
def BN {n:Nat}:nv (n + 1) (-1)=some n:=by unfold nv;rw[if_neg (by decide),if_pos (by omega)];congr 1;omega
def ne_nil {ds:List Dt} {d:Dt} (h1:jy (ds++[d])=true) (h2:mH (ds++[d]) < 100):c8 .NotEq (.lst (ds++[d])) (.lst [])= .ok true:=by show ag (f9 (.lst (ds++[d])) (.lst [])) (.ok (!bC (.lst (ds++[d])) (.lst [])))=_;rw[show f9 (.lst (ds++[d])) (.lst [])=true by simp[f9,pl,jy,dp,h1];omega,guard_true];cases ds <;> simp[bC,bU]
def eq_nil {ds:List Dt} {d:Dt} (h1:jy (ds++[d])=true) (h2:mH (ds++[d]) < 100):c8 .Eq (.lst (ds++[d])) (.lst [])= .ok false:=by show ag (f9 (.lst (ds++[d])) (.lst [])) (.ok (bC (.lst (ds++[d])) (.lst [])))=_;rw[show f9 (.lst (ds++[d])) (.lst [])=true by simp[f9,pl,jy,dp,h1];omega,guard_true];cases ds <;> simp[bC,bU]
def AY {n:Nat} {r:Mx.D} (h:sE (ck n) r):Mx.D.dep r<=4 * n + 3:=by obtain⟨it,c,rfl,hi⟩:=h;have:=cH (n:=4 * n + 2) (λd hd=>bI hd) rfl hi;simp[Mx.D.dep,Mx.D.b8];omega
def j7 {α:Type}:∀l:List α,l=[]\/∃a x,l=a++[x]
 | []=> .inl rfl
 | x::l=> .inr ⟨(x::l).dropLast,(x::l).getLast (by simp),(List.dropLast_concat_getLast (by simp)).symm⟩
def Ax {α:Type} (a:List α) (x y:α) {n:Nat} (h:n=a.length):(a++[x]).set n y=a++[y]:=by subst h;simp
def Bo {ig:Nat} (hf:fs[ig]?=some ⟨1,4,false,sW⟩) {N n:Nat} (hN:1<=N) (hn:n<=8) {ms:List Mx.D} (hl:ms.length < 1000000) (h:∀m∈ms,sE (ck n) m):∃rs,aI fs N ig [.lst (aa ms)] none= .ok (.tup (aa rs),none)/\rs.length<=ms.length/\∀r∈rs,sE (ck n) r:=by
 have cP:lim=1000000:=rfl;have hs:=(jg (yT hn hl h)).1;have sS:(aT ms).length=ms.length:=(bE ms).length_eq;have loop:=cw (S:=none) (tg:= .tp [2,3]) (body:=aQ (aI fs (N - 1)) wQ) (ds:=aa (aT ms))
  (ρ:=[some (.lst (aa ms)),some (.lst []),none,none])
  (λpre ρ=>∃rs a b,rs.length<=pre.length/\(∀r∈rs,sE (ck n) r)/\ρ=[some (.lst (aa ms)),some (.lst (aa rs)),a,b]) ⟨[],none,none,P4 _,by simp,rfl⟩ (by
   rintro pre x post ρ e ⟨rs,a,b,Ja,hr,rfl⟩;obtain⟨p,y,q,e1,rfl,rfl,rfl⟩:=ko e;have hy:y∈ms:=bx.mp (by rw[e1];simp);obtain⟨it,c,rfl,hi⟩:=h y hy;have gL:p.length < ms.length:=by rw[<-sS,e1];simp
   rw[ab] at Ja;rcases j7 rs with rfl | ⟨md,r0,rfl⟩
   ·refine⟨[some (.lst (aa ms)),some (.lst []),some (ofD it),some (.int c)],_,by simp[ofD,aa,cA,dZ],lL (S1:=none) rfl (cM (ds:=[]) (d:= .tup [ofD it,.int c]) (S1:=none) rfl (by simp only[RX]) rfl (by simp) rfl),[.tup [it,.int c]],some (ofD it),some (.int c),by simp,?_,by simp[ofD,aa]⟩;intro r cX;rw[Qx] at cX;subst cX;exact⟨it,c,rfl,hi⟩
   ·obtain⟨rW,c0,rfl,Ft⟩:=hr r0 (by simp);have yH:Mx.D.b8 (md++[.tup [rW,.int c0]])<=4 * n + 3:=cC λd hd=>AY (hr d hd)
    have oU:c8 .NotEq (.lst (aa md++[.tup [ofD rW,.int c0]])) (.lst [])= .ok true:=by
     have e0:aa md++[.tup [ofD rW,.int c0]]=aa (md++[.tup [rW,.int c0]]):=by rw[aq];simp[ofD,aa]
     exact ne_nil (by rw[e0];exact nB _) (by rw[e0,jd];omega)
    have Nk:=cH (n:=4 * n + 2) (λd hd=>bI hd) rfl Ft;have hq:=tu (a:=rW) (b:=it) (by omega);have el:aa (md++[.tup [rW,.int c0]])=aa md++[.tup [ofD rW,.int c0]]:=by rw[aq];simp[ofD,aa]
    rw[el];have JJ:((aa md++[Dt.tup [ofD rW,.int c0]]).set md.length (.tup [ofD it,.int (c0 + c)]))=aa (md++[.tup [it,.int (c0 + c)]]):=by rw[aq,Ax (aa md) _ _ (ab md).symm];simp[ofD,aa]
    by_cases heq:rW=it
    ·rw[Qs heq] at hq;refine⟨[some (.lst (aa ms)),some (.lst (aa md++[.tup [ofD rW,.int c0]])),some (ofD it),some (.int c)],_,by simp[ofD,aa,cA,dZ],qP (S1:=none) (by simp only[RX,oU,fI,hq,if_true]) (nx (uZ (ds:=aa md++[.tup [ofD rW,.int c0]]) (d:= .tup [ofD it,.int (c0 + c)]) (S1:=none) (S2:=none) (n:= -1) (j:=md.length) rfl (by simp only[RX,fI]) (by simp only[RX]) rfl (by rw[Qf,ab];exact BN)) rfl),md++[.tup [it,.int (c0 + c)]],some (ofD it),some (.int c),by simp[ab] at Ja ⊢;omega,?_,by rw[JJ];rfl⟩;intro r cX;rcases Ql.mp cX with cX | cX
     ·exact hr r (by simp[cX])
     ·rw[Qx] at cX;subst cX;exact⟨it,_,rfl,hi⟩
    ·rw[Qo heq] at hq;refine⟨[some (.lst (aa ms)),some (.lst (aa md++[.tup [ofD rW,.int c0]])),some (ofD it),some (.int c)],_,by simp[ofD,aa,cA,dZ],lL (S1:=none) (by simp only[RX,oU,fI,hq,if_true]) (cM (ds:=aa md++[.tup [ofD rW,.int c0]]) (d:= .tup [ofD it,.int c]) (S1:=none) rfl (by simp only[RX]) rfl (by simp[ab] at Ja ⊢;omega) rfl),md++[.tup [rW,.int c0]]++[.tup [it,.int c]],some (ofD it),some (.int c),by simp[ab] at Ja ⊢;omega,?_,?_⟩
     ·intro r cX;rcases Ql.mp cX with cX | cX
      ·exact hr r cX
      ·rw[Qx] at cX;subst cX;exact⟨it,_,rfl,hi⟩
     ·rw[aq (md++_),el];simp[ofD,aa])
 obtain⟨ρ1,bf,rs,a,b,h1,h2,rfl⟩:=loop;rw[ab,sS] at h1;refine⟨rs,?_,h1,h2⟩;refine aB hf hN rfl ?_;show fin (aQ (aI fs (N - 1)) sW [some (.lst (aa ms)),none,none,none] none)=_;exact bw (d:= .lst []) (S1:=none) rfl rfl (bz (ds:=aa (aT ms)) (S1:=none) (by simp only[RX,hs]) rfl bf (ar (by simp only[RX])))
variable {fs:List Fn}
def Bv {F:FT} {c:C} {ρ:ak} {S S1:Sx} {d:Dt} {b:Bool} (h:ev F c ρ S= .ok (d,S1)) (hd:lG d=true):(b||ju F (.seq c) ρ S)=true:=by grind [ju]
def j5 {f:Dt->Sx->R (List Dt×Sx)} {S:Sx} (Q:Mx.D->Prop):∀{ds:List Dt},(∀x∈ds,∃m,f x S= .ok ([ofD m],S)/\Q m)->∃ms,a9 f ds S= .ok (aa ms,S)/\ms.length=ds.length/\∀m∈ms,Q m
 | [],_=>⟨[],by simp[a9,aa],rfl,by simp⟩
 | x::ds,h=>by
  obtain⟨m,h1,h2⟩:=h x P5;obtain⟨ms,k1,k2,k3⟩:=j5 Q λy hy=>h y (P1 _ hy)
  refine⟨m::ms,?_,by simp[k2],λa ha=>?_⟩
  ·rw[a9,h1,R.ax,k1,R.ax];simp[aa]
  ·rcases Qb.mp ha with rfl | ha
   ·exact h2
   ·exact k3 a ha
def Ba {n:Nat} {x:Dt} (h:x∈bh 0 n):∃i:Nat,i < n/\x= .int i:=by grind [bh]
def yV (ip:Nat):Ts:=(.cons (.app 6 (.tup (.cons (.var 11) (.cons (.bin .Add (.con (.int 1)) (.bin .FloorDiv (.call ip (.cons (.var 0) (.cons (.bin .Add (.var 8) (.con (.int 3))) (.cons (.con (.int 4)) .nil))) []) (.con (.int 3)))) .nil)))) .nil)
def xN (ix im:Nat):C:=(.call im (.cons (.var 5) (.cons (.call ix (.cons (.var 2) (.cons (.bin .Add (.con (.int 5)) (.var 1)) .nil)) []) (.cons (.bin .Sub (.var 3) (.con (.int 1))) (.cons (.var 4) (.cons (.var 6) (.cons (.con (.int 2)) .nil)))))) [])
def Cz (ip ix im:Nat):Ts:=(.cons (.ifs (.and (.cmp .Lt (.var 9) (.con (.int 2))) (.cmp .Gt (.bi .len (.cons (.var 3) .nil)) (.con (.int 0)))) (.cons (.asg 11 (.tup (.cons (.con (.str "any")) (.cons (.idx (.var 3) (.call ip (.cons (.var 0) (.cons (.bin .Add (.var 8) (.con (.int 1))) (.cons (.bi .len (.cons (.var 3) .nil)) .nil))) [])) .nil)))) .nil) (.cons (.ifs (.and (.cmp .Eq (.var 9) (.con (.int 3))) (.cmp .Gt (.var 2) (.con (.int 0)))) (.cons (.asg 12 (.bin .Add (.con (.int 1)) (.call ip (.cons (.var 0) (.cons (.bin .Add (.var 8) (.con (.int 2))) (.cons (.con (.int 3)) .nil))) []))) (.cons (.asg 13 (.comp [none,none,some 8,some 2,some 3,some 0,some 4] (.rng1 (.var 12)) (.nm 1) .nil (xN ix im))) (.cons (.asg 11 (.tup (.cons (.con (.str "of")) (.cons (.var 10) (.cons (.bi .tuple (.cons (.var 13) .nil)) .nil))))) .nil))) .nil) .nil)) (yV ip))
def Cq (ip ix im:Nat):Ts:=(.cons (.asg 8 (.call ix (.cons (.var 1) (.cons (.var 7) .nil)) [])) (.cons (.asg 9 (.call ip (.cons (.var 0) (.cons (.var 8) (.cons (.con (.int 4)) .nil))) [])) (.cons (.asg 10 (.idx (.var 4) (.call ip (.cons (.var 0) (.cons (.bin .Add (.var 8) (.con (.int 1))) (.cons (.con (.int 3)) .nil))) []))) (.cons (.asg 11 (.tup (.cons (.con (.str "of")) (.cons (.var 10) (.cons (.tup .nil) .nil))))) (Cz ip ix im)))))
def En (ip ix ig im:Nat):Ts:=(.cons (.asgM 6 (.lst .nil)) (.cons (.fr (.nm 7) (.rng1 (.call ip (.cons (.var 0) (.cons (.var 1) (.cons (.bin .Add (.var 5) (.con (.int 1))) .nil))) [])) (Cq ip ix im)) (.cons (.ret (.bi .tuple (.cons (.comp [none,none,none] (.seq (.call ig (.cons (.mvr 6) .nil) [])) (.tp [1,2]) .nil (.tup (.cons (.var 1) (.cons (.bi .min2 (.cons (.con (.int 3)) (.cons (.var 2) .nil))) .nil)))) .nil))) .nil)))
def o6 {a b c:Str} {k:Nat} (h:k < 3):∃x,dm (.lst [.str a,.str b,.str c]) (.int k)= .ok (.str x):=by
 match k,h with
 | 0,_=>exact⟨a,rfl⟩
 | 1,_=>exact⟨b,rfl⟩
 | 2,_=>exact⟨c,rfl⟩
def wt {ip ix ig im:Nat} (hp:g0 fs ip) (hx:fs[ix]?=some ⟨2,2,false,uO⟩) (hg:fs[ig]?=some ⟨1,4,false,sW⟩) (hf:fs[im]?=some ⟨6,14,false,En ip ix ig im⟩) {ns:List Int} {a b c a' b' c':Str}:
  ∀(deep:Nat),deep<=6->∀{N k most:Nat},deep + 3<=N->k < 1000000->most<=4->∃rs,aI fs N im [.br ns,.int k,.int deep,.lst [.str a,.str b,.str c],.lst [.str a',.str b',.str c'],.int most] none= .ok (.tup (aa rs),none)/\ck (deep + 1) (.tup rs)
 | deep,IJ,N,k,most,hN,hk,hmost=>by
  have cP:lim=1000000:=rfl;generalize hnm:Dt.lst [.str a,.str b,.str c]=nm;generalize hsg:Dt.lst [.str a',.str b',.str c']=sg;have P:=λ(k many:Nat) (h1:k < 1000000) (h2:0 < many)=>jQ hp (n:=N - 1) (by omega) (ns:=ns) h1 h2
  have jr:=cF (ns:=ns) (k:=k) (many:=most + 1) (by omega);have loop:=cw (S:=none) (tg:= .nm 7) (ds:=bh 0 (bG ns k (most + 1))) (ρ:=[some (.br ns),some (.int k),some (.int deep),some nm,some sg,some (.int most),some (.lst []),none,none,none,none,none,none,none])
   (body:=aQ (aI fs (N - 1)) (Cq ip ix im))
   (λpre ρ=>∃ms x7 x8 x9 DB EA zO zQ,ms.length=pre.length/\(∀m∈ms,sE (ck deep) m)/\ρ=[some (.br ns),some (.int k),some (.int deep),some nm,some sg,some (.int most),some (.lst (aa ms)),x7,x8,x9,DB,EA,zO,zQ])
   ⟨[],none,none,none,none,none,none,none,rfl,by simp,by simp[aa]⟩ (by
    rintro pre x post ρ e ⟨ms,x7,x8,x9,DB,EA,zO,zQ,AR,hr,rfl⟩;obtain⟨h1,rfl⟩:=dC e;have M5:=tQ hx (n:=N - 1) (by omega) (k:=k) (j:=pre.length);have N7:=qt (k:=k) (j:=pre.length);generalize ji k pre.length=at' at M5 N7;have p0:=P at' 4 (by omega) (by decide);have p1:=P (at' + 1) 3 (by omega) (by decide);have l1:=cF (ns:=ns) (k:=at' + 1) (many:=3) (by decide);have p2:=P (at' + 2) 3 (by omega) (by decide);have l2:=cF (ns:=ns) (k:=at' + 2) (many:=3) (by decide);have p3:=P (at' + 3) 4 (by omega) (by decide);generalize bG ns at' 4=kd at p0;generalize bG ns (at' + 1) 3=v1 at p1 l1;generalize bG ns (at' + 2) 3=v2 at p2 l2;generalize bG ns (at' + 3) 4=v3 at p3;have q0:aI fs (N - 1) ip [.br ns,.int at',.int 4] none= .ok (.int kd,none):=p0;have q1:aI fs (N - 1) ip [.br ns,.int ((at':Int) + 1),.int 3] none= .ok (.int v1,none):=p1;have q2:aI fs (N - 1) ip [.br ns,.int ((at':Int) + 2),.int 3] none= .ok (.int v2,none):=p2;have q3:aI fs (N - 1) ip [.br ns,.int ((at':Int) + 3),.int 4] none= .ok (.int v3,none):=p3;obtain⟨wg,zT⟩:=o6 (a:=a') (b:=b') (c:=c') l1;obtain⟨LF,rL⟩:=o6 (a:=a) (b:=b) (c:=c) l1;rw[hsg] at zT;rw[hnm] at rL;have ln:dX .len [nm]= .ok (.int 3):=by rw[<-hnm];rfl
    have fd:=xR (i:=v3) (j:=3) (by decide) (by decide);have tl:∀(it:Mx.D) (EJ DF:Option Dt),ot (ck deep) it->∃ρ2,aQ (aI fs (N - 1)) (yV ip) [some (.br ns),some (.int k),some (.int deep),some nm,some sg,some (.int most),some (.lst (aa ms)),some (.int pre.length),some (.int at'),some (.int kd),some (.str wg),some (ofD it),EJ,DF] none= .ok (.next,ρ2,none)/\
      ∃ms x7 x8 x9 DB EA zO zQ,ms.length=(pre++[Dt.int pre.length]).length/\(∀m∈ms,sE (ck deep) m)/\ρ2=[some (.br ns),some (.int k),some (.int deep),some nm,some sg,some (.int most),some (.lst (aa ms)),x7,x8,x9,DB,EA,zO,zQ]:=by
     intro it EJ DF hi;refine⟨_,cM (ds:=aa ms) (d:= .tup [ofD it,.int (1 + v3 / 3)]) (S1:=none) rfl (by simp only[RX,q3,fd]) rfl (by rw[ab];omega) rfl,ms++[.tup [it,.int (1 + v3 / 3)]],some (.int pre.length),some (.int at'),some (.int kd),some (.str wg),some (ofD it),EJ,DF,by simp[AR],λm hm=>?_,?_⟩
     ·rcases Ql.mp hm with hm | hm
      ·exact hr m hm
      ·rw[Qx] at hm;subst hm;exact⟨it,_,rfl,hi⟩
     ·rw[aq];simp[ofD,aa]
    suffices hh:∃it EJ DF,ot (ck deep) it/\∀r,aQ (aI fs (N - 1)) (yV ip) [some (.br ns),some (.int k),some (.int deep),some nm,some sg,some (.int most),some (.lst (aa ms)),some (.int pre.length),some (.int at'),some (.int kd),some (.str wg),some (ofD it),EJ,DF] none=r->
      aQ (aI fs (N - 1)) (Cz ip ix im) [some (.br ns),some (.int k),some (.int deep),some nm,some sg,some (.int most),some (.lst (aa ms)),some (.int pre.length),some (.int at'),some (.int kd),some (.str wg),some (.tup [.str "of",.str wg,.tup []]),zO,zQ] none=r by
     obtain⟨it,EJ,DF,hi,hh⟩:=hh;obtain⟨ρ2,t1,t2⟩:=tl it EJ DF hi;exact⟨[some (.br ns),some (.int k),some (.int deep),some nm,some sg,some (.int most),some (.lst (aa ms)),some (.int pre.length),x8,x9,DB,EA,zO,zQ],ρ2,rfl,cg (d:= .int at') (S1:=none) (by simp only[RX,M5]) rfl (cg (d:= .int kd) (S1:=none) (by simp only[RX,q0]) rfl (cg (d:= .str wg) (S1:=none) (by simp only[RX,q1,zT]) rfl (cg (d:= .tup [.str "of",.str wg,.tup []]) (S1:=none) (by simp only[RX]) rfl (hh _ t1)))),t2⟩
    by_cases c1:(kd:Int) < 2
    ·refine⟨fy LF,zO,zQ,.inl ⟨LF,rfl⟩,λr cX=>?_⟩;refine qP (S1:=none) (by simp only[RX,ln,Qs c1,if_true];rfl) (cg (d:=ofD (fy LF)) (S1:=none) (by simp only[RX,ln,q1,rL];simp[fy,ofD,aa]) rfl cX)
    ·by_cases c2:(kd:Int)=3/\(0:Int) < deep
     ·have Pq:1<=deep:=by omega
      have e1:((1 + v2:Nat):Int)=1 + (v2:Int):=by omega
      obtain⟨qs,k1,k2,k3⟩:=j5 (f:=bJ (.nm 1) (cU (aI fs (N - 1)) .nil) (dk (aI fs (N - 1)) (xN ix im)) [none,none,some (.int at'),some (.int deep),some nm,some (.br ns),some sg]) (S:=none) (ds:=bh 0 (1 + v2)) (ck deep) (by
       intro x qv;obtain⟨i,hi,rfl⟩:=Ba qv;have Of:=tQ hx (n:=N - 1) (by omega) (k:=at') (j:=5 + i);have Pz:=qt (k:=at') (j:=5 + i);obtain⟨rs,r1,r2⟩:=wt hp hx hg hf (ns:=ns) (a:=a) (b:=b) (c:=c) (a':=a') (b':=b') (c':=c') (deep - 1) (by omega) (N:=N - 1) (k:=ji at' (5 + i)) (most:=2) (by omega) (by omega) (by omega);rw[hnm,hsg] at r1;refine⟨.tup rs,dE (ρ1:=[none,some (.int i),some (.int at'),some (.int deep),some nm,some (.br ns),some sg]) rfl ?_ rfl,by rw[show deep=deep - 1 + 1 by omega];exact r2⟩;have Ot:aI fs (N - 1) ix [.int at',.int (5 + (i:Int))] none= .ok (.int (ji at' (5 + i)),none):=Of;have r3:aI fs (N - 1) im [.br ns,.int (ji at' (5 + i)),.int ((deep:Int) - 1),nm,sg,.int 2] none= .ok (.tup (aa rs),none):=by rw[show (deep:Int) - 1=((deep - 1:Nat):Int) by omega];exact r1
       simp only[xN,RX,Ot,r3,ofD])
      refine⟨ofT wg qs,some (.int (1 + v2)),some (.lst (aa qs)),.inr ⟨wg,qs,rfl,by rw[k2];simp[bh];omega,k3⟩,λr cX=>?_⟩;refine lL (S1:=none) (by simp only[RX,Qo c1];rfl) (qP (S1:=none) (by simp only[RX,c2.1,Qs c2.2];rfl) ?_);refine cg (d:= .int (1 + v2)) (S1:=none) (by simp only[RX,q2]) rfl (cg (d:= .lst (aa qs)) (S1:=none) (bA (ds:=bh 0 (1 + v2)) (S1:=none) (eR (n:=1 + v2) (by simp only[RX];rw[<-e1]) (by omega)) (by simp[bh];omega) rfl k1) rfl ?_);exact cg (d:=ofD (ofT wg qs)) (S1:=none) (by simp only[RX];simp[ofT,ofD,aa]) rfl cX
     ·refine⟨ofT wg [],zO,zQ,.inr ⟨wg,[],rfl,by simp,by simp⟩,λr cX=>?_⟩;have c3:(((kd:Int)==3)&&decide ((0:Int) < deep))=false:=by
       cases h:((kd:Int)==3) with
       | false=>rfl
       | true=>have:=Qm h;rw[Bool.true_and];exact Qo λz=>c2 ⟨this,z⟩
      refine lL (S1:=none) (by simp only[RX,Qo c1];rfl) (lL (S1:=none) ?_ ?_)
      ·simp only[RX];cases h:((kd:Int)==3) with
       | false=>rfl
       | true=>rw[h,Bool.true_and] at c3;rw[if_pos rfl,c3]
      ·exact cX)
  obtain⟨ρ1,bf,ms,x7,x8,x9,DB,EA,zO,zQ,AR,hr,rfl⟩:=loop;have PH:ms.length<=most:=by rw[AR];simp[bh];omega
  obtain⟨rs,g1,g2,g3⟩:=Bo hg (N:=N - 1) (by omega) (n:=deep) (by omega) (ms:=ms) (by omega) hr;have Cj:ev (aI fs (N - 1)) (.call ig (.cons (.mvr 6) .nil) []) [some (.br ns),some (.int k),some (.int deep),some nm,some sg,some (.int most),some (.lst (aa ms)),x7,x8,x9,DB,EA,zO,zQ] none= .ok (.tup (aa rs),none):=by simp only[RX,g1]
  obtain⟨qs,k1,k2,k3⟩:=j5 (f:=bJ (.tp [1,2]) (cU (aI fs (N - 1)) .nil) (dk (aI fs (N - 1)) (.tup (.cons (.var 1) (.cons (.bi .min2 (.cons (.con (.int 3)) (.cons (.var 2) .nil))) .nil)))) [none,none,none]) (S:=none) (ds:=aa rs) (sE (ck deep)) (by
   intro x qv;obtain⟨m,hm,rfl⟩:=zD qv;obtain⟨it,c,rfl,hi⟩:=g3 m hm;exact⟨.tup [it,.int (if c < 3 then c else 3)],dE (ρ1:=[none,some (ofD it),some (.int c)]) (by simp[ofD,aa,cA,dZ]) (by simp only[RX];simp[ofD,aa]) rfl,it,_,rfl,hi⟩)
  refine⟨qs,aB hf (by omega) rfl ?_,qs,rfl,by rw[k2,ab];omega,k3⟩;show fin (aQ (aI fs (N - 1)) (En ip ix ig im) [some (.br ns),some (.int k),some (.int deep),some nm,some sg,some (.int most),none,none,none,none,none,none,none,none] none)=_;refine bw (d:= .lst []) (S1:=none) rfl rfl (bz (ds:=bh 0 (bG ns k (most + 1))) (S1:=none) (eR (by simp only[RX];exact congrArg (R.bind · _) (P k (most + 1) (by omega) (by omega))) (by omega)) rfl bf (ar ?_));rw[show∀(e:C) (ρ:ak),ev (aI fs (N - 1)) (.bi .tuple (.cons e .nil)) ρ none=(ev (aI fs (N - 1)) e ρ none).bind (λx=>(dX .tuple [x.1]).bind λd=> .ok (d,x.2)) from λe ρ=>by simp only[RX];cases ev (aI fs (N - 1)) e ρ none <;> rfl,bA (ds:=aa rs) (S1:=none) (fG Cj rfl) (by rw[ab];omega) (Bv Cj (zb (.tup rs))) k1];rfl
 termination_by deep=>deep
variable {fs:List Fn}
def uM (ic:Nat):Ts:=(.cons (.app 3 (.tup (.cons (.idx (.idx (.var 2) (.var 4)) (.con (.int 0))) (.cons (.bin .Mult (.idx (.idx (.var 2) (.var 4)) (.con (.int 1))) (.bin .Add (.con (.int 1)) (.bin .Mod (.call ic (.cons (.var 0) (.cons (.bin .Add (.var 1) (.var 4)) .nil)) []) (.bin .Pow (.con (.int 10)) (.con (.int 8)))))) .nil)))) .nil)
def rN (ic:Nat):Ts:=(.cons (.asgM 3 (.lst .nil)) (.cons (.fr (.nm 4) (.rng1 (.bi .len (.cons (.var 2) .nil))) (uM ic)) (.cons (.ret (.bi .tuple (.cons (.mvr 3) .nil))) .nil)))
def pf {ic ig:Nat} (hc:fs[ic]?=some ⟨2,3,false,pX⟩) (hf:fs[ig]?=some ⟨3,5,false,rN ic⟩) {N k n:Nat} (hN:2<=N) (hk:k < 100000) {ns:List Int} {rs:List Mx.D} (h:ck n (.tup rs)):∃qs,aI fs N ig [.br ns,.int k,.tup (aa rs)] none= .ok (.tup (aa qs),none)/\ck n (.tup qs):=by
 have cP:lim=1000000:=rfl;obtain⟨n,rfl⟩:∃m,n=m + 1:=by cases n with | zero=>exact h.elim | succ m=>exact⟨m,rfl⟩
 obtain⟨md,e,hl,hr⟩:=h;cases e;have loop:=cw (S:=none) (tg:= .nm 4) (ds:=bh 0 rs.length) (ρ:=[some (.br ns),some (.int k),some (.tup (aa rs)),some (.lst []),none])
  (body:=aQ (aI fs (N - 1)) (uM ic))
  (λpre ρ=>∃ms x,ms.length=pre.length/\(∀m∈ms,sE (ck n) m)/\ρ=[some (.br ns),some (.int k),some (.tup (aa rs)),some (.lst (aa ms)),x]) ⟨[],none,rfl,by simp,by simp[aa]⟩ (by
   rintro pre x post ρ e ⟨ms,x,AR,hm,rfl⟩;obtain⟨h1,rfl⟩:=dC e;obtain⟨it,c,e1,hi⟩:=hr rs[pre.length] (List.getElem_mem h1);have lD:=(ec (ds:=aa rs) (k:=pre.length) (d:= .tup [ofD it,.int c]) (by rw[aK,Qi,Qn h1,e1];simp[ofD,aa])).1;have BY:=uN hc (n:=N - 1) (by omega) (ns:=ns) (k:=k + pre.length) (by omega);generalize hV ns (k + pre.length)=y at BY;have JP:aI fs (N - 1) ic [.br ns,.int ((k:Int) + pre.length)] none= .ok (.int y,none):=BY;have pw:nh .Pow (.int 10) (.int 8)= .ok (.int 100000000):=rfl;have m1:=c6 (i:=y) (j:=100000000) (by decide);have r1:=QA y (b:=100000000) (by decide);have r2:=QB y (b:=100000000) (by decide);have m2:=bB (i:=c) (j:=1 + y % 100000000) (.inr (by omega));refine⟨_,_,rfl,cM (ds:=aa ms) (d:= .tup [ofD it,.int (c * (1 + y % 100000000))]) (S1:=none) rfl (by simp only[RX,lD,JP,pw,m1,m2]) rfl (by rw[ab];omega) rfl,ms++[.tup [it,.int (c * (1 + y % 100000000))]],some (.int pre.length),by simp[AR],λm hm'=>?_,?_⟩
   ·rcases Ql.mp hm' with hm' | hm'
    ·exact hm m hm'
    ·rw[Qx] at hm';subst hm';exact⟨it,_,rfl,hi⟩
   ·rw[aq];simp[ofD,aa])
 obtain⟨ρ1,bf,ms,x,AR,hm,rfl⟩:=loop;refine⟨ms,aB hf (by omega) rfl ?_,ms,rfl,by rw[AR];simp[bh];omega,hm⟩;show fin (aQ (aI fs (N - 1)) (rN ic) [some (.br ns),some (.int k),some (.tup (aa rs)),none,none] none)=_;exact bw (d:= .lst []) (S1:=none) rfl rfl (bz (ds:=bh 0 rs.length) (S1:=none) (eR (n:=rs.length) (by simp only[RX,ab]) (by omega)) rfl bf (ar (by simp only[RX])))
def aP:Mx.D->List Mx.D
 | .tup [_,_,.tup ps]=>ps
 | _=>[]
def jq (f:Mx.D->List Mx.D):Mx.D->List Mx.D
 | .tup [it,_]=>it::(aP it).flatMap f
 | _=>[]
def bt:Nat->Mx.D->List Mx.D
 | n + 1,.tup rs=>rs.flatMap (jq (bt n))
 | _,_=>[]
def jE:Nat->Nat
 | 0=>0
 | n + 1=>4 * (1 + 3 * jE n)
def cy {α β:Type} {f:α->List β} {k:Nat}:∀{l:List α},(∀x∈l,(f x).length<=k)->(l.flatMap f).length<=l.length * k
 | [],_=>by simp
 | x::l,h=>by
  have h1:=h x P5;have h2:=cy λy hy=>h y (P1 _ hy)
  rw[List.flatMap_cons,Qf,Qh,Nat.succ_mul];omega
def um {Q:Mx.D->Prop} {f:Mx.D->List Mx.D} {k:Nat} {r:Mx.D} (hf:∀d,Q d->(f d).length<=k) (h:sE Q r):(jq f r).length<=1 + 3 * k:=by
 obtain⟨it,c,rfl,⟨x,rfl⟩ | ⟨x,ps,rfl,hl,hp⟩⟩:=h
 ·simp[jq,fy,aP]
 ·have:=cy (f:=f) (k:=k) λp kB=>hf p (hp p kB)
  have h2:ps.length * k<=3 * k:=Nat.mul_le_mul_right _ hl;simp[jq,ofT,aP] at this ⊢;omega
def bq:∀{n:Nat} {d:Mx.D},ck n d->(bt n d).length<=jE n
 | 0,d,h=>h.elim
 | n + 1,d,⟨rs,e,hl,h⟩=>by
  subst e;have:=cy (f:=jq (bt n)) (k:=1 + 3 * jE n) λr hr=>um (λd hd=>bq hd) (h r hr)
  have h2:rs.length * (1 + 3 * jE n)<=4 * (1 + 3 * jE n):=Nat.mul_le_mul_right _ hl;simp only[bt,jE];omega
def nJ:∀{n m:Nat},n<=m->jE n<=jE m
 | 0,m,_=>Nat.zero_le _
 | n + 1,0,h=>by omega
 | n + 1,m + 1,h=>by have:=nJ (n:=n) (m:=m) (by omega);simp only[jE];omega
def ck.up:∀{n:Nat} {d:Mx.D},ck n d->ck (n + 1) d
 | 0,d,h=>h.elim
 | n + 1,d,⟨rs,e,hl,h⟩=>⟨rs,e,hl,λr hr=>by
  obtain⟨it,c,rfl,hi⟩:=h r hr;refine⟨it,c,rfl,hi.imp id ?_⟩;rintro⟨x,ps,rfl,h1,h2⟩;exact⟨x,ps,rfl,h1,λp hp=>(h2 p hp).up⟩⟩
def hZ:∀{n:Nat} {d it:Mx.D},ck (n + 1) d->it∈bt (n + 1) d->ot (ck n) it
 | n,d,it,⟨rs,e,hl,h⟩,hi=>by
  subst e;simp only[bt,List.mem_flatMap] at hi;obtain⟨r,hr,hi⟩:=hi;obtain⟨rW,c,rfl,MW⟩:=h r hr;simp only[jq] at hi;rcases Qb.mp hi with rfl | hi
  ·exact MW
  ·rw[List.mem_flatMap] at hi;obtain⟨p,hp,BU⟩:=hi;rcases MW with ⟨x,rfl⟩ | ⟨x,ps,rfl,h1,h2⟩
   ·simp[fy,aP] at hp
   ·have kB:p∈ps:=by simpa [ofT,aP] using hp
    have hF:=h2 p kB;cases n with
    | zero=>exact hF.elim
    | succ n=>refine(hZ hF BU).imp id ?_;rintro⟨y,qs,rfl,k1,k2⟩;exact⟨y,qs,rfl,k1,λp hp=>(k2 p hp).up⟩
def kf:Ts:=(.cons (.ifs (.cmp .Eq (.idx (.var 0) (.con (.int 0))) (.con (.str "of"))) (.cons (.ret (.idx (.var 0) (.con (.int 2)))) .nil) .nil) (.cons (.ret (.tup .nil)) .nil))
def tq (x:Str):ofD (fy x)= .tup [.str "any",.str x]:=by simp[fy,ofD,aa]
def lT (x:Str) (ps:List Mx.D):ofD (ofT x ps)= .tup [.str "of",.str x,.tup (aa ps)]:=by simp[ofT,ofD,aa]
def zG {ip N:Nat} (hf:fs[ip]?=some ⟨1,1,false,kf⟩) (hN:1<=N) {Q:Mx.D->Prop} {it:Mx.D} (h:ot Q it):aI fs N ip [ofD it] none= .ok (.tup (aa (aP it)),none):=by
 refine aB hf hN rfl ?_;rcases h with ⟨x,rfl⟩ | ⟨x,ps,rfl,_⟩
 ·rw[tq];show fin (aQ (aI fs (N - 1)) kf [some (.tup [.str "any",.str x])] none)=_;exact eE (S1:=none) (by simp only[RX];rfl) (ar (by simp[RX,fy,aP,aa]))
 ·rw[lT];show fin (aQ (aI fs (N - 1)) kf [some (.tup [.str "of",.str x,.tup (aa ps)])] none)=_;exact kc (S1:=none) (by simp only[RX];rfl) (ar (by simp only[RX];rfl))
def yO (ip ii:Nat):Ts:=(.cons (.asgM 1 (.lst .nil)) (.cons (.fr (.tp [2,3]) (.seq (.var 0)) (.cons (.app 1 (.var 2)) (.cons (.fr (.nm 4) (.seq (.call ip (.cons (.var 2) .nil) [])) (.cons (.xtd 1 (.call ii (.cons (.var 4) .nil) [])) .nil)) .nil))) (.cons (.ret (.mvr 1)) .nil)))
def ph (ii:Nat):Ts:=(.cons (.ifs (.cmp .Eq (.idx (.var 2) (.con (.int 0))) (.con (.str "of"))) (.cons (.fr (.nm 4) (.seq (.idx (.var 2) (.con (.int 2)))) (.cons (.asgM 1 (.bin .Add (.mvr 1) (.call ii (.cons (.var 4) .nil) []))) .nil)) .nil) .nil) .nil)
def uF (ii:Nat):Ts:=(.cons (.asgM 1 (.lst .nil)) (.cons (.fr (.tp [2,3]) (.seq (.var 0)) (.cons (.app 1 (.var 2)) (ph ii))) (.cons (.ret (.mvr 1)) .nil)))
def jB {a b:List Dt} (h:a.length + b.length<=lim):nh .Add (.lst a) (.lst b)= .ok (.lst (a++b)):=by show ag (decide (a.length + b.length<=lim)) _=_;rw[Qs h];rfl
def pV {a b:List Mx.D} (h:aa a=aa b):a=b:=by have:=fZ a;rw[h,fZ] at this;exact(Option.some.inj this).symm
def je {tg:Tg} {body:ak->Sx->RS} {ds:List Mx.D} {ρ:ak} {S:Sx} (P:List Mx.D->ak->Prop) (h0:P [] ρ)
  (step:∀pre x post ρ,ds=pre++x::post->P pre ρ->∃ρ1 ρ2,cA tg (ofD x) ρ= .ok ρ1/\body ρ1 S= .ok (.next,ρ2,S)/\P (pre++[x]) ρ2):∃ρ',forL tg body (aa ds) ρ S= .ok (.next,ρ',S)/\P ds ρ':=by
 obtain⟨ρ',h1,p,h2,h3⟩:=cw (S:=S) (tg:=tg) (body:=body) (ds:=aa ds) (ρ:=ρ) (λpre ρ=>∃p,pre=aa p/\P p ρ) ⟨[],by simp[aa],h0⟩ (by
  rintro pre x post ρ e ⟨p,e0,hp⟩;obtain⟨p',y,q,e1,e2,rfl,rfl⟩:=ko e;have ep:p=p':=pV (e0.symm.trans e2);subst ep;obtain⟨ρ1,ρ2,s1,s2,s3⟩:=step p y q ρ e1 hp;exact⟨ρ1,ρ2,s1,s2,p++[y],by rw[e2,aq];simp[aa],s3⟩)
 exact⟨ρ',h1,pV h2▸h3⟩
def lX {body:Ts} {F:FT} {n:Nat} {rs:List Mx.D} (hn:jE (n + 1)<=100000) (hl:rs.length<=4) (h:∀r∈rs,sE (ck n) r)
  (step:∀(acc:List Mx.D) (it:Mx.D) (c:Int) (x:Option Dt),ot (ck n) it->acc.length<=4 * (1 + 3 * jE n)->∃y,aQ F body [some (.tup (aa rs)),some (.lst (aa acc)),some (ofD it),some (.int c),x] none= .ok (.next,[some (.tup (aa rs)),some (.lst (aa (acc++jq (bt n) (.tup [it,.int c])))),some (ofD it),some (.int c),y],none)):
  fin (aQ F (.cons (.asgM 1 (.lst .nil)) (.cons (.fr (.tp [2,3]) (.seq (.var 0)) body) (.cons (.ret (.mvr 1)) .nil))) [some (.tup (aa rs)),none,none,none,none] none)= .ok (.lst (aa (bt (n + 1) (.tup rs))),none):=by
 have loop:=je (S:=none) (tg:= .tp [2,3]) (ds:=rs) (ρ:=[some (.tup (aa rs)),some (.lst []),none,none,none]) (body:=aQ F body)
  (λp ρ=>∃x y z,ρ=[some (.tup (aa rs)),some (.lst (aa (p.flatMap (jq (bt n))))),x,y,z]) ⟨none,none,none,by simp[aa]⟩ (by
   rintro p y q ρ e1 ⟨x2,x3,x4,rfl⟩;have hy:=h y (by rw[e1];simp);obtain⟨it,c,rfl,hi⟩:=hy;have hp:p.length<=4:=by have:=congrArg List.length e1;simp at this;omega
   have hlen:(p.flatMap (jq (bt n))).length<=4 * (1 + 3 * jE n):=Qa (cy (k:=1 + 3 * jE n) λr hr=>um (λd hd=>bq hd) (h r (by rw[e1];simp[hr]))) (Nat.mul_le_mul_right _ hp);obtain⟨y,hs⟩:=step (p.flatMap (jq (bt n))) it c x4 hi hlen;refine⟨[some (.tup (aa rs)),some (.lst (aa (p.flatMap (jq (bt n))))),some (ofD it),some (.int c),x4],_,by simp[ofD,aa,cA,dZ],hs,some (ofD it),some (.int c),y,?_⟩;rw[List.flatMap_append];simp only[List.flatMap_cons,List.flatMap_nil,QC])
 obtain⟨ρ1,bf,x,y,z,rfl⟩:=loop;exact bw (d:= .lst []) (S1:=none) rfl rfl (bz (ds:=aa rs) (S1:=none) (by simp only[RX]) rfl bf (ar (by simp only[RX];rfl)))
def lh {F:FT} {b:Ts} {n:Nat} {ps acc:List Mx.D} {d0 d2 d3:Option Dt} {x:Option Dt} (step:∀(acc:List Mx.D) (p:Mx.D),acc.length<=4 * (1 + 3 * jE n) + 1 + 3 * jE n->ck n p->aQ F b [d0,some (.lst (aa acc)),d2,d3,some (ofD p)] none= .ok (.next,[d0,some (.lst (aa (acc++bt n p))),d2,d3,some (ofD p)],none))
  (hl:ps.length<=3) (ha:acc.length<=4 * (1 + 3 * jE n) + 1) (h:∀p∈ps,ck n p):∃y,forL (.nm 4) (aQ F b) (aa ps) [d0,some (.lst (aa acc)),d2,d3,x] none= .ok (.next,[d0,some (.lst (aa (acc++ps.flatMap (bt n)))),d2,d3,y],none):=by
 have loop:=je (S:=none) (tg:= .nm 4) (ds:=ps) (ρ:=[d0,some (.lst (aa acc)),d2,d3,x]) (body:=aQ F b)
  (λp ρ=>∃z,ρ=[d0,some (.lst (aa (acc++p.flatMap (bt n)))),d2,d3,z]) ⟨x,by simp⟩ (by
   rintro p y q ρ e1 ⟨x2,rfl⟩;have hp:p.length<=3:=by have:=congrArg List.length e1;simp at this;omega
   have hlen:=cy (f:=bt n) (k:=jE n) (l:=p) λr hr=>bq (h r (by rw[e1];simp[hr]))
   have h3:p.length * jE n<=3 * jE n:=Nat.mul_le_mul_right _ hp;refine⟨_,_,rfl,step _ y (by rw[Qf];omega) (h y (by rw[e1];simp)),some (ofD y),?_⟩;rw[List.flatMap_append,<-Qd];simp only[List.flatMap_cons,List.flatMap_nil,QC])
 obtain⟨ρ1,bf,z,rfl⟩:=loop;exact⟨z,bf⟩
def pG {ip ii:Nat} (hp:fs[ip]?=some ⟨1,1,false,kf⟩) (hf:fs[ii]?=some ⟨1,5,false,yO ip ii⟩):∀{n:Nat} {N:Nat} {d:Mx.D},n<=4->n + 1<=N->ck n d->aI fs N ii [ofD d] none= .ok (.lst (aa (bt n d)),none)
 | 0,N,d,_,_,h=>h.elim
 | n + 1,N,d,hn,hN,⟨rs,e,hl,h⟩=>by
  subst e;have cP:lim=1000000:=rfl;have hb:jE (n + 1)<=100000:=Qa (nJ hn) (by decide);have jA:4 * (1 + 3 * jE n)<=100000:=hb;refine aB hf (by omega) rfl (lX (body:= .cons (.app 1 (.var 2)) (.cons (.fr (.nm 4) (.seq (.call ip (.cons (.var 2) .nil) [])) (.cons (.xtd 1 (.call ii (.cons (.var 4) .nil) [])) .nil)) .nil)) hb hl h λacc it c x hi ha=>?_);have Oc:=zG hp (N:=N - 1) (by omega) hi;have yo:(aP it).length<=3/\∀p∈aP it,ck n p:=by
   rcases hi with ⟨y,rfl⟩ | ⟨y,ps,rfl,h1,h2⟩
   ·simp[fy,aP]
   ·exact⟨h1,h2⟩
  obtain⟨y,hw⟩:=lh (F:=aI fs (N - 1)) (b:= .cons (.xtd 1 (.call ii (.cons (.var 4) .nil) [])) .nil) (n:=n) (ps:=aP it) (acc:=acc++[it]) (d0:=some (.tup (aa rs))) (d2:=some (ofD it)) (d3:=some (.int c)) (x:=x) (λacc p ha kB=>by
   have ih:=pG hp hf (N:=N - 1) (by omega) (by omega) kB;have:=bq kB;refine(yY (ds:=aa acc) (es:=aa (bt n p)) (S1:=none) rfl (by simp only[RX,ih]) (Nat.le_of_ble_eq_true rfl) (by rw[ab,ab];omega) rfl).trans ?_;rw[aq];rfl) yo.1 (by simp;omega) yo.2
  refine⟨y,cM (ds:=aa acc) (d:=ofD it) (S1:=none) rfl (by simp only[RX]) rfl (by rw[ab];omega) (nG (ds:=aa (aP it)) (S1:=none) (by simp only[RX];rw[Oc];rfl) rfl ((show aa acc++[ofD it]=aa (acc++[it]) by rw[aq];simp[aa])▸hw) ?_)⟩;rw[Qd];rfl
def mT {ii:Nat} (hf:fs[ii]?=some ⟨1,5,false,uF ii⟩):∀{n:Nat} {N:Nat} {d:Mx.D},n<=4->n + 1<=N->ck n d->aI fs N ii [ofD d] none= .ok (.lst (aa (bt n d)),none)
 | 0,N,d,_,_,h=>h.elim
 | n + 1,N,d,hn,hN,⟨rs,e,hl,h⟩=>by
  subst e;have cP:lim=1000000:=rfl;have hb:jE (n + 1)<=100000:=Qa (nJ hn) (by decide);have jA:4 * (1 + 3 * jE n)<=100000:=hb;refine aB hf (by omega) rfl (lX (body:= .cons (.app 1 (.var 2)) (ph ii)) hb hl h λacc it c x hi ha=>?_);rcases hi with ⟨y,rfl⟩ | ⟨y,ps,rfl,h1,h2⟩
  ·refine⟨x,cM (ds:=aa acc) (d:=ofD (fy y)) (S1:=none) rfl (by simp only[RX]) rfl (by rw[ab];omega) (lL (S1:=none) (by rw[tq];simp only[RX];rfl) ?_)⟩;rw[aq];simp[jq,fy,aP,aa,Ts.app,aQ]
  ·obtain⟨z,hw⟩:=lh (F:=aI fs (N - 1)) (b:= .cons (.asgM 1 (.bin .Add (.mvr 1) (.call ii (.cons (.var 4) .nil) []))) .nil) (n:=n) (ps:=ps) (acc:=acc++[ofT y ps]) (d0:=some (.tup (aa rs))) (d2:=some (ofD (ofT y ps))) (d3:=some (.int c)) (x:=x) (λacc p ha kB=>by
    have ih:=mT hf (N:=N - 1) (by omega) (by omega) kB;have:=bq kB;have ca:=jB (a:=aa acc) (b:=aa (bt n p)) (by rw[ab,ab];omega);refine(A8 (d:= .lst (aa acc++aa (bt n p))) (S1:=none) (by simp only[RX,ih,ca]) rfl rfl).trans ?_;rw[aq];rfl) h1 (by simp;omega) h2
   refine⟨z,cM (ds:=aa acc) (d:=ofD (ofT y ps)) (S1:=none) rfl (by simp only[RX]) rfl (by rw[ab];omega) (qP (S1:=none) (by rw[lT];simp only[RX];rfl) (nG (ds:=aa ps) (S1:=none) (by rw[lT];simp only[RX]) rfl ((show aa acc++[ofD (ofT y ps)]=aa (acc++[ofT y ps]) by rw[aq];simp[aa])▸hw) ?_))⟩;rw[Qd];rfl
variable {fs:List Fn}
def fV {f:Dt->Sx->R (List Dt×Sx)} {S:Sx} (g:Mx.D->List Dt):∀{ds:List Mx.D},(∀m∈ds,f (ofD m) S= .ok (g m,S))->a9 f (aa ds) S= .ok (ds.flatMap g,S)
 | [],_=>by simp[aa,a9]
 | d::ds,h=>by rw[aa,a9,h d P5,R.ax,fV g λm hm=>h m (P1 _ hm),R.ax,List.flatMap_cons]
def B1 {x:Str}:∀{l:List Str},x∈dd l↔x∈l
 | []=>by simp[dd]
 | y::l=>by
  have ih:=B1 (x:=x) (l:=l);rw[dd];split
  ·rename_i h;rw[ih,Qb];exact⟨.inr,λz=>z.elim (λe=>by rw[e];exact B1.mp h) id⟩
  ·rw[Qb,ih,Qb]
def LV:∀{l:List Str},(dd l).Nodup
 | []=>by simp[dd]
 | y::l=>by
  rw[dd];split
  ·exact LV
  ·rename_i h;exact List.nodup_cons.mpr ⟨h,LV⟩
def Ke:∀{l:List Str},(dd l).length<=l.length
 | []=>by simp[dd]
 | y::l=>by have:=Ke (l:=l);rw[dd];split <;> simp <;> omega
def iG:∀ys:List Str,strsOf (aa (ys.map Mx.D.str))=some ys
 | []=>by simp[aa,strsOf]
 | y::ys=>by simp[aa,ofD,strsOf,iG ys]
def str_list:∀{ms:List Mx.D},(∀m∈ms,∃x,m= .str x)->∃zs:List Str,ms=zs.map Mx.D.str
 | [],_=>⟨[],rfl⟩
 | m::ms,h=>by
  obtain⟨x,rfl⟩:=h m P5;obtain⟨zs,rfl⟩:=str_list λm hm=>h m (P1 _ hm)
  exact⟨x::zs,rfl⟩
def l0 (ys:List Str):∃zs:List Str,aT (ys.map Mx.D.str)=zs.map Mx.D.str/\zs.length=ys.length/\∀x,x∈zs↔x∈ys:=by
 obtain⟨zs,h⟩:=str_list (ms:=aT (ys.map Mx.D.str)) λm hm=>by obtain⟨x,_,rfl⟩:=Qy.mp (bx.mp hm);exact⟨x,rfl⟩
 have hl:=(bE (ys.map Mx.D.str)).length_eq;rw[h] at hl;refine⟨zs,h,by simpa using hl,λx=>?_⟩;have hm:Mx.D.str x∈aT (ys.map Mx.D.str)↔Mx.D.str x∈ys.map Mx.D.str:=bx;rw[h] at hm;simpa using hm
def tI {ys:List Str} {d:Dt} (hd:bM d=some (aa (ys.map Mx.D.str))) (hl:ys.length < 4000):dX .sset [d]= .ok (.lst (aa (aT ((dd ys).map Mx.D.str)))):=by show (match bM d with | some ds=>(match strsOf ds with | some ys=>ag (decide (ys.length < 4000)) (R.ok (Dt.lst (aa (aT ((dd ys).map Mx.D.str))))) | none=> .bad) | none=> .bad)=_;rw[hd];show (match strsOf (aa (ys.map Mx.D.str)) with | some ys=>ag (decide (ys.length < 4000)) (R.ok (Dt.lst (aa (aT ((dd ys).map Mx.D.str))))) | none=> .bad)=_;rw[iG];show ag (decide (ys.length < 4000)) _=_;rw[Qs hl];rfl
def fk:Mx.D->List Str
 | .tup [_,.str x]=>[x]
 | _=>[]
def pT:Mx.D->List Mx.D
 | .tup [a,b,c]=>[.tup [a,b,c]]
 | _=>[]
def iH {α β γ:Type} {f:α->List β} {g:β->γ}:∀l:List α,(l.flatMap λx=>(f x).map g)=(l.flatMap f).map g
 | []=>rfl
 | x::l=>by rw[List.flatMap_cons,List.flatMap_cons,QH,iH l]
def kv {F:FT} {its:List Mx.D} {Q:Mx.D->Prop} (h:∀m∈its,ot Q m):a9 (bJ (.nm 1) (cU F (.cons (.cmp .Eq (.idx (.var 1) (.con (.int 0))) (.con (.str "any"))) .nil)) (dk F (.idx (.var 1) (.con (.int 1)))) [none,none]) (aa its) none= .ok (aa ((its.flatMap fk).map Mx.D.str),none):=by
 rw[fV (λm=>aa ((fk m).map Mx.D.str)) λm hm=>?_]
 ·have:∀m:Mx.D,aa ((fk m).map Mx.D.str)=(fk m).map λx=>ofD (.str x):=λm=>by rw[aK,List.map_map];rfl
  simp only[this];rw[iH,aK,List.map_map];rfl
 ·rcases h m hm with ⟨x,rfl⟩ | ⟨x,ps,rfl,_⟩
  ·rw[tq];exact turn_if (b:=true) (y:= .str x) (ρ1:=[none,some (.tup [.str "any",.str x])]) rfl (by simp only[RX];rfl) λ_=>⟨by simp only[RX],rfl⟩
  ·rw[lT];exact turn_if (b:=false) (y:= .bo) (ρ1:=[none,some (.tup [.str "of",.str x,.tup (aa ps)])]) rfl (by simp only[RX];rfl) λz=>by cases z
def jo {F:FT} {its:List Mx.D} {Q:Mx.D->Prop} (h:∀m∈its,ot Q m):a9 (bJ (.nm 1) (cU F (.cons (.cmp .Eq (.idx (.var 1) (.con (.int 0))) (.con (.str "of"))) .nil)) (dk F (.var 1)) [none,none]) (aa its) none= .ok (aa (its.flatMap pT),none):=by
 rw[fV (λm=>aa (pT m)) λm hm=>?_]
 ·simp only[aK];rw[iH]
 ·rcases h m hm with ⟨x,rfl⟩ | ⟨x,ps,rfl,_⟩
  ·rw[tq];exact turn_if (b:=false) (y:= .bo) (ρ1:=[none,some (.tup [.str "any",.str x])]) rfl (by simp only[RX];rfl) λz=>by cases z
  ·have e:aa (pT (ofT x ps))=[ofD (ofT x ps)]:=by simp[pT,ofT,aa]
   rw[e,lT];exact turn_if (b:=true) (ρ1:=[none,some (.tup [.str "of",.str x,.tup (aa ps)])]) rfl (by simp only[RX];rfl) λ_=>⟨by simp only[RX],rfl⟩
def ej {its:List Mx.D}:(its.flatMap fk).length<=its.length:=by
 have:=cy (f:=fk) (k:=1) (l:=its) λx _=>by unfold fk;split <;> simp
 omega
def gN {its:List Mx.D}:(its.flatMap pT).length<=its.length:=by
 have:=cy (f:=pT) (k:=1) (l:=its) λx _=>by unfold pT;split <;> simp
 omega
def gQ {its:List Mx.D} {t:Mx.D} {Q:Mx.D->Prop} (h:∀m∈its,ot Q m) (ht:t∈its.flatMap pT):t∈its/\∃x ps,t=ofT x ps/\ps.length<=3/\∀p∈ps,Q p:=by grind [pT,fy,ofT,ot]
def zw:Ts:=(.cons (.ifs (.or (.cmp .Eq (.mvr 1) (.lst .nil)) (.cmp .NotEq (.idx (.mvr 1) (.neg (.con (.int 1)))) (.var 2))) (.cons (.app 1 (.var 2)) .nil) .nil) .nil)
def oX:Ts:=(.cons (.asgM 1 (.lst .nil)) (.cons (.fr (.nm 2) (.seq (.bi .sorted (.cons (.var 0) .nil))) zw) (.cons (.ret (.mvr 1)) .nil)))
def uI {io N:Nat} (hf:fs[io]?=some ⟨1,3,false,oX⟩) (hN:1<=N) {ms:List Mx.D} (hc:iz ms=true) (hl:ms.length < 1000000) (hd:∀m∈ms,Mx.D.dep m<=90):aI fs N io [.lst (aa ms)] none= .ok (.lst (aa (uq none (aT ms))),none):=by
 have cP:lim=1000000:=rfl;have hs:=(jg hc).1;have sS:(aT ms).length=ms.length:=(bE ms).length_eq;have loop:=je (S:=none) (tg:= .nm 2) (ds:=aT ms) (ρ:=[some (.lst (aa ms)),some (.lst []),none]) (body:=aQ (aI fs (N - 1)) zw)
  (λp ρ=>∃z,ρ=[some (.lst (aa ms)),some (.lst (aa (uq none p))),z]) ⟨none,by simp[uq,aa]⟩ (by
   rintro p y q ρ e1 ⟨x2,rfl⟩;have gL:p.length < ms.length:=by rw[<-sS,e1];simp
   have Px:=mZ (a:=p) (p:=none);have hg:=uv (a:=p) (p:=none);rw[Option.or_none,Option.or_none] at hg;have ha:=xt (x:=y) (a:=p) (p:=none);rw[Option.or_none,<-hg] at ha;refine⟨[some (.lst (aa ms)),some (.lst (aa (uq none p))),some (ofD y)],[some (.lst (aa ms)),some (.lst (aa (uq none (p++[y])))),some (ofD y)],rfl,?_,some (ofD y),rfl⟩;rw[ha];rcases j7 (uq none p) with hu | ⟨us,u,hu⟩
   ·rw[hu];refine qP (S1:=none) rfl (cM (ds:=[]) (d:=ofD y) (S1:=none) rfl (by simp only[RX]) rfl (by simp) ?_);simp[uq,aa,aQ,Ts.app]
   ·have Kr:u∈ms:=bx.mp (by rw[e1];exact List.mem_append_left _ (iS (a:=p) (p:=none) (by rw[hu];simp)));have xP:∀m∈us++[u],Mx.D.dep m<=90:=λm hm=>hd m (bx.mp (by rw[e1];exact List.mem_append_left _ (iS (a:=p) (p:=none) (by rw[hu];exact hm))))
    have el:aa (us++[u])=aa us++[ofD u]:=by rw[aq];simp[aa]
    have oU:=eq_nil (ds:=aa us) (d:=ofD u) (by rw[<-el];exact nB _) (by rw[<-el,jd];have:=cC xP;omega);have hq:=tm (a:=u) (b:=y) (by have:=hd u Kr;omega);rw[hu,el];by_cases hz:u=y
    ·rw[Qs hz] at hq;refine lL (S1:=none) (by simp only[RX,oU,fI,hq];rfl) ?_;rw[aq,el];simp[uq,hz,aa,aQ,Ts.app]
    ·rw[Qo hz] at hq;refine qP (S1:=none) (by simp only[RX,oU,fI,hq];rfl) (cM (ds:=aa us++[ofD u]) (d:=ofD y) (S1:=none) rfl (by simp only[RX]) rfl (by rw[<-el,ab,<-hu];omega) ?_);rw[aq,el];simp[uq,hz,aa,aQ,Ts.app])
 obtain⟨ρ1,bf,z,rfl⟩:=loop;refine aB hf hN rfl ?_;show fin (aQ (aI fs (N - 1)) oX [some (.lst (aa ms)),none,none] none)=_;exact bw (d:= .lst []) (S1:=none) rfl rfl (bz (ds:=aa (aT ms)) (S1:=none) (by simp only[RX,hs]) rfl bf (ar (by simp only[RX])))
def A5 {f:Dt->Sx->R (List Dt×Sx)} {jf:List Mx.D} (h:∀(i:Nat) (y:Mx.D),jf[i]?=some y->f (.tup [.int i,ofD y]) none= .ok (if i≠0/\jf[i - 1]?=some y then[] else[ofD y],none)):a9 f (dI 0 (aa jf)) none= .ok (aa (uq none jf),none):=by
 have key:∀(post pre:List Mx.D),jf=pre++post->a9 f (dI pre.length (aa post)) none= .ok (aa (uq pre.getLast? post),none):=by
  intro post
  induction post with
  | nil=>intro pre _;simp[aa,dI,a9,uq]
  | cons x post ih=>
   intro pre e;have hx:jf[pre.length]?=some x:=by rw[e];simp
   have hi:=ih (pre++[x]) (by rw[e];simp);rw[Qf,List.getLast?_append] at hi;rw[aa,dI,a9,h _ _ hx,R.ax];rw[show pre.length + 1=pre.length + [x].length from rfl,hi,R.ax];have hc:(pre.length≠0/\jf[pre.length - 1]?=some x)↔pre.getLast?=some x:=by
    rcases j7 pre with rfl | ⟨a,z,rfl⟩
    ·simp
    ·rw[e];simp
   simp only[hc];rw[uq];split
   ·simp
   ·simp[aa]
 exact key jf [] rfl
def jH:Ts:=(.cons (.asg 1 (.bi .sorted (.cons (.comp [none,none] (.seq (.var 0)) (.nm 1) (.cons (.cmp .Eq (.idx (.var 1) (.con (.int 0))) (.con (.str "of"))) .nil) (.var 1)) .nil))) (.cons (.ret (.bi .tuple (.cons (.comp [none,none,none,some 1] (.enum (.var 1)) (.tp [1,2]) (.cons (.or (.cmp .Eq (.var 1) (.con (.int 0))) (.cmp .NotEq (.idx (.var 3) (.bin .Sub (.var 1) (.con (.int 1)))) (.var 2))) .nil) (.var 2)) .nil))) .nil))
def we {F:FT} {u:BI} {e:C} {ρ:ak} {S S1:Sx} {d d':Dt} (h:ev F e ρ S= .ok (d,S1)) (hb:dX u [d]= .ok d'):ev F (.bi u (.cons e .nil)) ρ S= .ok (d',S1):=by simp only[RX,h,hb]
def vm {it N n:Nat} (hf:fs[it]?=some ⟨1,2,false,jH⟩) (hN:1<=N) (hn:n<=8) {its:List Mx.D} (hl:its.length < 1000000) (h:∀m∈its,ot (ck n) m):aI fs N it [.lst (aa its)] none= .ok (.tup (aa (uq none (aT (its.flatMap pT)))),none):=by
 have cP:lim=1000000:=rfl;have ht:∀m∈its.flatMap pT,ot (ck n) m:=λm hm=>h m (gQ h hm).1
 have dh:=gN (its:=its);have hs:=(jg (lu hn (by omega) ht)).1;have sS:(aT (its.flatMap pT)).length=(its.flatMap pT).length:=(bE _).length_eq;generalize hz:aT (its.flatMap pT)=jf at hs sS;have hd:∀m∈jf,Mx.D.dep m<=90:=λm hm=>by have:=cH (n:=4 * n + 2) (λd hd=>bI hd) rfl (ht m (bx.mp (hz▸hm)));omega
 refine aB hf hN rfl ?_;show fin (aQ (aI fs (N - 1)) jH [some (.lst (aa its)),none] none)=_;refine aJ (d:= .lst (aa jf)) (S1:=none) (we (bA (ds:=aa its) (S1:=none) (by simp only[RX]) (by rw[ab];omega) rfl (jo h)) hs) rfl (ar (we (bA (ds:=dI 0 (aa jf)) (S1:=none) (by simp only[RX]) ?_ rfl (A5 λi y hy=>?_)) rfl))
 ·have:∀(l:List Dt) (i:Nat),(dI i l).length=l.length:=by
   intro l
   induction l with
   | nil=>intro i;rfl
   | cons x l ih=>intro i;simp[dI,ih]
  rw[this,ab];omega
 ·have My:=hd y (List.mem_iff_getElem?.mpr ⟨i,hy⟩);rw[show (if i≠0/\jf[i - 1]?=some y then([]:List Dt) else[ofD y])=if (!decide (i≠0/\jf[i - 1]?=some y))=true then[ofD y] else[] by by_cases q:i≠0/\jf[i - 1]?=some y <;> simp[q]];refine turn_if (ρ1:=[none,some (.int i),some (ofD y),some (.lst (aa jf))]) rfl ?_ λ_=>⟨by simp only[RX],rfl⟩
  by_cases h0:i=0
  ·subst h0;simp only[RX];rfl
  ·have e0:((i:Int)==0)=false:=by simpa using h0
   have cQ:i < jf.length:=(P0.mp hy).1;have Js:jf[i - 1]?=some (jf[i - 1]'(by omega)):=Qn _;generalize jf[i - 1]'(by omega)=w at Js;have lD:=(ec (ds:=aa jf) (k:=i - 1) (d:=ofD w) (by rw[aK,Qi,Js];rfl)).2;rw[show ((i - 1:Nat):Int)=(i:Int) - 1 by omega] at lD;have hq:=tm (a:=w) (b:=y) (by have:=hd w (List.mem_iff_getElem?.mpr ⟨i - 1,Js⟩);omega);simp only[RX,e0,lD,hq,Js];simp[h0]
def Bb (ii:Nat):Ts:=(.cons (.asg 1 (.comp [none,none] (.seq (.call ii (.cons (.var 0) .nil) [])) (.nm 1) (.cons (.cmp .Eq (.idx (.var 1) (.con (.int 0))) (.con (.str "any"))) .nil) (.idx (.var 1) (.con (.int 1))))) (.cons (.ret (.bi .tuple (.cons (.bi .sset (.cons (.var 1) .nil)) .nil))) .nil))
def vT:∀{n:Nat},n<=3->jE n<=628:=λ {n} h=>Qa (nJ h) (by decide)
def xE {iu ii N n:Nat} (hf:fs[iu]?=some ⟨1,2,false,Bb ii⟩) {d:Mx.D} (hn:n + 1<=3) (hN:1<=N) (hd:ck (n + 1) d) (hi:aI fs (N - 1) ii [ofD d] none= .ok (.lst (aa (bt (n + 1) d)),none)):aI fs N iu [ofD d] none= .ok (.tup (aa (aT ((dd ((bt (n + 1) d).flatMap fk)).map Mx.D.str))),none):=by have cP:lim=1000000:=rfl;have hl:=bq hd;have hb:=vT hn;have h2:=ej (its:=bt (n + 1) d);have J9:=tI (ys:=(bt (n + 1) d).flatMap fk) (d:= .lst (aa (((bt (n + 1) d).flatMap fk).map Mx.D.str))) rfl (by omega);refine aB hf hN rfl ?_;show fin (aQ (aI fs (N - 1)) (Bb ii) [some (ofD d),none] none)=_;exact aJ (d:= .lst (aa (((bt (n + 1) d).flatMap fk).map Mx.D.str))) (S1:=none) (bA (ds:=aa (bt (n + 1) d)) (S1:=none) (by simp only[RX,hi]) (by rw[ab];omega) rfl (kv λm hm=>hZ hd hm)) rfl (ar (we (we (by simp only[RX]) J9) rfl))
def fH (n:Nat) (a b:Mx.D):List Mx.D:=uq none (aT (((bt n a++bt n b).flatMap fk).map Mx.D.str))
def eI (n:Nat) (a b:Mx.D):List Mx.D:=uq none (aT ((bt n a++bt n b).flatMap pT))
def jK {a b:List Dt} (h:a.length + b.length<=lim):nh .Add (.tup a) (.tup b)= .ok (.tup (a++b)):=by show ag (decide (a.length + b.length<=lim)) _=_;rw[Qs h];rfl
def kb (iu:Nat):Ts:=(.cons (.ret (.bi .tuple (.cons (.bi .sset (.cons (.bin .Add (.call iu (.cons (.var 0) .nil) []) (.call iu (.cons (.var 1) .nil) [])) .nil)) .nil))) .nil)
def q5 {ino iu ii N n:Nat} (hf:fs[ino]?=some ⟨2,2,false,kb iu⟩) (hu:fs[iu]?=some ⟨1,2,false,Bb ii⟩) (hn:n + 1<=3) (hN:2<=N) {a b:Mx.D} (ha:ck (n + 1) a) (hb:ck (n + 1) b) (hi:∀d,ck (n + 1) d->aI fs (N - 1 - 1) ii [ofD d] none= .ok (.lst (aa (bt (n + 1) d)),none)):
  aI fs N ino [ofD a,ofD b] none= .ok (.tup (aa (fH (n + 1) a b)),none):=by
 have cP:lim=1000000:=rfl;have u1:=xE hu hn (N:=N - 1) (by omega) ha (hi a ha);have u2:=xE hu hn (N:=N - 1) (by omega) hb (hi b hb);have l1:=bq ha;have l2:=bq hb;have Fj:=vT hn;have n1:=ej (its:=bt (n + 1) a);have n2:=ej (its:=bt (n + 1) b);have d1:=Ke (l:=(bt (n + 1) a).flatMap fk);have d2:=Ke (l:=(bt (n + 1) b).flatMap fk);obtain⟨z1,e1,k1,m1⟩:=l0 (dd ((bt (n + 1) a).flatMap fk));obtain⟨z2,e2,k2,m2⟩:=l0 (dd ((bt (n + 1) b).flatMap fk));rw[e1] at u1;rw[e2] at u2;have ca:=jK (a:=aa (z1.map Mx.D.str)) (b:=aa (z2.map Mx.D.str)) (by rw[ab,ab,P8,P8];omega);rw[<-aq,<-QH] at ca;have J9:=tI (ys:=z1++z2) (d:= .tup (aa ((z1++z2).map Mx.D.str))) rfl (by rw[Qf];omega);have e3:aT ((dd (z1++z2)).map Mx.D.str)=fH (n + 1) a b:=by
  refine j3 (pA ?_) (lY (gX _) λ_ _ _ z=>by cases z).1 λx=>?_
  ·exact List.pairwise_map.mpr (LV.imp λh e=>h (by cases e;rfl))
  ·have hq:=yQ (x:=x) (a:=aT (((bt (n + 1) a++bt (n + 1) b).flatMap fk).map Mx.D.str)) (p:=none);simp only[reduceCtorEq,or_false] at hq;unfold fH;rw[hq,bx,bx,Qy,Qy,List.flatMap_append];constructor
   ·rintro⟨y,hy,rfl⟩;rw[B1,Ql,m1,m2,B1,B1,<-Ql] at hy;exact⟨y,hy,rfl⟩
   ·rintro⟨y,hy,rfl⟩;refine⟨y,?_,rfl⟩;rw[B1,Ql,m1,m2,B1,B1,<-Ql];exact hy
 rw[<-e3];refine aB hf (by omega) rfl ?_;show fin (aQ (aI fs (N - 1)) (kb iu) [some (ofD a),some (ofD b)] none)=_;exact ar (we (we (by simp only[RX,u1,u2,ca]) J9) rfl)
def ja (ii it:Nat):Ts:=(.cons (.ret (.call it (.cons (.bin .Add (.call ii (.cons (.var 0) .nil) []) (.call ii (.cons (.var 1) .nil) [])) .nil) [])) .nil)
def iQ {n:Nat} {a b:Mx.D} (ha:ck (n + 1) a) (hb:ck (n + 1) b):∀m∈bt (n + 1) a++bt (n + 1) b,ot (ck n) m:=λm hm=>(Ql.mp hm).elim (hZ ha) (hZ hb)
def qG {ito it ii N n:Nat} (hf:fs[ito]?=some ⟨2,2,false,ja ii it⟩) (ht:fs[it]?=some ⟨1,2,false,jH⟩) (hn:n + 1<=3) (hN:2<=N) {a b:Mx.D} (ha:ck (n + 1) a) (hb:ck (n + 1) b) (hi:∀d,ck (n + 1) d->aI fs (N - 1) ii [ofD d] none= .ok (.lst (aa (bt (n + 1) d)),none)):
  aI fs N ito [ofD a,ofD b] none= .ok (.tup (aa (eI (n + 1) a b)),none):=by
 have cP:lim=1000000:=rfl;have l1:=bq ha;have l2:=bq hb;have Fj:=vT hn;have ca:=jB (a:=aa (bt (n + 1) a)) (b:=aa (bt (n + 1) b)) (by rw[ab,ab];omega);rw[<-aq] at ca;have tk:=vm ht (N:=N - 1) (by omega) (n:=n) (by omega) (its:=bt (n + 1) a++bt (n + 1) b) (by rw[Qf];omega) (iQ ha hb);refine aB hf (by omega) rfl ?_;show fin (aQ (aI fs (N - 1)) (ja ii it) [some (ofD a),some (ofD b)] none)=_;exact ar (by simp only[RX,hi a ha,hi b hb,ca,tk];rfl)
def ow (il io:Nat):Ts:=(.cons (.asg 2 (.bin .Add (.call il (.cons (.var 0) .nil) []) (.call il (.cons (.var 1) .nil) []))) (.cons (.ret (.bi .tuple (.cons (.call io (.cons (.comp [none,none] (.seq (.var 2)) (.nm 1) (.cons (.cmp .Eq (.idx (.var 1) (.con (.int 0))) (.con (.str "any"))) .nil) (.idx (.var 1) (.con (.int 1)))) .nil) []) .nil))) .nil))
def kD (il io:Nat):Ts:=(.cons (.asg 2 (.bin .Add (.call il (.cons (.var 0) .nil) []) (.call il (.cons (.var 1) .nil) []))) (.cons (.ret (.bi .tuple (.cons (.call io (.cons (.comp [none,none] (.seq (.var 2)) (.nm 1) (.cons (.cmp .Eq (.idx (.var 1) (.con (.int 0))) (.con (.str "of"))) .nil) (.var 1)) .nil) []) .nil))) .nil))
def Cp {F:FT} {f:Nat} {e:C} {ρ:ak} {S S1:Sx} {d d':Dt} (h:ev F e ρ S= .ok (d,S1)) (hb:F f [d] none= .ok (d',none)):ev F (.call f (.cons e .nil) []) ρ S= .ok (d',S1):=by simp only[RX,h,hb]
def vy {iln il io N n:Nat} (hf:fs[iln]?=some ⟨2,3,false,ow il io⟩) (ho:fs[io]?=some ⟨1,3,false,oX⟩) (hn:n + 1<=3) (hN:2<=N) {a b:Mx.D} (ha:ck (n + 1) a) (hb:ck (n + 1) b) (hi:∀d,ck (n + 1) d->aI fs (N - 1) il [ofD d] none= .ok (.lst (aa (bt (n + 1) d)),none)):
  aI fs N iln [ofD a,ofD b] none= .ok (.tup (aa (fH (n + 1) a b)),none):=by
 have cP:lim=1000000:=rfl;have l1:=bq ha;have l2:=bq hb;have Fj:=vT hn;have IH:(bt (n + 1) a++bt (n + 1) b).length < 4000:=by rw[Qf];omega
 have ca:=jB (a:=aa (bt (n + 1) a)) (b:=aa (bt (n + 1) b)) (by rw[ab,ab];omega);rw[<-aq] at ca;have HH:=ej (its:=bt (n + 1) a++bt (n + 1) b);have ok:=uI ho (N:=N - 1) (by omega) (ms:=((bt (n + 1) a++bt (n + 1) b).flatMap fk).map Mx.D.str) (ya (by omega)) (by rw[P8];omega) (λm hm=>by obtain⟨y,_,rfl⟩:=Qy.mp hm;simp[Mx.D.dep]);refine aB hf (by omega) rfl ?_;show fin (aQ (aI fs (N - 1)) (ow il io) [some (ofD a),some (ofD b),none] none)=_;refine aJ (d:= .lst (aa (bt (n + 1) a++bt (n + 1) b))) (S1:=none) (by simp only[RX,hi a ha,hi b hb,ca]) rfl ?_;exact ar (we (Cp (bA (ds:=aa (bt (n + 1) a++bt (n + 1) b)) (S1:=none) (by simp only[RX]) (by rw[ab];omega) rfl (kv (iQ ha hb))) ok) rfl)
def rE {ilt il io N n:Nat} (hf:fs[ilt]?=some ⟨2,3,false,kD il io⟩) (ho:fs[io]?=some ⟨1,3,false,oX⟩) (hn:n + 1<=3) (hN:2<=N) {a b:Mx.D} (ha:ck (n + 1) a) (hb:ck (n + 1) b) (hi:∀d,ck (n + 1) d->aI fs (N - 1) il [ofD d] none= .ok (.lst (aa (bt (n + 1) d)),none)):
  aI fs N ilt [ofD a,ofD b] none= .ok (.tup (aa (eI (n + 1) a b)),none):=by
 have cP:lim=1000000:=rfl;have l1:=bq ha;have l2:=bq hb;have Fj:=vT hn;have IH:(bt (n + 1) a++bt (n + 1) b).length < 4000:=by rw[Qf];omega
 have ca:=jB (a:=aa (bt (n + 1) a)) (b:=aa (bt (n + 1) b)) (by rw[ab,ab];omega);rw[<-aq] at ca;have HH:=gN (its:=bt (n + 1) a++bt (n + 1) b);have ht:∀m∈(bt (n + 1) a++bt (n + 1) b).flatMap pT,ot (ck n) m:=λm hm=>iQ ha hb m (gQ (iQ ha hb) hm).1
 have ok:=uI ho (N:=N - 1) (by omega) (ms:=(bt (n + 1) a++bt (n + 1) b).flatMap pT) (lu (n:=n) (by omega) (by omega) ht) (by omega) (λm hm=>by have:=cH (n:=4 * n + 2) (λd hd=>bI hd) rfl (ht m hm);omega);refine aB hf (by omega) rfl ?_;show fin (aQ (aI fs (N - 1)) (kD il io) [some (ofD a),some (ofD b),none] none)=_;refine aJ (d:= .lst (aa (bt (n + 1) a++bt (n + 1) b))) (S1:=none) (by simp only[RX,hi a ha,hi b hb,ca]) rfl ?_;exact ar (we (Cp (bA (ds:=aa (bt (n + 1) a++bt (n + 1) b)) (S1:=none) (by simp only[RX]) (by rw[ab];omega) rfl (jo (iQ ha hb))) ok) rfl)
variable {fs:List Fn}
def IsT (n:Nat) (u:Mx.D):Prop:=∃x ps,u=ofT x ps/\ps.length<=3/\∀p∈ps,ck n p
def qf (n:Nat) (g:List Mx.D):Prop:=∃t r,g=t::r/\IsT n t/\∀u∈r,IsT n u/\(aP u).length=(aP t).length
def iW (x:Str) (ps:List Mx.D):aP (ofT x ps)=ps:=rfl
def pH:Ts:=(.cons (.ret (.and (.cmp .Eq (.idx (.var 0) (.con (.int 1))) (.idx (.var 1) (.con (.int 1)))) (.cmp .Eq (.bi .len (.cons (.idx (.var 0) (.con (.int 2))) .nil)) (.bi .len (.cons (.idx (.var 1) (.con (.int 2))) .nil))))) .nil)
def BC {il N n:Nat} (hf:fs[il]?=some ⟨2,2,false,pH⟩) (hN:1<=N) {t u:Mx.D} (ht:IsT n t) (hu:IsT n u):∃b,aI fs N il [ofD t,ofD u] none= .ok (.bl b,none)/\(b=true->(aP t).length=(aP u).length):=by
 obtain⟨x,ps,rfl,_⟩:=ht;obtain⟨y,qs,rfl,_⟩:=hu;rw[lT,lT,iW,iW];by_cases h:x=y
 ·refine⟨((aa ps).length:Int)==((aa qs).length:Int),aB hf hN rfl ?_,?_⟩
  ·show fin (aQ (aI fs (N - 1)) pH [some (.tup [.str "of",.str x,.tup (aa ps)]),some (.tup [.str "of",.str y,.tup (aa qs)])] none)=_;exact ar (by subst h;simp only[RX,beq_self_eq_true])
  ·intro z;have:=Qm z;rw[ab,ab] at this;omega
 ·refine⟨false,aB hf hN rfl ?_,λz=>by cases z⟩;show fin (aQ (aI fs (N - 1)) pH [some (.tup [.str "of",.str x,.tup (aa ps)]),some (.tup [.str "of",.str y,.tup (aa qs)])] none)=_;have e:(x==y)=false:=by simpa using h
  exact ar (by simp only[RX,e])
def u7 {f:Dt->Sx->R (List Dt×Sx)} {S:Sx} {m:Nat} (b:Nat->Bool) (h:∀i:Nat,i < m->f (.int i) S= .ok (if b i=true then[.int i] else[],S)):a9 f (bh 0 m) S= .ok (((List.range m).filter b).map λi:Nat=>Dt.int (i:Int),S):=by
 have key:∀l:List Nat,(∀i∈l,i < m)->a9 f (l.map λi:Nat=>Dt.int (0 + (i:Int))) S= .ok ((l.filter b).map λi:Nat=>Dt.int (i:Int),S):=by
  intro l
  induction l with
  | nil=>intro _;rfl
  | cons i l ih=>
   intro hl;rw[QG,a9,show (0 + (i:Int))=i by omega,h i (hl i P5),R.ax,ih λj hj=>hl j (P1 _ hj),R.ax];by_cases hb:b i=true
   ·rw[if_pos hb,List.filter_cons_of_pos hb];rfl
   ·rw[if_neg hb,List.filter_cons_of_neg hb];rfl
 exact key (List.range m) λi hi=>QJ.mp hi
def sum_set {g g':List Mx.D}:∀{gs:List (List Mx.D)} {i:Nat},gs[i]?=some g->g'.length=g.length + 1->((gs.set i g').map List.length).sum=(gs.map List.length).sum + 1
 | [],_,h,_=>by simp at h
 | a::gs,0,h,e=>by simp at h;subst h;simp;omega
 | a::gs,i + 1,h,e=>by have:=sum_set (gs:=gs) (i:=i) (by simpa using h) e;simp only[List.set_cons_succ,QG,List.sum_cons];omega
def gP {a:Nat}:∀{l:List Nat},a∈l->a<=l.sum
 | b::l,h=>by
  rcases Qb.mp h with rfl | h
  ·simp
  ·have:=gP h;simp;omega
def kF:∀{gs:List (List Mx.D)},(∀g∈gs,g≠[])->gs.length<=(gs.map List.length).sum
 | [],_=>by simp
 | g::gs,h=>by
  have h1:=h g P5;have h2:=kF λg hg=>h g (P1 _ hg)
  have:1<=g.length:=by cases g with | nil=>exact absurd rfl h1 | cons=>simp
  simp;omega
abbrev bZ (gs:List (List Mx.D)):List Mx.D:=gs.map Mx.D.tup
def mF (ip il:Nat):Ts:=(.cons (.asg 6 (.comp [none,none,some 3,some 4,some 2] (.rng1 (.bi .len (.cons (.mvr 3) .nil))) (.nm 1) (.cons (.call il (.cons (.idx (.idx (.mvr 2) (.var 1)) (.con (.int 0))) (.cons (.idx (.var 4) (.var 3)) .nil)) []) .nil) (.var 1))) (.cons (.asg 5 (.call ip (.cons (.var 0) (.cons (.bin .Add (.var 1) (.var 4)) (.cons (.bin .Add (.bi .len (.cons (.var 6) .nil)) (.con (.int 1))) .nil))) [])) (.cons (.ifs (.cmp .Eq (.var 5) (.bi .len (.cons (.var 6) .nil))) (.cons (.app 3 (.tup (.cons (.idx (.var 2) (.var 4)) .nil))) .nil) (.cons (.vc 3 (.idx (.var 6) (.var 5)) (.bin .Add (.idx (.mvr 3) (.idx (.var 6) (.var 5))) (.tup (.cons (.idx (.var 2) (.var 4)) .nil)))) .nil)) .nil)))
def kC (ip il:Nat):Ts:=(.cons (.asgM 3 (.lst .nil)) (.cons (.fr (.nm 4) (.rng1 (.bi .len (.cons (.var 2) .nil))) (mF ip il)) (.cons (.ret (.bi .tuple (.cons (.mvr 3) .nil))) .nil)))
def qO {ig ip il N n k:Nat} (hp:g0 fs ip) (hl:fs[il]?=some ⟨2,2,false,pH⟩) (hf:fs[ig]?=some ⟨3,7,false,kC ip il⟩) (hN:3<=N) (hk:k < 100000) {ns:List Int} {ts:List Mx.D} (Pk:ts.length<=10000) (ht:∀t∈ts,IsT n t):
  ∃gs,aI fs N ig [.br ns,.int k,.tup (aa ts)] none= .ok (.tup (aa (bZ gs)),none)/\(∀g∈gs,qf n g)/\(gs.map List.length).sum<=ts.length:=by
 have cP:lim=1000000:=rfl;have loop:=cw (S:=none) (tg:= .nm 4) (ds:=bh 0 ts.length) (ρ:=[some (.br ns),some (.int k),some (.tup (aa ts)),some (.lst []),none,none,none])
  (body:=aQ (aI fs (N - 1)) (mF ip il))
  (λpre ρ=>∃gs x y z,(∀g∈gs,qf n g)/\(gs.map List.length).sum=pre.length/\ρ=[some (.br ns),some (.int k),some (.tup (aa ts)),some (.lst (aa (bZ gs))),x,y,z]) ⟨[],none,none,none,by simp,rfl,by simp[aa]⟩ (by
   rintro pre x post ρ e ⟨gs,x,y,z,hg,Ab,rfl⟩;obtain⟨h1,rfl⟩:=dC e;have L9:=kF (gs:=gs) λg kr e=>by obtain⟨t,r,rfl,_⟩:=hg g kr;cases e
   have hj:ts[pre.length]?=some ts[pre.length]:=Qn h1;have Iz:=ht _ (List.getElem_mem h1);generalize ts[pre.length]=t at hj Iz;have zP:=(ec (ds:=aa ts) (k:=pre.length) (d:=ofD t) (by rw[aK,Qi,hj];rfl)).1;have hb:∀i:Nat,∃b:Bool,i < gs.length->(∃g t0 r,gs[i]?=some g/\g=t0::r/\aI fs (N - 1) il [ofD t0,ofD t] none= .ok (.bl b,none)/\(b=true->(aP t0).length=(aP t).length)):=by
    intro i;by_cases hi:i < gs.length
    ·obtain⟨t0,r,e0,h0,_⟩:=hg _ (List.getElem_mem hi);obtain⟨b,b1,b2⟩:=BC hl (N:=N - 1) (by omega) h0 Iz;exact⟨b,λ_=>⟨_,t0,r,Qn hi,e0,b1,b2⟩⟩
    ·exact⟨false,λz=>absurd z hi⟩
   let B:Nat->Bool:=λi=>(hb i).choose
   have hB:∀i,i < gs.length->(∃g t0 r,gs[i]?=some g/\g=t0::r/\aI fs (N - 1) il [ofD t0,ofD t] none= .ok (.bl (B i),none)/\(B i=true->(aP t0).length=(aP t).length)):=λi hi=>(hb i).choose_spec hi
   generalize B=b at hB;have hlen:dX .len [.lst (aa (bZ gs))]= .ok (.int gs.length):=by show R.ok (Dt.int ((aa (bZ gs)).length:Int))=_;rw[ab,P8]
   have xF:ev (aI fs (N - 1)) (.comp [none,none,some 3,some 4,some 2] (.rng1 (.bi .len (.cons (.mvr 3) .nil))) (.nm 1) (.cons (.call il (.cons (.idx (.idx (.mvr 2) (.var 1)) (.con (.int 0))) (.cons (.idx (.var 4) (.var 3)) .nil)) []) .nil) (.var 1)) [some (.br ns),some (.int k),some (.tup (aa ts)),some (.lst (aa (bZ gs))),some (.int pre.length),y,z] none= .ok (.lst (((List.range gs.length).filter b).map λi:Nat=>Dt.int (i:Int)),none):=by refine bA (ds:=bh 0 gs.length) (S1:=none) (eR (by simp only[RX,ab,P8]) (by omega)) (by simp[bh];omega) rfl (u7 b λi hi=>?_);obtain⟨g,t0,r,e1,e2,e3,_⟩:=hB i hi;have at2:=(ec (ds:=aa (bZ gs)) (k:=i) (d:= .tup (ofD t0::aa r)) (by rw[aK,Qi,Qi,e1,e2];simp[ofD,aa])).2;have GN:dm (.tup (ofD t0::aa r)) (.int 0)= .ok (ofD t0):=(ec (ds:=ofD t0::aa r) (k:=0) (d:=ofD t0) rfl).1;exact turn_if (ρ1:=[none,some (.int i),some (.lst (aa (bZ gs))),some (.int pre.length),some (.tup (aa ts))]) rfl (by simp only[RX,zP,at2,GN,e3]) λ_=>⟨by simp only[RX],rfl⟩
   have O4:((List.range gs.length).filter b).length<=gs.length:=by have:=List.length_filter_le b (List.range gs.length);rwa [List.length_range] at this
   have Nf:∀i∈(List.range gs.length).filter b,i < gs.length/\b i=true:=λi hi=>by have:=List.mem_filter.mp hi;exact⟨QJ.mp this.1,this.2⟩
   generalize (List.range gs.length).filter b=fl at xF O4 Nf;have pk:=jQ hp (n:=N - 1) (by omega) (ns:=ns) (k:=k + pre.length) (many:=fl.length + 1) (by omega) (by omega);have pl:=cF (ns:=ns) (k:=k + pre.length) (many:=fl.length + 1) (by omega);generalize bG ns (k + pre.length) (fl.length + 1)=w at pk pl;have Ng:aI fs (N - 1) ip [.br ns,.int ((k:Int) + pre.length),.int ((fl.length:Int) + 1)] none= .ok (.int w,none):=pk;have ln:dX .len [.lst (fl.map λi:Nat=>Dt.int (i:Int))]= .ok (.int fl.length):=by show R.ok (Dt.int (((fl.map λi:Nat=>Dt.int (i:Int)).length:Nat):Int))=_;rw[P8]
   by_cases hw:w=fl.length
   ·refine⟨_,_,rfl,cg (S1:=none) xF rfl (cg (d:= .int w) (S1:=none) (by simp only[RX,ln,Ng,P8]) rfl (qP (S1:=none) (by simp only[RX,hw,P8];simp) (cM (ds:=aa (bZ gs)) (d:= .tup [ofD t]) (S1:=none) rfl (by simp only[RX,zP]) rfl (by rw[ab,P8];omega) rfl))),gs++[[t]],some (.int pre.length),some (.int w),some (.lst (fl.map λi:Nat=>Dt.int (i:Int))),λg kr=>?_,?_,?_⟩
    ·rcases Ql.mp kr with kr | kr
     ·exact hg g kr
     ·rw[Qx] at kr;subst kr;exact⟨t,[],rfl,Iz,by simp⟩
    ·simp[Ab]
    ·simp[aK,bZ,ofD]
   ·have MH:w < fl.length:=by omega
    have hi:=Nf fl[w] (List.getElem_mem MH);have ML:fl[w]?=some fl[w]:=Qn MH;generalize fl[w]=i at hi ML;obtain⟨g,t0,r,e1,e2,e3,e4⟩:=hB i hi.1;have at2:=(ec (ds:=aa (bZ gs)) (k:=i) (d:= .tup (aa g)) (by rw[aK,Qi,Qi,e1];simp[ofD])).2;have M9:=(ec (ds:=fl.map λi:Nat=>Dt.int (i:Int)) (k:=w) (d:= .int i) (by rw[Qi,ML];rfl)).2;have OK:g.length<=ts.length:=by have zt:g.length∈gs.map List.length:=Qy.mpr ⟨g,List.mem_iff_getElem?.mpr ⟨i,e1⟩,rfl⟩;have:=gP zt;omega
    have ca:=jK (a:=aa g) (b:=[ofD t]) (by rw[ab,List.length_singleton];omega);have ne:((w:Int)==(fl.length:Int))=false:=by simp;omega
    refine⟨_,_,rfl,cg (S1:=none) xF rfl (cg (d:= .int w) (S1:=none) (by simp only[RX,ln,Ng,P8]) rfl (lL (S1:=none) (by simp only[RX,P8,ne]) (nx (uZ (ds:=aa (bZ gs)) (d:= .tup (aa g++[ofD t])) (S1:=none) (S2:=none) (n:=i) (j:=i) rfl (by simp only[RX,zP,at2,M9,ca]) (by simp only[RX,M9]) rfl (by unfold nv;rw[ab,P8,if_pos (by omega),if_pos (by omega)];simp)) rfl))),gs.set i (g++[t]),some (.int pre.length),some (.int w),some (.lst (fl.map λi:Nat=>Dt.int (i:Int))),λg' kr=>?_,?_,?_⟩
    ·rcases List.mem_or_eq_of_mem_set kr with kr | kr
     ·exact hg g' kr
     ·obtain⟨t1,r1,e5,h5,h6⟩:=hg g (List.mem_iff_getElem?.mpr ⟨i,e1⟩);rw[e2] at e5;cases e5;subst kr e2;refine⟨t0,r++[t],rfl,h5,λu hu=>?_⟩;rcases Ql.mp hu with hu | hu
      ·exact h6 u hu
      ·rw[Qx] at hu;subst hu;exact⟨Iz,(e4 hi.2).symm⟩
    ·rw[sum_set e1 (by simp),Ab];simp
    ·have:(aa (bZ gs)).set i (.tup (aa g++[ofD t]))=aa (bZ (gs.set i (g++[t]))):=by simp only[bZ,aK,List.map_set];simp[ofD,aK]
     rw[<-this];rfl)
 obtain⟨ρ1,bf,gs,x,y,z,hg,Ab,rfl⟩:=loop;refine⟨gs,aB hf (by omega) rfl ?_,hg,by rw[Ab];simp[bh]⟩;show fin (aQ (aI fs (N - 1)) (kC ip il) [some (.br ns),some (.int k),some (.tup (aa ts)),none,none,none,none] none)=_;exact bw (d:= .lst []) (S1:=none) rfl rfl (bz (ds:=bh 0 ts.length) (S1:=none) (eR (n:=ts.length) (by simp only[RX,ab]) (by omega)) rfl bf (ar (by simp only[RX])))
variable {fs:List Fn}
def zr {α:Type} {enc:α->Dt} {tg:Tg} {body:ak->Sx->RS} {ds:List α} {ρ:ak} {S:Sx} (P:List α->ak->Prop) (h0:P [] ρ)
  (step:∀pre x post ρ,ds=pre++x::post->P pre ρ->∃ρ1 ρ2,cA tg (enc x) ρ= .ok ρ1/\body ρ1 S= .ok (.next,ρ2,S)/\P (pre++[x]) ρ2):∃ρ',forL tg body (ds.map enc) ρ S= .ok (.next,ρ',S)/\P ds ρ':=by
 have key:∀(post pre:List α) (ρ:ak),ds=pre++post->P pre ρ->∃ρ',forL tg body (post.map enc) ρ S= .ok (.next,ρ',S)/\P ds ρ':=by
  intro post
  induction post with
  | nil=>intro pre ρ e h;rw[QC] at e;subst e;exact⟨ρ,rfl,h⟩
  | cons x post ih=>intro pre ρ e h;obtain⟨ρ1,ρ2,h1,h2,h3⟩:=step pre x post ρ e h;obtain⟨ρ',h4,h5⟩:=ih (pre++[x]) ρ2 (by rw[e];simp) h3;refine⟨ρ',?_,h5⟩;rw[QG,forL,h1,R.ax,h2,R.ax];exact h4
 exact key ds [] ρ rfl h0
def dz (ps qs:List Mx.D):List Mx.D:=List.zipWith (λp q=>Mx.D.tup [p,q]) ps qs
def vK:List Mx.D->List Mx.D
 | t::r=>r.flatMap λu=>dz (aP t) (aP u)
 | []=>[]
def bR (gs:List (List Mx.D)) (one other:Mx.D):List Mx.D:= .tup [one,other]::gs.flatMap vK
def kN {ps qs:List Mx.D}:(dz ps qs).length<=qs.length:=by simp[dz];omega
def yG {n:Nat} {g:List Mx.D} (h:qf n g):(vK g).length<=3 * g.length:=by
 obtain⟨t,r,rfl,_,hr⟩:=h;have:=cy (f:=λu=>dz (aP t) (aP u)) (k:=3) (l:=r) λu hu=>by obtain⟨⟨x,ps,rfl,h1,_⟩,_⟩:=hr u hu;exact Qa kN h1
 simp only[vK,Qh];omega
def kX {n:Nat}:∀{gs:List (List Mx.D)},(∀g∈gs,qf n g)->(gs.flatMap vK).length<=3 * (gs.map List.length).sum
 | [],_=>by simp
 | g::gs,h=>by
  have h1:=yG (h g P5);have h2:=kX λg hg=>h g (P1 _ hg)
  rw[List.flatMap_cons,Qf,QG,List.sum_cons];omega
def ug:∀{ps qs:List Mx.D},dR (aa ps) (aa qs)=aa (dz ps qs)
 | [],qs=>by simp[dR,dz,aa]
 | _::_,[]=>by simp[dR,dz,aa]
 | p::ps,q::qs=>by have:=ug (ps:=ps) (qs:=qs);simp only[dR,dz,aa,List.zipWith_cons_cons] at this ⊢;rw[this];simp[ofD,aa]
def L6 {d:Dt} {ds:List Dt}:iB (.tup (d::ds)) (some 1) none= .ok (.tup ds):=by
 show R.ok (Dt.tup (cutD (d::ds) (some 1) none))=_;have:cutD (d::ds) (some 1) none=ds:=by unfold cutD;simp[HT.bQ]
 rw[this]
def JG {d:Dt} {ds:List Dt}:dm (.tup (d::ds)) (.int 0)= .ok d:=(ec (ds:=d::ds) (k:=0) rfl).1
def tM (gs:List (List Mx.D)):aa (bZ gs)=gs.map λg=>Dt.tup (aa g):=by simp[bZ,aK,ofD]
def An {gs pre post:List (List Mx.D)} {x:List Mx.D} (e:gs=pre++x::post):(pre.map List.length).sum + x.length<=(gs.map List.length).sum:=by rw[e];simp
def wN:Ts:=(.cons (.asgM 3 (.lst (.cons (.tup (.cons (.var 1) (.cons (.var 2) .nil))) .nil))) (.cons (.fr (.nm 4) (.seq (.var 0)) (.cons (.fr (.nm 5) (.seq (.sliL (.var 4) (.con (.int 1)))) (.cons (.xtd 3 (.bi .zipL (.cons (.idx (.idx (.var 4) (.con (.int 0))) (.con (.int 2))) (.cons (.idx (.var 5) (.con (.int 2))) .nil)))) .nil)) .nil)) (.cons (.ret (.mvr 3)) .nil)))
def uY:Ts:=(.cons (.asgM 3 (.lst (.cons (.tup (.cons (.var 1) (.cons (.var 2) .nil))) .nil))) (.cons (.fr (.nm 4) (.seq (.var 0)) (.cons (.fr (.nm 5) (.seq (.sliL (.var 4) (.con (.int 1)))) (.cons (.fr (.nm 6) (.rng1 (.bi .len (.cons (.idx (.var 5) (.con (.int 2))) .nil))) (.cons (.app 3 (.tup (.cons (.idx (.idx (.idx (.var 4) (.con (.int 0))) (.con (.int 2))) (.var 6)) (.cons (.idx (.idx (.var 5) (.con (.int 2))) (.var 6)) .nil)))) .nil)) .nil)) .nil)) (.cons (.ret (.mvr 3)) .nil)))
def mS {F:FT} {b:Ts} {n:Nat} {e0:List (Option Dt)} {gs:List (List Mx.D)} {one other:Mx.D} (R:ak->Prop) (hR:R e0) (hg:∀g∈gs,qf n g) (hs:(gs.map List.length).sum<=10000)
  (step:∀(x y:Str) (ps qs r acc:List Mx.D) (e:ak),R e->ps.length<=3->qs.length=ps.length->acc.length<=100000->∃e',R e'/\aQ F b ([some (.tup (aa (bZ gs))),some (ofD one),some (ofD other),some (.lst (aa acc)),some (.tup (ofD (ofT x ps)::aa r)),some (ofD (ofT y qs))]++e) none= .ok (.next,[some (.tup (aa (bZ gs))),some (ofD one),some (ofD other),some (.lst (aa (acc++dz ps qs))),some (.tup (ofD (ofT x ps)::aa r)),some (ofD (ofT y qs))]++e',none)):
  fin (aQ F (.cons (.asgM 3 (.lst (.cons (.tup (.cons (.var 1) (.cons (.var 2) .nil))) .nil))) (.cons (.fr (.nm 4) (.seq (.var 0)) (.cons (.fr (.nm 5) (.seq (.sliL (.var 4) (.con (.int 1)))) b) .nil)) (.cons (.ret (.mvr 3)) .nil))) ([some (.tup (aa (bZ gs))),some (ofD one),some (ofD other),none,none,none]++e0) none)= .ok (.lst (aa (bR gs one other)),none):=by
 have loop:=zr (S:=none) (enc:=λg:List Mx.D=>Dt.tup (aa g)) (tg:= .nm 4) (ds:=gs) (ρ:=[some (.tup (aa (bZ gs))),some (ofD one),some (ofD other),some (.lst (aa [.tup [one,other]])),none,none]++e0) (body:=aQ F (.cons (.fr (.nm 5) (.seq (.sliL (.var 4) (.con (.int 1)))) b) .nil))
  (λpre ρ=>∃x y e,R e/\ρ=[some (.tup (aa (bZ gs))),some (ofD one),some (ofD other),some (.lst (aa (bR pre one other))),x,y]++e) ⟨none,none,e0,hR,by simp[bR]⟩ (by
   rintro pre g post ρ e ⟨x,y,e1,NS,rfl⟩;have ml:=An e;have gL:=kX (gs:=pre) λg' kr=>hg g' (by rw[e];simp[kr])
   obtain⟨t,r,rfl,⟨tx,ps,rfl,yo,_⟩,hr⟩:=hg g (by rw[e];simp);have inner:=je (S:=none) (tg:= .nm 5) (ds:=r) (ρ:=[some (.tup (aa (bZ gs))),some (ofD one),some (ofD other),some (.lst (aa (bR pre one other))),some (.tup (ofD (ofT tx ps)::aa r)),y]++e1) (body:=aQ F b)
    (λp ρ=>∃y e,R e/\ρ=[some (.tup (aa (bZ gs))),some (ofD one),some (ofD other),some (.lst (aa (bR pre one other++p.flatMap λu=>dz ps (aP u)))),some (.tup (ofD (ofT tx ps)::aa r)),y]++e) ⟨y,e1,NS,by simp⟩ (by
     rintro p u q ρ e2 ⟨y2,e3,Ka,rfl⟩;obtain⟨⟨ux,qs,rfl,Ph,_⟩,DJ⟩:=hr u (by rw[e2];simp);have Os:=cy (f:=λu=>dz ps (aP u)) (k:=3) (l:=p) λu' Kr=>by obtain⟨⟨x',FB,rfl,gS,_⟩,_⟩:=hr u' (by rw[e2];simp[Kr]);exact Qa kN gS
     have PJ:p.length<=r.length:=by rw[e2];simp
     obtain⟨e',OD,Fs⟩:=step tx ux ps qs r (bR pre one other++p.flatMap λu=>dz ps (aP u)) e3 Ka yo DJ (by rw[Qf,bR,Qh];simp only[Qh] at ml;omega);refine⟨_,_,rfl,Fs,some (ofD (ofT ux qs)),e',OD,?_⟩;rw[List.flatMap_append,<-Qd];simp[iW])
   obtain⟨ρ3,Fq,y3,e3,Ka,rfl⟩:=inner;refine⟨_,_,rfl,nG (ds:=aa r) (S1:=none) ?_ rfl Fq rfl,some (.tup (ofD (ofT tx ps)::aa r)),y3,e3,Ka,?_⟩
   ·have c1:=L6 (d:=ofD (ofT tx ps)) (ds:=aa r);simp only[List.cons_append,List.nil_append,RX,aa,c1]
   ·have:bR (pre++[ofT tx ps::r]) one other=bR pre one other++r.flatMap λu=>dz ps (aP u):=by simp[bR,vK,iW]
    rw[this])
 obtain⟨ρ1,bf,x,y,e,_,rfl⟩:=loop;rw[<-tM] at bf;refine bw (d:= .lst (aa [.tup [one,other]])) (S1:=none) ?_ rfl (bz (ds:=aa (bZ gs)) (S1:=none) ?_ rfl bf (ar ?_))
 ·simp only[List.cons_append,RX];simp[ofD,aa]
 ·simp only[List.cons_append,RX]
 ·simp only[List.cons_append,RX]
def xM {ib N n:Nat} (hf:fs[ib]?=some ⟨3,6,false,wN⟩) (hN:1<=N) {gs:List (List Mx.D)} {one other:Mx.D} (hg:∀g∈gs,qf n g) (hs:(gs.map List.length).sum<=10000):aI fs N ib [.tup (aa (bZ gs)),ofD one,ofD other] none= .ok (.lst (aa (bR gs one other)),none):=by
 have cP:lim=1000000:=rfl;refine aB hf hN rfl (mS (e0:=[]) (λe=>e=[]) rfl hg hs ?_);rintro x y ps qs r acc e rfl hp hq ha;have hz:=kN (ps:=ps) (qs:=qs);refine⟨[],rfl,yY (ds:=aa acc) (es:=aa (dz ps qs)) (S1:=none) rfl ?_ (Nat.le_of_ble_eq_true rfl) (by rw[ab,ab];omega) (by rw[aq];rfl)⟩;have zz:dX .zipL [.tup (aa ps),.tup (aa qs)]= .ok (.lst (aa (dz ps qs))):=by show ag (decide ((aa ps).length<=lim)) (R.ok (Dt.lst (dR (aa ps) (aa qs))))=_;rw[Qs (by rw[ab];omega),ug];rfl
 simp only[QC,lT,RX,JG,zz]
def vo {ib N n:Nat} (hf:fs[ib]?=some ⟨3,7,false,uY⟩) (hN:1<=N) {gs:List (List Mx.D)} {one other:Mx.D} (hg:∀g∈gs,qf n g) (hs:(gs.map List.length).sum<=10000):aI fs N ib [.tup (aa (bZ gs)),ofD one,ofD other] none= .ok (.lst (aa (bR gs one other)),none):=by
 have cP:lim=1000000:=rfl;refine aB hf hN rfl (mS (e0:=[none]) (λe=>∃x,e=[x]) ⟨none,rfl⟩ hg hs ?_);rintro x y ps qs r acc e ⟨w,rfl⟩ hp hq ha;have loop:=cw (S:=none) (tg:= .nm 6) (ds:=bh 0 qs.length) (ρ:=[some (.tup (aa (bZ gs))),some (ofD one),some (ofD other),some (.lst (aa acc)),some (.tup (ofD (ofT x ps)::aa r)),some (ofD (ofT y qs)),w]) (body:=aQ (aI fs (N - 1)) (.cons (.app 3 (.tup (.cons (.idx (.idx (.idx (.var 4) (.con (.int 0))) (.con (.int 2))) (.var 6)) (.cons (.idx (.idx (.var 5) (.con (.int 2))) (.var 6)) .nil)))) .nil))
  (λpre ρ=>∃w,ρ=[some (.tup (aa (bZ gs))),some (ofD one),some (ofD other),some (.lst (aa (acc++(dz ps qs).take pre.length))),some (.tup (ofD (ofT x ps)::aa r)),some (ofD (ofT y qs)),w]) ⟨w,by simp⟩ (by
   rintro pre v post ρ e ⟨w,rfl⟩;obtain⟨h1,rfl⟩:=dC e;have e1:ps[pre.length]?=some (ps[pre.length]'(by omega)):=Qn _;have e2:qs[pre.length]?=some (qs[pre.length]'(by omega)):=Qn _;generalize ps[pre.length]'(by omega)=p at e1;generalize qs[pre.length]'(by omega)=q at e2;have a1:=(ec (ds:=aa ps) (k:=pre.length) (d:=ofD p) (by rw[aK,Qi,e1];rfl)).1;have a2:=(ec (ds:=aa qs) (k:=pre.length) (d:=ofD q) (by rw[aK,Qi,e2];rfl)).1;have hz:(dz ps qs)[pre.length]?=some (.tup [p,q]):=by simp[dz,List.getElem?_zipWith,e1,e2]
   have Pr:((dz ps qs).take pre.length).length<=3:=by rw[List.length_take];omega
   refine⟨_,_,rfl,cM (ds:=aa (acc++(dz ps qs).take pre.length)) (d:= .tup [ofD p,ofD q]) (S1:=none) rfl (by simp only[lT,RX,JG,a1,a2]) rfl (by rw[ab,Qf];omega) rfl,some (.int pre.length),?_⟩;rw[Qf,List.length_singleton,List.take_add_one,hz,<-Qd,aq (acc++_)];simp[ofD,aa])
 obtain⟨ρ1,bf,w',rfl⟩:=loop;refine⟨[w'],⟨w',rfl⟩,nG (ds:=bh 0 qs.length) (S1:=none) (eR (n:=qs.length) (by simp only[List.cons_append,lT,RX,ab]) (by omega)) rfl bf ?_⟩;have:(dz ps qs).take (bh 0 qs.length).length=dz ps qs:=List.take_of_length_le (by simp[bh,dz];omega);rw[this];rfl
def AF (item:Mx.D):Mx.D->List Int
 | .tup [it,.int c]=>if it=item then[c] else[]
 | _=>[]
def d8 (item:Mx.D):Mx.D->Int
 | .tup rs=>(rs.flatMap (AF item)).sum
 | _=>0
def ra:Ts:=(.cons (.ret (.bi .sum (.cons (.comp [none,none,none,some 1] (.seq (.var 0)) (.tp [1,2]) (.cons (.cmp .Eq (.var 1) (.var 3)) .nil) (.var 2)) .nil))) .nil)
theorem ie:∀ns:List Int,intsOf (ns.map Dt.int)=some ns
 | []=>rfl
 | n::ns=>by simp[intsOf,ie ns]
def yg (ns:List Int):dX .sum [.lst (ns.map Dt.int)]= .ok (.int ns.sum):=by grind [intsOf,ie,dX]
def iZ {it N m:Nat} (hf:fs[it]?=some ⟨2,2,false,ra⟩) (hN:1<=N) (hm:m<=8) {d item:Mx.D} (hd:ck m d):aI fs N it [ofD d,ofD item] none= .ok (.int (d8 item d),none):=by
 have cP:lim=1000000:=rfl;obtain⟨m,rfl⟩:∃k,m=k + 1:=by cases m with | zero=>exact hd.elim | succ m=>exact⟨m,rfl⟩
 obtain⟨rs,rfl,hl,hr⟩:=hd;have hc:a9 (bJ (.tp [1,2]) (cU (aI fs (N - 1)) (.cons (.cmp .Eq (.var 1) (.var 3)) .nil)) (dk (aI fs (N - 1)) (.var 2)) [none,none,none,some (ofD item)]) (aa rs) none= .ok ((rs.flatMap (AF item)).map Dt.int,none):=by rw[fV (λr=>(AF item r).map Dt.int) λr cX=>?_,iH];obtain⟨i,c,rfl,hi⟩:=hr r cX;have Nk:=cH (n:=4 * m + 2) (λd hd=>bI hd) rfl hi;have hq:=tu (a:=i) (b:=item) (by omega);refine(turn_if (b:=decide (i=item)) (y:= .int c) (ρ1:=[none,some (ofD i),some (.int c),some (ofD item)]) (by simp[ofD,aa,cA,dZ]) (by simp only[RX,hq]) λ_=>⟨by simp only[RX],rfl⟩).trans ?_;by_cases h:i=item <;> simp[AF,h]
 refine aB hf hN rfl ?_;show fin (aQ (aI fs (N - 1)) ra [some (ofD (.tup rs)),some (ofD item)] none)=_;exact ar (we (bA (ds:=aa rs) (S1:=none) (by simp only[RX,ofD]) (by rw[ab];omega) rfl hc) (yg _))
def Je (m:Nat) (pr:Mx.D):Prop:=∃p q,pr= .tup [p,q]/\ck m p/\ck m q
def anyOf (nm:Mx.D):Mx.D:= .tup [.str "any",nm]
def fh (nms:List Mx.D):Mx.D->Mx.D
 | .tup [p,q]=> .tup (nms.map λnm=> .int (d8 (anyOf nm) p - d8 (anyOf nm) q))
 | d=>d
def eJ (g:List Mx.D):Mx.D->Mx.D
 | .tup [p,q]=> .int (g.map λu=>d8 u q - d8 u p).sum
 | d=>d
def gU {f:Dt->Sx->R (List Dt×Sx)} {S:Sx} (g:Mx.D->Mx.D) {ds:List Mx.D} (h:∀m∈ds,f (ofD m) S= .ok ([ofD (g m)],S)):a9 f (aa ds) S= .ok (aa (ds.map g),S):=by rw[fV (λm=>[ofD (g m)]) h];congr 2;rw[aK,List.map_map];exact fM _ _
def xg (nm:Mx.D):ofD (anyOf nm)= .tup [.str "any",ofD nm]:=by simp[anyOf,ofD,aa]
def qX (p q:Mx.D):ofD (.tup [p,q])= .tup [ofD p,ofD q]:=by simp[ofD,aa]
def Ct (i:Int):ofD (.int i)= .int i:=by simp[ofD]
def uE (l:List Mx.D):ofD (.tup l)= .tup (aa l):=by simp[ofD]
def zi (it:Nat):Ts:=(.cons (.asgM 2 (.lst .nil)) (.cons (.fr (.tp [3,4]) (.seq (.var 0)) (.cons (.app 2 (.bi .tuple (.cons (.comp [none,none,some 3,some 4] (.seq (.var 1)) (.nm 1) .nil (.bin .Sub (.call it (.cons (.var 2) (.cons (.tup (.cons (.con (.str "any")) (.cons (.var 1) .nil))) .nil)) []) (.call it (.cons (.var 3) (.cons (.tup (.cons (.con (.str "any")) (.cons (.var 1) .nil))) .nil)) []))) .nil))) .nil)) (.cons (.ret (.mvr 2)) .nil)))
def wI {ir it N m:Nat} (hf:fs[ir]?=some ⟨2,5,false,zi it⟩) (ht:fs[it]?=some ⟨2,2,false,ra⟩) (hN:2<=N) (hm:m<=8) {bs nms:List Mx.D} {dB dN:Dt} (hB:itemsOf dB=some (aa bs)) (Dl:itemsOf dN=some (aa nms)) (hb:∀b∈bs,Je m b) (Bz:bs.length<=100000) (HH:nms.length<=100000):
  aI fs N ir [dB,dN] none= .ok (.lst (aa (bs.map (fh nms))),none):=by
 have cP:lim=1000000:=rfl;have loop:=je (S:=none) (tg:= .tp [3,4]) (ds:=bs) (ρ:=[some dB,some dN,some (.lst []),none,none]) (body:=aQ (aI fs (N - 1)) (.cons (.app 2 (.bi .tuple (.cons (.comp [none,none,some 3,some 4] (.seq (.var 1)) (.nm 1) .nil (.bin .Sub (.call it (.cons (.var 2) (.cons (.tup (.cons (.con (.str "any")) (.cons (.var 1) .nil))) .nil)) []) (.call it (.cons (.var 3) (.cons (.tup (.cons (.con (.str "any")) (.cons (.var 1) .nil))) .nil)) []))) .nil))) .nil))
  (λpre ρ=>∃x y,ρ=[some dB,some dN,some (.lst (aa (pre.map (fh nms)))),x,y]) ⟨none,none,by simp[aa]⟩ (by
   rintro pre b post ρ e ⟨x,y,rfl⟩;obtain⟨p,q,rfl,hp,hq⟩:=hb b (by rw[e];simp);have gL:pre.length<=bs.length:=by rw[e];simp
   have hc:a9 (bJ (.nm 1) (cU (aI fs (N - 1)) .nil) (dk (aI fs (N - 1)) (.bin .Sub (.call it (.cons (.var 2) (.cons (.tup (.cons (.con (.str "any")) (.cons (.var 1) .nil))) .nil)) []) (.call it (.cons (.var 3) (.cons (.tup (.cons (.con (.str "any")) (.cons (.var 1) .nil))) .nil)) []))) [none,none,some (ofD p),some (ofD q)]) (aa nms) none= .ok (aa (nms.map λnm=> .int (d8 (anyOf nm) p - d8 (anyOf nm) q)),none):=by
    refine gU (λnm=> .int (d8 (anyOf nm) p - d8 (anyOf nm) q)) λnm _=>?_
    have t1:=iZ ht (N:=N - 1) (by omega) hm (item:=anyOf nm) hp;have t2:=iZ ht (N:=N - 1) (by omega) hm (item:=anyOf nm) hq;rw[xg] at t1 t2;rw[Ct];exact dE (ρ1:=[none,some (ofD nm),some (ofD p),some (ofD q)]) rfl (by simp only[RX,t1,t2]) rfl
   refine⟨[some dB,some dN,some (.lst (aa (pre.map (fh nms)))),some (ofD p),some (ofD q)],_,by rw[qX];rfl,cM (ds:=aa (pre.map (fh nms))) (S1:=none) rfl (we (bA (ds:=aa nms) (S1:=none) (fG (by simp only[RX]) Dl) (by rw[ab];omega) rfl hc) rfl) rfl (by rw[ab,P8];omega) rfl,some (ofD p),some (ofD q),?_⟩;rw[QH,aq];simp[fh,ofD,aa])
 obtain⟨ρ1,bf,x,y,rfl⟩:=loop;refine aB hf (by omega) rfl ?_;show fin (aQ (aI fs (N - 1)) (zi it) [some dB,some dN,none,none,none] none)=_;exact bw (d:= .lst []) (S1:=none) rfl rfl (bz (ds:=aa bs) (S1:=none) (fG (by simp only[RX]) hB) rfl bf (ar (by simp only[RX])))
def Ds (it:Nat):Ts:=(.cons (.asg 2 (.comp [none,none] (.seq (.var 1)) (.nm 1) .nil (.tup (.cons (.con (.str "any")) (.cons (.var 1) .nil))))) (.cons (.ret (.comp [none,none,none,some 2] (.seq (.var 0)) (.tp [1,2]) .nil (.bi .tuple (.cons (.comp [none,none,some 1,some 2] (.seq (.var 3)) (.nm 1) .nil (.bin .Sub (.call it (.cons (.var 2) (.cons (.var 1) .nil)) []) (.call it (.cons (.var 3) (.cons (.var 1) .nil)) []))) .nil)))) .nil))
def Ed {ir it N m:Nat} (hf:fs[ir]?=some ⟨2,3,false,Ds it⟩) (ht:fs[it]?=some ⟨2,2,false,ra⟩) (hN:2<=N) (hm:m<=8) {bs nms:List Mx.D} {dB dN:Dt} (hB:itemsOf dB=some (aa bs)) (Dl:itemsOf dN=some (aa nms)) (hb:∀b∈bs,Je m b) (Bz:bs.length<=100000) (HH:nms.length<=100000):
  aI fs N ir [dB,dN] none= .ok (.lst (aa (bs.map (fh nms))),none):=by
 have cP:lim=1000000:=rfl;have h1:a9 (bJ (.nm 1) (cU (aI fs (N - 1)) .nil) (dk (aI fs (N - 1)) (.tup (.cons (.con (.str "any")) (.cons (.var 1) .nil)))) [none,none]) (aa nms) none= .ok (aa (nms.map anyOf),none):=
  gU anyOf λnm _=>by rw[xg];exact dE (ρ1:=[none,some (ofD nm)]) rfl (by simp only[RX]) rfl
 have h2:a9 (bJ (.tp [1,2]) (cU (aI fs (N - 1)) .nil) (dk (aI fs (N - 1)) (.bi .tuple (.cons (.comp [none,none,some 1,some 2] (.seq (.var 3)) (.nm 1) .nil (.bin .Sub (.call it (.cons (.var 2) (.cons (.var 1) .nil)) []) (.call it (.cons (.var 3) (.cons (.var 1) .nil)) []))) .nil))) [none,none,none,some (.lst (aa (nms.map anyOf)))]) (aa bs) none= .ok (aa (bs.map (fh nms)),none):=by
  refine gU (fh nms) λb jA=>?_
  obtain⟨p,q,rfl,hp,hq⟩:=hb b jA;have h3:a9 (bJ (.nm 1) (cU (aI fs (N - 1)) .nil) (dk (aI fs (N - 1)) (.bin .Sub (.call it (.cons (.var 2) (.cons (.var 1) .nil)) []) (.call it (.cons (.var 3) (.cons (.var 1) .nil)) []))) [none,none,some (ofD p),some (ofD q)]) (aa (nms.map anyOf)) none= .ok (aa ((nms.map anyOf).map λnm=> .int (d8 nm p - d8 nm q)),none):=by
   refine gU (λnm=> .int (d8 nm p - d8 nm q)) λnm _=>?_
   have t1:=iZ ht (N:=N - 1) (by omega) hm (item:=nm) hp;have t2:=iZ ht (N:=N - 1) (by omega) hm (item:=nm) hq;rw[Ct];exact dE (ρ1:=[none,some (ofD nm),some (ofD p),some (ofD q)]) rfl (by simp only[RX,t1,t2]) rfl
  rw[show ofD (fh nms (.tup [p,q]))= .tup (aa ((nms.map anyOf).map λnm=> .int (d8 nm p - d8 nm q))) by simp only[fh,ofD,List.map_map];rfl];exact dE (ρ1:=[none,some (ofD p),some (ofD q),some (.lst (aa (nms.map anyOf)))]) (by rw[qX];rfl) (we (bA (ds:=aa (nms.map anyOf)) (S1:=none) (fG (d:= .lst (aa (nms.map anyOf))) (by simp only[RX]) rfl) (by rw[ab,P8];omega) rfl h3) rfl) rfl
 refine aB hf (by omega) rfl ?_;show fin (aQ (aI fs (N - 1)) (Ds it) [some dB,some dN,none] none)=_;exact aJ (d:= .lst (aa (nms.map anyOf))) (S1:=none) (bA (ds:=aa nms) (S1:=none) (fG (by simp only[RX]) Dl) (by rw[ab];omega) rfl h1) rfl (ar (bA (ds:=aa bs) (S1:=none) (fG (by simp only[RX]) hB) (by rw[ab];omega) rfl h2))
def nW (it:Nat):Ts:=(.cons (.asgM 2 (.lst .nil)) (.cons (.fr (.tp [3,4]) (.seq (.var 0)) (.cons (.app 2 (.bi .sum (.cons (.comp [none,none,some 3,some 4] (.seq (.var 1)) (.nm 1) .nil (.bin .Sub (.call it (.cons (.var 3) (.cons (.var 1) .nil)) []) (.call it (.cons (.var 2) (.cons (.var 1) .nil)) []))) .nil))) .nil)) (.cons (.ret (.bi .tuple (.cons (.mvr 2) .nil))) .nil)))
def qc {ir it N m:Nat} (hf:fs[ir]?=some ⟨2,5,false,nW it⟩) (ht:fs[it]?=some ⟨2,2,false,ra⟩) (hN:2<=N) (hm:m<=8) {bs g:List Mx.D} {dB dN:Dt} (hB:itemsOf dB=some (aa bs)) (Dl:itemsOf dN=some (aa g)) (hb:∀b∈bs,Je m b) (Bz:bs.length<=100000) (HH:g.length<=100000):
  aI fs N ir [dB,dN] none= .ok (.tup (aa (bs.map (eJ g))),none):=by
 have cP:lim=1000000:=rfl;have loop:=je (S:=none) (tg:= .tp [3,4]) (ds:=bs) (ρ:=[some dB,some dN,some (.lst []),none,none]) (body:=aQ (aI fs (N - 1)) (.cons (.app 2 (.bi .sum (.cons (.comp [none,none,some 3,some 4] (.seq (.var 1)) (.nm 1) .nil (.bin .Sub (.call it (.cons (.var 3) (.cons (.var 1) .nil)) []) (.call it (.cons (.var 2) (.cons (.var 1) .nil)) []))) .nil))) .nil))
  (λpre ρ=>∃x y,ρ=[some dB,some dN,some (.lst (aa (pre.map (eJ g)))),x,y]) ⟨none,none,by simp[aa]⟩ (by
   rintro pre b post ρ e ⟨x,y,rfl⟩;obtain⟨p,q,rfl,hp,hq⟩:=hb b (by rw[e];simp);have gL:pre.length<=bs.length:=by rw[e];simp
   have hc:a9 (bJ (.nm 1) (cU (aI fs (N - 1)) .nil) (dk (aI fs (N - 1)) (.bin .Sub (.call it (.cons (.var 3) (.cons (.var 1) .nil)) []) (.call it (.cons (.var 2) (.cons (.var 1) .nil)) []))) [none,none,some (ofD p),some (ofD q)]) (aa g) none= .ok ((g.map λu=>d8 u q - d8 u p).map Dt.int,none):=by
    rw[fV (λu=>[Dt.int (d8 u q - d8 u p)]) λu _=>?_,fM,List.map_map]
    ·rfl
    ·have t1:=iZ ht (N:=N - 1) (by omega) hm (item:=u) hp;have t2:=iZ ht (N:=N - 1) (by omega) hm (item:=u) hq;exact dE (ρ1:=[none,some (ofD u),some (ofD p),some (ofD q)]) rfl (by simp only[RX,t1,t2]) rfl
   refine⟨[some dB,some dN,some (.lst (aa (pre.map (eJ g)))),some (ofD p),some (ofD q)],_,by rw[qX];rfl,cM (ds:=aa (pre.map (eJ g))) (S1:=none) rfl (we (bA (ds:=aa g) (S1:=none) (fG (by simp only[RX]) Dl) (by rw[ab];omega) rfl hc) (yg _)) rfl (by rw[ab,P8];omega) rfl,some (ofD p),some (ofD q),?_⟩;rw[QH,aq];simp[eJ,ofD,aa])
 obtain⟨ρ1,bf,x,y,rfl⟩:=loop;refine aB hf (by omega) rfl ?_;show fin (aQ (aI fs (N - 1)) (nW it) [some dB,some dN,none,none,none] none)=_;exact bw (d:= .lst []) (S1:=none) rfl rfl (bz (ds:=aa bs) (S1:=none) (fG (by simp only[RX]) hB) rfl bf (ar (by simp only[RX])))
def AI {n:Nat} {gs:List (List Mx.D)} {one other:Mx.D} (h1:ck (n + 1) one) (h2:ck (n + 1) other) (hg:∀g∈gs,qf n g):∀b∈bR gs one other,Je (n + 1) b:=by
 intro b hb;rcases Qb.mp hb with rfl | hb
 ·exact⟨one,other,rfl,h1,h2⟩
 ·rw[List.mem_flatMap] at hb;obtain⟨g,kr,hb⟩:=hb;obtain⟨t,r,rfl,⟨x,ps,rfl,_,hp⟩,hr⟩:=hg g kr;simp only[vK,List.mem_flatMap] at hb;obtain⟨u,hu,hb⟩:=hb;obtain⟨⟨y,qs,rfl,_,hq⟩,_⟩:=hr u hu;rw[iW,iW] at hb;unfold dz at hb;obtain⟨i,hi⟩:=List.mem_iff_getElem?.mp hb;rw[List.getElem?_zipWith] at hi;cases e1:ps[i]? with
  | none=>rw[e1] at hi;simp at hi
  | some p=>
   cases e2:qs[i]? with
   | none=>rw[e1,e2] at hi;simp at hi
   | some q=>rw[e1,e2] at hi;simp at hi;exact⟨p,q,hi.symm,(hp p (List.mem_iff_getElem?.mpr ⟨i,e1⟩)).up,(hq q (List.mem_iff_getElem?.mpr ⟨i,e2⟩)).up⟩
end Rx
end
section
namespace Rx
open PySem PySem.W PySem.Spec PyProof.Rows L2 PySem.SeqAt
def xh {fs:List Fn} {n k:Nat} {g:Fn} {args:List Dt} {S:Sx} (h:fs[k]?=some g):aI fs (n + 1) k args S=gp (aI fs n) g args S:=by show (match fs[k]? with | some g=>gp (aI fs n) g args S | none=>R.bad)=_;rw[h]
section
variable {g:G} {K:Frag} {mg:Str->Option Value} {P:Program} {w:World} {base:Heap} {fs:List Fn}
def rG {n L m:Nat} {params:Arguments} {body:List Stmt} {scope:Scope} {dV kV doc pm ft ct oc:Value} {an od:Option Addr} {tL:Array (Option Value)} {f:Addr} {N ps:List Str} {M:List Bool} {δ:Option Nat} {fF:Bool} {ts:Ts}
  (hm:MG g mg) (ok:pP g K mg 0 g.fns fs) (lk:K.lookup f=some ⟨oc,od,.func (PySem.W.fnOf "law" "law" params body scope dV kV doc pm an ft ct),tL⟩) (zM:PySem.W.codeIn K ft "law"=true) (S:eK N ps scope)
  (hM:∀i,i < ps.length->M[i]?≠some true) (hp:ps.length=1) (hc:wm m g ⟨scope.names,N,M,δ⟩ false fF body=some ts) (hf:fs[L]?=some ⟨1,N.length,false,ts⟩)
  (hn:∀ns:List Int,ns.length<=63->∃S,aI fs (n + 1) L [.br ns] none= .ok (.bl true,S)):
  jb P w K mg base (oJ P w) (n + 1) f (PySem.W.fnOf "law" "law" params body scope dV kV doc pm an ft ct) ps (tU K):=by
 have h:=mP (xv:=λ_=>Value.none) (P:=P) (w:=w) (base:=base) lk zM S hm (j8 (P:=P) (w:=w) (base:=base) (xv:=λ_=>Value.none) hm ok n) hM (λz=>by cases z) hc;refine h.imp λvs H Q E q=>?_
 obtain⟨a,ns,rfl,hs,hl,hq⟩:=q;obtain⟨S',hS⟩:=hn ns hl;rw[xh hf] at hS;rw[hp];refine⟨rfl,N0,none,[.br ns],none,[.ref a],⟨rfl,rfl,rfl⟩,aj.cons ?_ aj.nil,λb z=>z.elim,?_⟩
 ·unfold RV;refine⟨a,rfl,?_⟩;rcases hs with hs | hs
  ·exact .inl ⟨hs,λz=>z⟩
  ·exact .inr hs
 ·rw[hS];intro v H' fo;rw[fo.val.aE];exact hq H'
end
def walkR {l:PySem.W.OpenLaw} {q:Program} {k:Nat} {loose:List Str} {XP:(Str->Option Value)->Heap->Prop} {YP:World->Heap->Prop} {d:DefRec} {K:Params->PySem.W.Frag} (hn:l.most=some 63) (G1:d.params.defaults=[]) (hr:iJ k callerA)
  (hY:∀(w:World) (h:Heap),YP w h->(K w.params).In h)
  (F:∀(w:World) (mg:Str->Option Value) (fa:Addr) (h:Heap),(K w.params).In h->h.Ns mainGlobals mg->mg d.name=some (.ref fa)->
   ∃fd:FuncData,(∀(s:Shared) (u:Value),BindsTo s fd ⟨[u],[]⟩ [("_law_script",u)])/\∀base:Heap,(K w.params).In base->base.Ns mainGlobals mg->jb l.prog w (K w.params) mg base (oJ l.prog w) k fa fd ["_law_script"] (tU (K w.params))):
  PySem.W.WalkO q loose XP YP l.row.toRowW d [] (λf vs=>PySem.call f vs):=
 L2.A3 (n:=63) (k:=k) (x:="_law_script") (CX:=λw=>oJ l.prog w) (sp:=λw=>tU (K w.params)) hn (by decide) G1 hr hY F (λ_ _ a ns hl _ hS=>⟨a,ns,rfl,hS,hl,λ_=>rfl⟩) λ_ _ _ _ _ z=>by obtain⟨_,_,_,_,_,_,_,_,_,z⟩:=z;exact z
structure Row where
 nm:Str
 s:Stmt
 ps:List Str
 ms:List Str:=[]
 dr:Option Str:=none
 dp:Bool:=false
 fP:List Dt:=[]
namespace Row
def N (r:Row):List Str:=Nr (bu r.s).names r.ps
def gm (r:Row):Gm:=⟨(bu r.s).names,r.N,Fx r.N r.ms,if r.dp then some 0 else r.dr.bind (Cd · r.N)⟩
def fn (g:G) (j:Nat) (r:Row):Option Fn:=(wm 60 g r.gm r.dp (g.fr j) (ij r.s)).map λts=>⟨r.ps.length,r.N.length,r.dp,ts⟩
def ent (r:Row):Str×Nat×List Dt×Bool:=(r.nm,r.ps.length,r.fP,r.dp)
def ok (r:Row):Bool:=
 ((bu r.s).kind== .function)&& !(bu r.s).isCoroutine&& !(bu r.s).isGenerator&&decide r.N.Nodup&&decide (r.N.take r.ps.length=r.ps)&&
 (r.ps.all λx=>(bu r.s).names.lookup x==some .local||(bu r.s).names.lookup x==some .cell)&&((bu r.s).names.all λy=>y.2 != .free)&&
 ((Fx r.N r.ms).take r.ps.length).all (λb=> !b)&&r.fP.all oP
def scope {r:Row} (h:r.ok=true):eK r.N r.ps (bu r.s)/\(∀i,i < r.ps.length->(Fx r.N r.ms)[i]?≠some true)/\r.fP.all oP=true:=by
 unfold ok at h;simp only[PX] at h;obtain⟨⟨⟨⟨⟨⟨⟨⟨h1,h2⟩,h3⟩,h4⟩,h5⟩,h6⟩,h7⟩,h8⟩,h9⟩:=h;refine⟨⟨Qm h1,by simpa using h2,by simpa using h3,PZ h4,PZ h5,λx hx=>?_,λy hy e=>?_⟩,Im h8,h9⟩
 ·have:=Qz.mp h6 x hx;rcases Bool.or_eq_true_iff.mp this with z | z
  ·exact .inl (Qm z)
  ·exact .inr (Qm z)
 ·have:=Qz.mp h7 y hy;rw[e] at this;cases this
end Row
def pv (g:G):Nat->List Row->Option (List Fn)
 | _,[]=>some []
 | j,r::rs=>(r.fn g j).bind λf=>(pv g (j + 1) rs).map (f:: ·)
def Fd (K:Frag) (nm:Str) (s:Stmt) (ps:List Str) (fP:List Dt):Prop:=∃(fa:Addr) (oc dV kV doc pm ft ct:Value) (od an:Option Addr) (tL:Array (Option Value)),
 nsIn K mainGlobals nm=some (some (.ref fa))/\K.lookup fa=some ⟨oc,od,.func (fnOf nm nm (nM s) (ij s) (bu s) dV kV doc pm an ft ct),tL⟩/\codeIn K ft nm=true/\keepIn K (.ref fa)=true/\(fP=[]->dV= .none)/\
 ∀j,j<=fP.length->∃ds,aw ((fP.drop j).map qK) ds/\Binds K (fnOf nm nm (nM s) (ij s) (bu s) dV kV doc pm an ft ct) ps ds
def IR (K:Frag):List Row->Prop
 | []=>True
 | r::rs=>Fd K r.nm r.s r.ps r.fP/\IR K rs
section
variable {g:G} {K:Frag} {mg:Str->Option Value} {h:Heap} {fs:List Fn}
def xD (X:K.In h) (Gs:h.Ns mainGlobals mg):∀{rs:List Row} {i:Nat} {fs:List Fn},rs.all Row.ok=true->pv g i rs=some fs->IR K rs->pP g K mg i (rs.map Row.ent) fs
 | [],i,fs,_,e,_=>by cases e;trivial
 | r::rs,i,fs,hk,e,F=>by rw[List.all_cons,PX] at hk;obtain⟨f,e1,e⟩:=PQ.mp e;obtain⟨KE,e2,rfl⟩:=Qe.mp e;obtain⟨ts,c1,rfl⟩:=Qe.mp e1;obtain⟨⟨fa,oc,dV,kV,doc,pm,ft,ct,od,an,tL,a,l,c,k,_,b⟩,F⟩:=F;obtain⟨s1,s2,s3⟩:=Row.scope hk.1;exact⟨⟨fa,r.ps,r.N,_,_,60,oc,od,an,tL,_,_,_,dV,kV,doc,pm,ft,ct,l,c,k,mg_of X Gs a,s1,s2,λz=>if_pos z,rfl,c1,rfl,rfl,rfl,b,s3⟩,xD X Gs hk.2 e2 F⟩
def D0 {rs:List Row}:∀{L i:Nat} {fs:List Fn} {r:Row},pv g i rs=some fs->rs[L]?=some r->∃ts,wm 60 g r.gm r.dp (g.fr (i + L)) (ij r.s)=some ts/\fs[L]?=some ⟨r.ps.length,r.N.length,r.dp,ts⟩:=by
 induction rs with
 | nil=>intro L i fs r _ e;simp at e
 | cons r0 rs ih=>
  intro L i fs r e hr;obtain⟨f,e1,e⟩:=PQ.mp e;obtain⟨KE,e2,rfl⟩:=Qe.mp e;cases L with
  | zero=>cases hr;obtain⟨ts,c1,rfl⟩:=Qe.mp e1;exact⟨ts,c1,rfl⟩
  | succ L=>obtain⟨ts,c1,c2⟩:=ih e2 (by simpa using hr);exact⟨ts,by rw[show i + (L + 1)=i + 1 + L by omega];exact c1,by simpa using c2⟩
def w6:∀{rs:List Row} {L:Nat} {r:Row},IR K rs->rs[L]?=some r->Fd K r.nm r.s r.ps r.fP
 | [],L,r,_,e=>by simp at e
 | r0::rs,0,r,F,e=>by cases e;exact F.1
 | r0::rs,L + 1,r,F,e=>w6 F.2 (by simpa using e)
def KN (K:Frag):List Str->Prop
 | []=>True
 | x::xs=>nsIn K mainGlobals x=some none/\KN K xs
def Ly (K:Frag):List (Str×Dt)->Prop
 | []=>True
 | x::xs=>(∃u,nsIn K mainGlobals x.1=some (some u)/\oP x.2=true/\RelV (qK x.2) u)/\Ly K xs
def yL {x:Str}:∀{xs:List Str},KN K xs->x∈xs->nsIn K mainGlobals x=some none
 | y::xs,h,hx=>by
  rcases Qb.mp hx with rfl | hx
  ·exact h.1
  ·exact yL h.2 hx
def yR {x:Str} {d:Dt}:∀{xs:List (Str×Dt)},Ly K xs->xs.lookup x=some d->∃u,nsIn K mainGlobals x=some (some u)/\oP d=true/\RelV (qK d) u
 | [],_,e=>by simp at e
 | y::xs,h,e=>by
  rw[Qp] at e;split at e
  ·rename_i q;cases e;rw[Qm q];exact h.1
  ·exact yR h.2 e
def law_mk {l:OpenLaw} {w:World} {fa:Addr} {rs:List Row} {cons:List (Str×Dt)} {bls:List Str} {fr:Nat->Bool} {L n:Nat} {sL:Stmt} {ms:List Str} {dr:Option Str} (X:K.In h) (Gs:h.Ns mainGlobals mg) (O9:mg "law"=some (.ref fa))
  (hL:rs[L]?=some ⟨"law",sL,["_law_script"],ms,dr,false,[]⟩) (hk:rs.all Row.ok=true) (hfs:pv ⟨rs.map Row.ent,cons,bls,fr⟩ 0 rs=some fs)
  (hb:∀(s:Shared) (v:Value) (kV doc pm ft ct:Value) (an:Option Addr),BindsTo s (fnOf "law" "law" (nM sL) (ij sL) (bu sL) .none kV doc pm an ft ct) ⟨[v],[]⟩ [("_law_script",v)])
  (hn:∀ns:List Int,ns.length<=63->∃S,aI fs (n + 1) L [.br ns] none= .ok (.bl true,S)) (B:KN K bls) (C:Ly K cons) (F:IR K rs):
  ∃fd:FuncData,(∀(s:Shared) (v:Value),BindsTo s fd ⟨[v],[]⟩ [("_law_script",v)])/\∀base:Heap,K.In base->base.Ns mainGlobals mg->jb l.prog w K mg base (oJ l.prog w) (n + 1) fa fd ["_law_script"] (tU K):=by
 have hm:MG ⟨rs.map Row.ent,cons,bls,fr⟩ mg:=⟨λx d hx=>by
   obtain⟨u,k1,k2,k3⟩:=yR C hx;exact⟨u,k2,mg_of X Gs k1,k3⟩,λx hx=>mg_none_of X Gs (yL B hx)⟩
 have ok:=xD (g:=⟨rs.map Row.ent,cons,bls,fr⟩) X Gs hk hfs F;obtain⟨Pl,oc,dV,kV,doc,pm,ft,ct,od,an,tL,a,lk,c,k,hd,b⟩:=w6 F hL;cases hd rfl;have e:=O9.symm.trans (mg_of X Gs a);cases e;obtain⟨ts,c1,c2⟩:=D0 hfs hL;have hok:=Row.scope (Qz.mp hk _ (List.mem_iff_getElem?.mpr ⟨L,hL⟩));exact⟨_,λs v=>hb s v kV doc pm ft ct an,λbase _ _=>rG hm ok lk c hok.1 hok.2.1 rfl c1 c2 hn⟩
end
end Rx
end
section
namespace K62
open PySem PySem.W PySem.Spec PyProof.Rows L2 Mx Rx
def top (i:Nat):Stmt:=PySem.Challenge.pw_mixform_k62_bonds_and_equations.main.body.getD i (.Pass ⟨0,0,0,0⟩)
abbrev rows:List Rx.Row:=[⟨"parts_of",top 1,["item"],[],none,false,[]⟩,
 ⟨"items_within",top 3,["form"],["found"],none,false,[]⟩,
 ⟨"unknowns",top 4,["form"],[],none,false,[]⟩,
 ⟨"things_among",top 5,["items"],[],none,false,[]⟩,
 ⟨"names_of",top 7,["one","other"],[],none,false,[]⟩,
 ⟨"things_of",top 8,["one","other"],[],none,false,[]⟩,
 ⟨"bonds",top 10,["parting","one","other"],["found"],none,false,[]⟩,
 ⟨"count_at_top",top 11,["form","item"],[],none,false,[]⟩,
 ⟨"equations",top 12,["bonded","names"],[],none,false,[]⟩,
 ⟨"right_of",top 13,["bonded","group"],["found"],none,false,[]⟩,
 ⟨"_law_cell",top 15,["_law_script","_law_k"],[],none,false,[]⟩,
 ⟨"_law_pick",top 16,["_law_script","_law_k","_law_many"],[],none,false,[]⟩,
 ⟨"_law_names",top 17,["_law_script","_law_k","_law_letters"],["_law_names_here"],none,false,[]⟩,
 ⟨"_law_unknowns",top 18,["_law_script","_law_k"],[],none,false,[]⟩,
 ⟨"_law_signs",top 19,["_law_script","_law_k"],[],none,false,[]⟩,
 ⟨"_law_next",top 20,["_law_k","_law_j"],[],none,false,[]⟩,
 ⟨"_law_gathered",top 21,["_law_pairs"],["_law_found"],none,false,[]⟩,
 ⟨"_law_mix",top 22,["_law_script","_law_k","_law_deep","_law_names_here","_law_signs_here","_law_most"],["_law_pairs"],none,false,[]⟩,
 ⟨"_law_great",top 23,["_law_script","_law_k","_law_form"],["_law_found"],none,false,[]⟩,
 ⟨"_law_items_in",top 24,["_law_form"],["_law_found"],none,false,[]⟩,
 ⟨"_law_once",top 25,["_law_rows_here"],["_law_found"],none,false,[]⟩,
 ⟨"_law_names_of",top 26,["_law_one","_law_other"],[],none,false,[]⟩,
 ⟨"_law_things_of",top 27,["_law_one","_law_other"],[],none,false,[]⟩,
 ⟨"_law_like",top 28,["_law_thing","_law_other"],[],none,false,[]⟩,
 ⟨"_law_parting",top 29,["_law_script","_law_k","_law_some"],["_law_groups"],none,false,[]⟩,
 ⟨"_law_bonds",top 30,["_law_parting_here","_law_one","_law_other"],["_law_found"],none,false,[]⟩,
 ⟨"_law_top",top 31,["_law_form","_law_item"],[],none,false,[]⟩,
 ⟨"_law_rows",top 32,["_law_bonded","_law_names_here"],["_law_rows_here"],none,false,[]⟩,
 ⟨"_law_right",top 33,["_law_bonded","_law_group"],["_law_found"],none,false,[]⟩,
 ⟨"_law_same",top 34,["_law_found","_law_due"],[],none,false,[]⟩,
 ⟨"law",top 35,["_law_script"],["_law_found","_law_told"],none,false,[]⟩]
abbrev cons:List (Str×Dt):=[]
abbrev bls:List Str:=["bool","enumerate","int","isinstance","len","list","min","range","set","sorted","str","sum","tuple","zip"]
abbrev fr (i:Nat):Bool:=[false,true,false,false,false,false,true,false,true,false,false,true,true,true,true,true,false,false,false,true,true,false,false,false,false,true,false,true,false,false,false].getD i false
def K4:Ts:=(.cons (.ret (.call 12 (.cons (.var 0) (.cons (.var 1) (.cons (.con (.str "abcdefghijklmnopqrstuvwxyz")) .nil))) [])) .nil)
def KM:Ts:=(.cons (.ret (.call 12 (.cons (.var 0) (.cons (.var 1) (.cons (.con (.str "ABCDEFGHIJKLMNOPQRSTUVWXYZ")) .nil))) [])) .nil)
def LY:Ts:=(.cons (.asg 1 (.call 13 (.cons (.var 0) (.cons (.con (.int 0)) .nil)) [])) (.cons (.asg 2 (.call 14 (.cons (.var 0) (.cons (.con (.int 7)) .nil)) [])) (.cons (.asg 3 (.bin .Add (.con (.int 1)) (.call 11 (.cons (.var 0) (.cons (.con (.int 1)) (.cons (.con (.int 2)) .nil))) []))) (.cons (.asg 4 (.call 17 (.cons (.var 0) (.cons (.con (.int 20)) (.cons (.var 3) (.cons (.var 1) (.cons (.var 2) (.cons (.bin .Sub (.con (.int 5)) (.var 3)) .nil)))))) [])) (.cons (.asg 5 (.call 17 (.cons (.var 0) (.cons (.con (.int 40)) (.cons (.var 3) (.cons (.var 1) (.cons (.var 2) (.cons (.bin .Sub (.con (.int 5)) (.var 3)) .nil)))))) [])) (.cons (.ifs (.cmp .Eq (.call 11 (.cons (.var 0) (.cons (.con (.int 2)) (.cons (.con (.int 2)) .nil))) []) (.con (.int 0))) (.cons (.asg 4 (.call 18 (.cons (.var 0) (.cons (.con (.int 3)) (.cons (.var 4) .nil))) [])) (.cons (.asg 5 (.call 18 (.cons (.var 0) (.cons (.con (.int 8)) (.cons (.var 5) .nil))) [])) .nil)) .nil) (.cons (.asg 6 (.call 21 (.cons (.var 4) (.cons (.var 5) .nil)) [])) (.cons (.asg 7 (.call 22 (.cons (.var 4) (.cons (.var 5) .nil)) [])) (.cons (.ifs (.or (.nt (.call 29 (.cons (.call 4 (.cons (.var 4) (.cons (.var 5) .nil)) []) (.cons (.var 6) .nil)) [])) (.nt (.call 29 (.cons (.call 5 (.cons (.var 4) (.cons (.var 5) .nil)) []) (.cons (.var 7) .nil)) []))) (.cons (.ret (.con (.bl false))) .nil) .nil) (.cons (.asg 8 (.call 24 (.cons (.var 0) (.cons (.con (.int 60)) (.cons (.var 7) .nil))) [])) (.cons (.asg 9 (.call 25 (.cons (.var 8) (.cons (.var 4) (.cons (.var 5) .nil))) [])) (.cons (.asgM 10 (.call 6 (.cons (.var 8) (.cons (.var 4) (.cons (.var 5) .nil))) [])) (.cons (.ifs (.nt (.call 29 (.cons (.mvr 10) (.cons (.var 9) .nil)) [])) (.cons (.ret (.con (.bl false))) .nil) .nil) (.cons (.asg 11 (.call 27 (.cons (.var 9) (.cons (.var 6) .nil)) [])) (.cons (.ifs (.or (.nt (.call 29 (.cons (.call 8 (.cons (.mvr 10) (.cons (.var 6) .nil)) []) (.cons (.var 11) .nil)) [])) (.nt (.call 29 (.cons (.call 8 (.cons (.bi .tuple (.cons (.var 9) .nil)) (.cons (.bi .list (.cons (.var 6) .nil)) .nil)) []) (.cons (.var 11) .nil)) []))) (.cons (.ret (.con (.bl false))) .nil) .nil) (.cons (.fr (.nm 12) (.seq (.var 8)) (.cons (.asg 13 (.call 28 (.cons (.var 9) (.cons (.var 12) .nil)) [])) (.cons (.ifs (.or (.nt (.call 29 (.cons (.call 9 (.cons (.mvr 10) (.cons (.var 12) .nil)) []) (.cons (.var 13) .nil)) [])) (.nt (.call 29 (.cons (.call 9 (.cons (.bi .tuple (.cons (.var 9) .nil)) (.cons (.var 12) .nil)) []) (.cons (.var 13) .nil)) []))) (.cons (.ret (.con (.bl false))) .nil) .nil) .nil))) (.cons (.asgM 14 (.call 8 (.cons (.mvr 10) (.cons (.var 6) .nil)) [])) (.cons (.clr 14) (.cons (.clr 10) (.cons (.ret (.and (.call 29 (.cons (.call 6 (.cons (.var 8) (.cons (.var 4) (.cons (.var 5) .nil))) []) (.cons (.var 9) .nil)) []) (.call 29 (.cons (.call 8 (.cons (.var 9) (.cons (.var 6) .nil)) []) (.cons (.var 11) .nil)) []))) .nil))))))))))))))))))))
def fs:List Fn:=[⟨1,1,false,kf⟩,⟨1,5,false,yO 0 1⟩,⟨1,2,false,Bb 1⟩,⟨1,2,false,jH⟩,⟨2,2,false,kb 2⟩,⟨2,2,false,ja 1 3⟩,⟨3,6,false,wN⟩,⟨2,2,false,ra⟩,⟨2,3,false,Ds 7⟩,⟨2,5,false,nW 7⟩,⟨2,3,false,pX⟩,⟨3,4,false,yj 10⟩,⟨3,9,false,rz 11⟩,⟨2,2,false,K4⟩,⟨2,2,false,KM⟩,⟨2,2,false,uO⟩,⟨1,4,false,sW⟩,⟨6,14,false,En 11 15 16 17⟩,⟨3,5,false,rN 10⟩,⟨1,5,false,uF 19⟩,⟨1,3,false,oX⟩,⟨2,3,false,ow 19 20⟩,⟨2,3,false,kD 19 20⟩,⟨2,2,false,pH⟩,⟨3,7,false,kC 11 23⟩,⟨3,7,false,uY⟩,⟨2,2,false,ra⟩,⟨2,5,false,zi 26⟩,⟨2,5,false,nW 26⟩,⟨2,4,false,pB 29⟩,⟨1,15,false,LY⟩]
def hok:rows.all Rx.Row.ok=true:=by decide +kernel
def hfs:pv ⟨rows.map Rx.Row.ent,cons,bls,fr⟩ 0 rows=some fs:=by kernel_rfl
def qb:g0 fs 11:=⟨10,rfl,rfl⟩
def tV (n:Nat) (hn:4<=n) (ns:List Int) (k:Nat) (hk:k < 1000):(∃a b c,aI fs n 13 [.br ns,.int k] none= .ok (.lst [.str a,.str b,.str c],none))/\∃a b c,aI fs n 14 [.br ns,.int k] none= .ok (.lst [.str a,.str b,.str c],none):=by
 obtain⟨a,b,c,h1⟩:=qF (fs:=fs) qb (im:=12) rfl (n:=n - 1) (by omega) (ns:=ns) (k:=k) (L:="abcdefghijklmnopqrstuvwxyz") (by omega) rfl;obtain⟨a',b',c',h2⟩:=qF (fs:=fs) qb (im:=12) rfl (n:=n - 1) (by omega) (ns:=ns) (k:=k) (L:="ABCDEFGHIJKLMNOPQRSTUVWXYZ") (by omega) rfl;refine⟨⟨a,b,c,aB (body:=K4) rfl (by omega) rfl ?_⟩,⟨a',b',c',aB (body:=KM) rfl (by omega) rfl ?_⟩⟩
 ·show fin (aQ (aI fs (n - 1)) K4 [some (.br ns),some (.int k)] none)=_;exact ar (by simp only[RX,h1])
 ·show fin (aQ (aI fs (n - 1)) KM [some (.br ns),some (.int k)] none)=_;exact ar (by simp only[RX,h2])
def xZ (l:List Mx.D) (m:Nat) (hm:m < 50) (h:∀d∈l,Mx.D.dep d<=m):aI fs 59 29 [.tup (aa l),.tup (aa l)] none= .ok (.bl true,none):=
 ox (fs:=fs) (is:=29) rfl 59 (.tup (aa l)) (by simp[sm,nZ]) (by have:=cC h;simp only[dp,jd];omega)
def B4 (l:List Mx.D) (m:Nat) (hm:m < 50) (h:∀d∈l,Mx.D.dep d<=m):aI fs 59 29 [.lst (aa l),.lst (aa l)] none= .ok (.bl true,none):=
 ox (fs:=fs) (is:=29) rfl 59 (.lst (aa l)) (by simp[sm,nZ]) (by have:=cC h;simp only[dp,jd];omega)
def tail:Ts:=(.cons (.asg 6 (.call 21 (.cons (.var 4) (.cons (.var 5) .nil)) [])) (.cons (.asg 7 (.call 22 (.cons (.var 4) (.cons (.var 5) .nil)) [])) (.cons (.ifs (.or (.nt (.call 29 (.cons (.call 4 (.cons (.var 4) (.cons (.var 5) .nil)) []) (.cons (.var 6) .nil)) [])) (.nt (.call 29 (.cons (.call 5 (.cons (.var 4) (.cons (.var 5) .nil)) []) (.cons (.var 7) .nil)) []))) (.cons (.ret (.con (.bl false))) .nil) .nil) (.cons (.asg 8 (.call 24 (.cons (.var 0) (.cons (.con (.int 60)) (.cons (.var 7) .nil))) [])) (.cons (.asg 9 (.call 25 (.cons (.var 8) (.cons (.var 4) (.cons (.var 5) .nil))) [])) (.cons (.asgM 10 (.call 6 (.cons (.var 8) (.cons (.var 4) (.cons (.var 5) .nil))) [])) (.cons (.ifs (.nt (.call 29 (.cons (.mvr 10) (.cons (.var 9) .nil)) [])) (.cons (.ret (.con (.bl false))) .nil) .nil) (.cons (.asg 11 (.call 27 (.cons (.var 9) (.cons (.var 6) .nil)) [])) (.cons (.ifs (.or (.nt (.call 29 (.cons (.call 8 (.cons (.mvr 10) (.cons (.var 6) .nil)) []) (.cons (.var 11) .nil)) [])) (.nt (.call 29 (.cons (.call 8 (.cons (.bi .tuple (.cons (.var 9) .nil)) (.cons (.bi .list (.cons (.var 6) .nil)) .nil)) []) (.cons (.var 11) .nil)) []))) (.cons (.ret (.con (.bl false))) .nil) .nil) (.cons (.fr (.nm 12) (.seq (.var 8)) (.cons (.asg 13 (.call 28 (.cons (.var 9) (.cons (.var 12) .nil)) [])) (.cons (.ifs (.or (.nt (.call 29 (.cons (.call 9 (.cons (.mvr 10) (.cons (.var 12) .nil)) []) (.cons (.var 13) .nil)) [])) (.nt (.call 29 (.cons (.call 9 (.cons (.bi .tuple (.cons (.var 9) .nil)) (.cons (.var 12) .nil)) []) (.cons (.var 13) .nil)) []))) (.cons (.ret (.con (.bl false))) .nil) .nil) .nil))) (.cons (.asgM 14 (.call 8 (.cons (.mvr 10) (.cons (.var 6) .nil)) [])) (.cons (.clr 14) (.cons (.clr 10) (.cons (.ret (.and (.call 29 (.cons (.call 6 (.cons (.var 8) (.cons (.var 4) (.cons (.var 5) .nil))) []) (.cons (.var 9) .nil)) []) (.call 29 (.cons (.call 8 (.cons (.var 9) (.cons (.var 6) .nil)) []) (.cons (.var 11) .nil)) []))) .nil))))))))))))))
def tJ {ns:List Int} {x1 x2 x3:Option Dt} {n:Nat} (hn:n + 1<=3) {one other:Mx.D} (h1:ck (n + 1) one) (h2:ck (n + 1) other):
  fin (aQ (aI fs 59) tail [some (.br ns),x1,x2,x3,some (ofD one),some (ofD other),none,none,none,none,none,none,none,none,none] none)= .ok (.bl true,none):=by
 have cP:lim=1000000:=rfl;have M7:∀N,5<=N->∀d,ck (n + 1) d->aI fs N 1 [ofD d] none= .ok (.lst (aa (bt (n + 1) d)),none):=λN hN d hd=>pG (fs:=fs) (ip:=0) (ii:=1) rfl rfl (by omega) (by omega) hd
 have jD:∀N,5<=N->∀d,ck (n + 1) d->aI fs N 19 [ofD d] none= .ok (.lst (aa (bt (n + 1) d)),none):=λN hN d hd=>mT (fs:=fs) (ii:=19) rfl (by omega) (by omega) hd
 have Nq:=vy (fs:=fs) (iln:=21) (il:=19) (io:=20) (N:=59) rfl rfl hn (by decide) h1 h2 (jD 58 (by decide));have OA:=rE (fs:=fs) (ilt:=22) (il:=19) (io:=20) (N:=59) rfl rfl hn (by decide) h1 h2 (jD 58 (by decide));have v4:=q5 (fs:=fs) (ino:=4) (iu:=2) (ii:=1) (N:=59) rfl rfl hn (by decide) h1 h2 (M7 57 (by decide));have v5:=qG (fs:=fs) (ito:=5) (it:=3) (ii:=1) (N:=59) rfl rfl hn (by decide) h1 h2 (M7 58 (by decide));have l1:=bq h1;have l2:=bq h2;have Fj:=vT hn;have IH:(bt (n + 1) one++bt (n + 1) other).length<=1256:=by rw[Qf];omega
 have hN:∀d∈fH (n + 1) one other,Mx.D.dep d<=1:=λd hd=>by obtain⟨y,_,rfl⟩:=Qy.mp (bx.mp (iS hd));simp[Mx.D.dep]
 have hT:∀t∈eI (n + 1) one other,IsT n t:=λt ht=>(gQ (iQ h1 h2) (bx.mp (iS ht))).2
 have Lr:∀t∈eI (n + 1) one other,Mx.D.dep t<=20:=λt ht=>by have:=cH (n:=4 * n + 2) (λd hd=>bI hd) rfl (show ot (ck n) t from .inr (hT t ht));omega
 have Pn:(fH (n + 1) one other).length<=1256:=by unfold fH;refine Qa mZ ?_;rw[(bE _).length_eq,P8];exact Qa ej IH
 have PD:(eI (n + 1) one other).length<=1256:=by unfold eI;refine Qa mZ ?_;rw[(bE _).length_eq];exact Qa gN IH
 generalize fH (n + 1) one other=nms at *;generalize eI (n + 1) one other=ths at *;have s1:=xZ nms 1 (by decide) hN;have s2:=xZ ths 20 (by decide) Lr;obtain⟨gs,NC,hg,Py⟩:=qO (fs:=fs) (ig:=24) (ip:=11) (il:=23) (N:=59) (n:=n) (k:=60) qb rfl rfl (by decide) (by decide) (ns:=ns) (ts:=ths) (by omega) hT;have Nu:=vo (fs:=fs) (ib:=25) (N:=59) rfl (by decide) (one:=one) (other:=other) hg (by omega);have v6:=xM (fs:=fs) (ib:=6) (N:=59) rfl (by decide) (one:=one) (other:=other) hg (by omega);have hP:=AI h1 h2 hg;have Bz:(bR gs one other).length<=100000:=by have:=kX hg;rw[bR,Qh];omega
 have L9:∀g∈gs,g.length<=100000:=λg kr=>by have:=gP (Qy.mpr ⟨g,kr,rfl⟩:g.length∈gs.map List.length);omega
 generalize bR gs one other=bs at *;have Fj:∀d∈bs,Mx.D.dep d<=20:=λd hd=>by obtain⟨p,q,rfl,hp,hq⟩:=hP d hd;have:=bI hp;have:=bI hq;simp[Mx.D.dep,Mx.D.b8];omega
 have s3:=B4 bs 20 (by decide) Fj;have NW:=wI (fs:=fs) (ir:=27) (it:=26) (N:=59) (m:=n + 1) rfl rfl (by decide) (by omega) (bs:=bs) (nms:=nms) (dB:= .lst (aa bs)) (dN:= .tup (aa nms)) rfl rfl hP Bz (by omega);have v8:=λ {dB dN:Dt} (hB:itemsOf dB=some (aa bs)) (Dl:itemsOf dN=some (aa nms))=>Ed (fs:=fs) (ir:=8) (it:=7) (N:=59) (m:=n + 1) rfl rfl (by decide) (by omega) hB Dl hP Bz (by omega)
 have J6:=v8 (dB:= .lst (aa bs)) (dN:= .tup (aa nms)) rfl rfl;have NA:=v8 (dB:= .tup (aa bs)) (dN:= .lst (aa nms)) rfl rfl;have s4:=B4 (bs.map (fh nms)) 2 (by decide) λd hd=>by
  obtain⟨b,hb,rfl⟩:=Qy.mp hd;obtain⟨p,q,rfl,_⟩:=hP b hb;have:Mx.D.b8 (nms.map λnm=>Mx.D.int (d8 (anyOf nm) p - d8 (anyOf nm) q))<=0:=cC λe he=>by obtain⟨nm,_,rfl⟩:=Qy.mp he;simp[Mx.D.dep]
  simp only[fh,Mx.D.dep];omega
 have loop:=zr (S:=none) (enc:=λg:List Mx.D=>Dt.tup (aa g)) (tg:= .nm 12) (ds:=gs) (ρ:=[some (.br ns),x1,x2,x3,some (ofD one),some (ofD other),some (.tup (aa nms)),some (.tup (aa ths)),some (.tup (aa (bZ gs))),some (.lst (aa bs)),some (.lst (aa bs)),some (.lst (aa (bs.map (fh nms)))),none,none,none]) (body:=aQ (aI fs 59) (.cons (.asg 13 (.call 28 (.cons (.var 9) (.cons (.var 12) .nil)) [])) (.cons (.ifs (.or (.nt (.call 29 (.cons (.call 9 (.cons (.mvr 10) (.cons (.var 12) .nil)) []) (.cons (.var 13) .nil)) [])) (.nt (.call 29 (.cons (.call 9 (.cons (.bi .tuple (.cons (.var 9) .nil)) (.cons (.var 12) .nil)) []) (.cons (.var 13) .nil)) []))) (.cons (.ret (.con (.bl false))) .nil) .nil) .nil)))
  (λpre ρ=>∃x y,ρ=[some (.br ns),x1,x2,x3,some (ofD one),some (ofD other),some (.tup (aa nms)),some (.tup (aa ths)),some (.tup (aa (bZ gs))),some (.lst (aa bs)),some (.lst (aa bs)),some (.lst (aa (bs.map (fh nms)))),x,y,none]) ⟨none,none,rfl⟩ (by
   rintro pre g post ρ e ⟨x,y,rfl⟩;have kr:g∈gs:=by rw[e];simp
   have Nv:=qc (fs:=fs) (ir:=28) (it:=26) (N:=59) (m:=n + 1) rfl rfl (by decide) (by omega) (bs:=bs) (g:=g) (dB:= .lst (aa bs)) (dN:= .tup (aa g)) rfl rfl hP Bz (L9 g kr);have v9:=λ {dB:Dt} (hB:itemsOf dB=some (aa bs))=>qc (fs:=fs) (ir:=9) (it:=7) (N:=59) (m:=n + 1) rfl rfl (by decide) (by omega) (bs:=bs) (g:=g) (dB:=dB) (dN:= .tup (aa g)) hB rfl hP Bz (L9 g kr)
   have O7:=v9 (dB:= .lst (aa bs)) rfl;have N2:=v9 (dB:= .tup (aa bs)) rfl;have s5:=xZ (bs.map (eJ g)) 0 (by decide) λd hd=>by obtain⟨b,hb,rfl⟩:=Qy.mp hd;obtain⟨p,q,rfl,_⟩:=hP b hb;simp[eJ,Mx.D.dep]
   refine⟨_,_,rfl,cg (d:= .tup (aa (bs.map (eJ g)))) (S1:=none) (by simp only[RX,Nv]) rfl (lL (S1:=none) (by simp only[RX,O7,N2,s5];rfl) rfl),some (.tup (aa g)),some (.tup (aa (bs.map (eJ g)))),rfl⟩)
 obtain⟨ρ1,bf,x,y,rfl⟩:=loop;rw[<-tM] at bf;refine aJ (d:= .tup (aa nms)) (S1:=none) (by simp only[RX,Nq]) rfl (aJ (d:= .tup (aa ths)) (S1:=none) (by simp only[RX,OA]) rfl (eE (S1:=none) (by simp only[RX,v4,v5,s1,s2];rfl) ?_));refine aJ (d:= .tup (aa (bZ gs))) (S1:=none) (by simp only[RX];exact congrArg (R.bind · _) NC) rfl (aJ (d:= .lst (aa bs)) (S1:=none) (by simp only[RX,Nu]) rfl (bw (d:= .lst (aa bs)) (S1:=none) (by simp only[RX,v6]) rfl ?_));refine eE (S1:=none) (by simp only[RX,s3];rfl) (aJ (d:= .lst (aa (bs.map (fh nms)))) (S1:=none) (by simp only[RX,NW]) rfl (eE (S1:=none) (by simp only[RX,J6,NA,s4];rfl) ?_));refine bz (ds:=aa (bZ gs)) (S1:=none) (by simp only[RX]) rfl bf ?_;refine bw (d:= .lst (aa (bs.map (fh nms)))) (S1:=none) (by simp only[RX,J6]) (by show (_||i5 (aa (bs.map (fh nms))))=true;rw[ng,Bool.or_true]) (fO (wK (ds:=aa (bs.map (fh nms))) rfl) (fO (wK (ds:=aa bs) rfl) (ar ?_)));simp only[List.set_cons_succ,List.set_cons_zero,RX,v6,s3,J6,s4]
def law_true:∀ns:List Int,ns.length<=63->∃S,aI fs 60 30 [.br ns] none= .ok (.bl true,S):=λns _=>by
 refine⟨none,aB (body:=LY) rfl (by decide) rfl ?_⟩;show fin (aQ (aI fs 59) LY [some (.br ns),none,none,none,none,none,none,none,none,none,none,none,none,none,none] none)=_;obtain⟨⟨a,b,c,e1⟩,_⟩:=tV 59 (by decide) ns 0 (by decide);obtain⟨_,a',b',c',e2⟩:=tV 59 (by decide) ns 7 (by decide);have P:=λ(k many:Nat) (h1:k < 1000000) (h2:0 < many)=>jQ (fs:=fs) qb (n:=59) (by decide) (ns:=ns) h1 h2
 have p1:=P 1 2 (by decide) (by decide);have l1:=cF (ns:=ns) (k:=1) (many:=2) (by decide);have p2:=P 2 2 (by decide) (by decide);generalize bG ns 1 2=v at p1 l1;generalize bG ns 2 2=w at p2;have q1:aI fs 59 11 [.br ns,.int 1,.int 2] none= .ok (.int v,none):=p1;have q2:aI fs 59 11 [.br ns,.int 2,.int 2] none= .ok (.int w,none):=p2;have G3:aI fs 59 13 [.br ns,.int 0] none= .ok (.lst [.str a,.str b,.str c],none):=e1;have Cu:aI fs 59 14 [.br ns,.int 7] none= .ok (.lst [.str a',.str b',.str c'],none):=e2;have mx:=λ(k:Nat) (hk:k < 1000000)=>wt (fs:=fs) (ip:=11) (ix:=15) (ig:=16) (im:=17) qb rfl rfl rfl (ns:=ns) (a:=a) (b:=b) (c:=c) (a':=a') (b':=b') (c':=c') (1 + v) (by omega) (N:=59) (k:=k) (most:=5 - (1 + v)) (by omega) hk (by omega)
 obtain⟨r1,m1,f1⟩:=mx 20 (by decide);obtain⟨r2,m2,f2⟩:=mx 40 (by decide);have c1:(5:Int) - (1 + (v:Int))=((5 - (1 + v):Nat):Int):=by omega
 have c2:(1:Int) + (v:Int)=((1 + v:Nat):Int):=by omega
 have t1:aI fs 59 17 [.br ns,.int 20,.int (1 + (v:Int)),.lst [.str a,.str b,.str c],.lst [.str a',.str b',.str c'],.int (5 - (1 + (v:Int)))] none= .ok (.tup (aa r1),none):=by rw[c1,c2];exact m1
 have t2:aI fs 59 17 [.br ns,.int 40,.int (1 + (v:Int)),.lst [.str a,.str b,.str c],.lst [.str a',.str b',.str c'],.int (5 - (1 + (v:Int)))] none= .ok (.tup (aa r2),none):=by rw[c1,c2];exact m2
 refine aJ (d:= .lst [.str a,.str b,.str c]) (S1:=none) (by simp only[RX,G3]) rfl (aJ (d:= .lst [.str a',.str b',.str c']) (S1:=none) (by simp only[RX,Cu]) rfl (aJ (d:= .int (1 + v)) (S1:=none) (by simp only[RX,q1]) rfl (aJ (d:= .tup (aa r1)) (S1:=none) (by simp only[RX,t1]) rfl (aJ (d:= .tup (aa r2)) (S1:=none) (by simp only[RX,t2]) rfl ?_))));by_cases hw:w=0
 ·subst hw;obtain⟨g1,k1,j1⟩:=pf (fs:=fs) (ic:=10) (ig:=18) rfl rfl (N:=59) (k:=3) (by decide) (by decide) (ns:=ns) f1;obtain⟨g2,k2,j2⟩:=pf (fs:=fs) (ic:=10) (ig:=18) rfl rfl (N:=59) (k:=8) (by decide) (by decide) (ns:=ns) f2;have Jk:aI fs 59 18 [.br ns,.int 3,.tup (aa r1)] none= .ok (.tup (aa g1),none):=k1;have OJ:aI fs 59 18 [.br ns,.int 8,.tup (aa r2)] none= .ok (.tup (aa g2),none):=k2;refine kc (S1:=none) (by simp only[RX,q2];rfl) (aJ (d:= .tup (aa g1)) (S1:=none) (by simp only[RX,Jk]) rfl (aJ (d:= .tup (aa g2)) (S1:=none) (by simp only[RX,OJ]) rfl ?_));have:=tJ (ns:=ns) (x1:=some (.lst [.str a,.str b,.str c])) (x2:=some (.lst [.str a',.str b',.str c'])) (x3:=some (.int (1 + v))) (by omega) j1 j2;rw[uE,uE] at this;exact this
 ·have e0:((w:Int)==0)=false:=by simpa using hw
  refine eE (S1:=none) (by simp only[RX,q2,e0]) ?_;have:=tJ (ns:=ns) (x1:=some (.lst [.str a,.str b,.str c])) (x2:=some (.lst [.str a',.str b',.str c'])) (x3:=some (.int (1 + v))) (by omega) f1 f2;rw[uE,uE] at this;exact this
end K62
end
section
open PySem PySem.W PyProof.Rows Rx
set_option maxHeartbeats 0 in
theorem PySem.Challenge.cw_mixform_k62_bonds_and_equations_holds : PySem.Challenge.rw_mixform_k62_bonds_and_equations.Holds := by
 w_on;o_law;k_head;(case hw=>w_witness2)
 k_fill
 refine walkR (k:=60) (l:=PySem.Challenge.rw_mixform_k62_bonds_and_equations) rfl rfl ⟨rfl,by decide,by decide⟩ (λw h Y=>kIn_of Y) ?F
 case F=>
  intro w mg fa h KX G hmg;refine law_mk (rs:=K62.rows) (cons:=K62.cons) (bls:=K62.bls) (L:=30) (n:=59) KX G hmg rfl K62.hok K62.hfs (λs v _ _ _ _ _ _=> .of_eq rfl) K62.law_true ?B trivial ?D
  case B=>exact⟨by k_is,by k_is,by k_is,by k_is,by k_is,by k_is,by k_is,by k_is,by k_is,by k_is,by k_is,by k_is,by k_is,by k_is,trivial⟩
  case D=>
   refine⟨?_,?_,?_,?_,?_,?_,?_,?_,?_,?_,?_,?_,?_,?_,?_,?_,?_,?_,?_,?_,?_,?_,?_,?_,?_,?_,?_,?_,?_,?_,?_,trivial⟩
   ·exact⟨_,_,_,_,_,_,_,_,_,_,_,by k_is,by k_is,by k_is,by k_is,λ_=>rfl,binds0 λus hl=>match us,hl with | [_],_=>rfl⟩
   ·exact⟨_,_,_,_,_,_,_,_,_,_,_,by k_is,by k_is,by k_is,by k_is,λ_=>rfl,binds0 λus hl=>match us,hl with | [_],_=>rfl⟩
   ·exact⟨_,_,_,_,_,_,_,_,_,_,_,by k_is,by k_is,by k_is,by k_is,λ_=>rfl,binds0 λus hl=>match us,hl with | [_],_=>rfl⟩
   ·exact⟨_,_,_,_,_,_,_,_,_,_,_,by k_is,by k_is,by k_is,by k_is,λ_=>rfl,binds0 λus hl=>match us,hl with | [_],_=>rfl⟩
   ·exact⟨_,_,_,_,_,_,_,_,_,_,_,by k_is,by k_is,by k_is,by k_is,λ_=>rfl,binds0 λus hl=>match us,hl with | [_,_],_=>rfl⟩
   ·exact⟨_,_,_,_,_,_,_,_,_,_,_,by k_is,by k_is,by k_is,by k_is,λ_=>rfl,binds0 λus hl=>match us,hl with | [_,_],_=>rfl⟩
   ·exact⟨_,_,_,_,_,_,_,_,_,_,_,by k_is,by k_is,by k_is,by k_is,λ_=>rfl,binds0 λus hl=>match us,hl with | [_,_,_],_=>rfl⟩
   ·exact⟨_,_,_,_,_,_,_,_,_,_,_,by k_is,by k_is,by k_is,by k_is,λ_=>rfl,binds0 λus hl=>match us,hl with | [_,_],_=>rfl⟩
   ·exact⟨_,_,_,_,_,_,_,_,_,_,_,by k_is,by k_is,by k_is,by k_is,λ_=>rfl,binds0 λus hl=>match us,hl with | [_,_],_=>rfl⟩
   ·exact⟨_,_,_,_,_,_,_,_,_,_,_,by k_is,by k_is,by k_is,by k_is,λ_=>rfl,binds0 λus hl=>match us,hl with | [_,_],_=>rfl⟩
   ·exact⟨_,_,_,_,_,_,_,_,_,_,_,by k_is,by k_is,by k_is,by k_is,λ_=>rfl,binds0 λus hl=>match us,hl with | [_,_],_=>rfl⟩
   ·exact⟨_,_,_,_,_,_,_,_,_,_,_,by k_is,by k_is,by k_is,by k_is,λ_=>rfl,binds0 λus hl=>match us,hl with | [_,_,_],_=>rfl⟩
   ·exact⟨_,_,_,_,_,_,_,_,_,_,_,by k_is,by k_is,by k_is,by k_is,λ_=>rfl,binds0 λus hl=>match us,hl with | [_,_,_],_=>rfl⟩
   ·exact⟨_,_,_,_,_,_,_,_,_,_,_,by k_is,by k_is,by k_is,by k_is,λ_=>rfl,binds0 λus hl=>match us,hl with | [_,_],_=>rfl⟩
   ·exact⟨_,_,_,_,_,_,_,_,_,_,_,by k_is,by k_is,by k_is,by k_is,λ_=>rfl,binds0 λus hl=>match us,hl with | [_,_],_=>rfl⟩
   ·exact⟨_,_,_,_,_,_,_,_,_,_,_,by k_is,by k_is,by k_is,by k_is,λ_=>rfl,binds0 λus hl=>match us,hl with | [_,_],_=>rfl⟩
   ·exact⟨_,_,_,_,_,_,_,_,_,_,_,by k_is,by k_is,by k_is,by k_is,λ_=>rfl,binds0 λus hl=>match us,hl with | [_],_=>rfl⟩
   ·exact⟨_,_,_,_,_,_,_,_,_,_,_,by k_is,by k_is,by k_is,by k_is,λ_=>rfl,binds0 λus hl=>match us,hl with | [_,_,_,_,_,_],_=>rfl⟩
   ·exact⟨_,_,_,_,_,_,_,_,_,_,_,by k_is,by k_is,by k_is,by k_is,λ_=>rfl,binds0 λus hl=>match us,hl with | [_,_,_],_=>rfl⟩
   ·exact⟨_,_,_,_,_,_,_,_,_,_,_,by k_is,by k_is,by k_is,by k_is,λ_=>rfl,binds0 λus hl=>match us,hl with | [_],_=>rfl⟩
   ·exact⟨_,_,_,_,_,_,_,_,_,_,_,by k_is,by k_is,by k_is,by k_is,λ_=>rfl,binds0 λus hl=>match us,hl with | [_],_=>rfl⟩
   ·exact⟨_,_,_,_,_,_,_,_,_,_,_,by k_is,by k_is,by k_is,by k_is,λ_=>rfl,binds0 λus hl=>match us,hl with | [_,_],_=>rfl⟩
   ·exact⟨_,_,_,_,_,_,_,_,_,_,_,by k_is,by k_is,by k_is,by k_is,λ_=>rfl,binds0 λus hl=>match us,hl with | [_,_],_=>rfl⟩
   ·exact⟨_,_,_,_,_,_,_,_,_,_,_,by k_is,by k_is,by k_is,by k_is,λ_=>rfl,binds0 λus hl=>match us,hl with | [_,_],_=>rfl⟩
   ·exact⟨_,_,_,_,_,_,_,_,_,_,_,by k_is,by k_is,by k_is,by k_is,λ_=>rfl,binds0 λus hl=>match us,hl with | [_,_,_],_=>rfl⟩
   ·exact⟨_,_,_,_,_,_,_,_,_,_,_,by k_is,by k_is,by k_is,by k_is,λ_=>rfl,binds0 λus hl=>match us,hl with | [_,_,_],_=>rfl⟩
   ·exact⟨_,_,_,_,_,_,_,_,_,_,_,by k_is,by k_is,by k_is,by k_is,λ_=>rfl,binds0 λus hl=>match us,hl with | [_,_],_=>rfl⟩
   ·exact⟨_,_,_,_,_,_,_,_,_,_,_,by k_is,by k_is,by k_is,by k_is,λ_=>rfl,binds0 λus hl=>match us,hl with | [_,_],_=>rfl⟩
   ·exact⟨_,_,_,_,_,_,_,_,_,_,_,by k_is,by k_is,by k_is,by k_is,λ_=>rfl,binds0 λus hl=>match us,hl with | [_,_],_=>rfl⟩
   ·exact⟨_,_,_,_,_,_,_,_,_,_,_,by k_is,by k_is,by k_is,by k_is,λ_=>rfl,binds0 λus hl=>match us,hl with | [_,_],_=>rfl⟩
   ·exact⟨_,_,_,_,_,_,_,_,_,_,_,by k_is,by k_is,by k_is,by k_is,λ_=>rfl,binds0 λus hl=>match us,hl with | [_],_=>rfl⟩
#print axioms PySem.Challenge.cw_mixform_k62_bonds_and_equations_holds
end