import PyProof.Rows.All
import Wide.All
import OpenK.AllK
import Wide.FinOn
import Lean
import PyProof.EqAt
import PyProof.EqKinds
import PyProof.TupleCall
import PyProof.NeKinds
import PyProof.ExcBaseAll.ValueError
import KE.KTryMore
import PyProof.Rows.CallKwBuiltin
import PySem.Challenge.RW_mixform_k62_bonds_and_equations
set_option Elab.async false
set_option linter.all false
set_option maxRecDepth 100000
set_option maxHeartbeats 4000000
set_option bootstrap.genMatcherCode false
section
open PySem PySem.W PySem.Spec PyProof.Rows
def Qg:=@wpAny_bind
def Qh:=@Option.bind_eq_some_iff
def Qi:=@Heap.get?_push_of_some
def Qj:=@wpAny_pure
def Qk:=@Bool.and_eq_true
def Ql:=@List.size_toArray
def Qm:=@of_decide_eq_true
def Qn:=@List.getElem?_eq_some_iff
def Qo:=@List.mem_cons_of_mem
def Qp:=@kasC_bind
def Qq:=@Nat.le_refl
def Qr:=@List.mem_cons_self
def Qs:=@Heap.get?_push_size
def Qt:=@kasC_pure
def Qu:=@List.length_map
def Qv:=@Heap.lt_size
def Qw:=@Nat.le_trans
def Qx:=@List.mem_cons
def Qy:=@List.not_mem_nil
def Qz:=@List.append_assoc
def QA:=@Option.map_eq_some_iff
def QB:=@List.length_append
def QC:=@List.getElem?_set_ne
def QD:=@List.length_cons
def QE:=@List.getElem?_map
def QF:=@Array.length_toList
def QG:=@Nat.lt_of_lt_of_le
def QH:=@List.mem_append
def QI:=@eq_of_beq
def QJ:=@List.getElem?_eq_getElem
def QK:=@decide_eq_false
def QL:=@List.lookup_cons
def QM:=@KeyOrd.kle_trans
def QN:=@Heap.get?_update_other
def QO:=@decide_eq_true
def QP:=@Heap.size_push
def QQ:=@Nat.ne_of_lt
def QR:=@List.mem_append_right
def QS:=@wpAny_setField_rec
def QT:=@List.mem_singleton
def QU:=@List.mem_map
def QV:=@List.all_eq_true
def QW:=@Int.emod_nonneg
def QX:=@Int.emod_lt_of_pos
def QY:=@List.append_nil
def QZ:=@Bool.or_eq_true
def Q0:=@List.getElem?_append_left
def Q1:=@List.getElem?_append_right
def Q2:=@List.map_cons
def Q3:=@List.map_append
def Q4:=@List.getElem?_set_self
def Q5:=@List.mem_range
def Q6:=@Array.size_push
end
section
namespace L2
open PySem PySem.Spec PyProof.Rows
noncomputable abbrev Key:=Sum Int Str
noncomputable def Cw:Key->Value->Bool
 | .inl k,v=>Value.isInt k v
 | .inr x,v=>Value.isStrOf x v
noncomputable def LA (w:World):Key->Int
 | .inl k=>hashInt k
 | .inr x=>hashStr w x
theorem bh:∀{k:Key} {v:Value},Cw k v=true->(∃i t,k=Sum.inl i/\v=Value.int i t)\/(∃x t,k=Sum.inr x/\v=Value.str x t)
 | .inl i,v,h=>by obtain⟨t,e⟩:=Value.isInt_shape (k:=i) (v:=v) h;exact .inl ⟨i,t,rfl,e⟩
 | .inr x,v,h=>by obtain⟨t,e⟩:=Value.isStrOf_shape (x:=x) (v:=v) h;exact .inr ⟨x,t,rfl,e⟩
theorem DS (a b:Int):decide ((Sum.inl a:Key)=Sum.inl b)=(a==b):=by
 by_cases e:a=b
 ·subst e;simp
 ·have h:¬(Sum.inl a:Key)=Sum.inl b:=λq=>e (Sum.inl.inj q)
  rw[QK h];exact(beq_eq_false_iff_ne.mpr e).symm
theorem DW (a b:Str):decide ((Sum.inr a:Key)=Sum.inr b)=decide (a=b):=by
 by_cases e:a=b
 ·subst e;simp
 ·have h:¬(Sum.inr a:Key)=Sum.inr b:=λq=>e (Sum.inr.inj q)
  rw[QK h,QK e]
theorem DT (a:Int) (b:Str):decide ((Sum.inl a:Key)=Sum.inr b)=false:=QK (λq=>nomatch q)
theorem DU (a:Str) (b:Int):decide ((Sum.inr a:Key)=Sum.inl b)=false:=QK (λq=>nomatch q)
noncomputable def nX (prog:Program) (w:World):PySem.KeyKind prog w Key where
 is:=Cw
 hash:=LA w
 inj:=λv a b ha hb=>by
  rcases bh ha with ⟨i,t,rfl,rfl⟩ | ⟨x,t,rfl,rfl⟩
  ·rcases bh hb with ⟨j,u,rfl,e⟩ | ⟨y,u,rfl,e⟩
   ·injection e with e1 _;rw[e1]
   ·exact nomatch e
  ·rcases bh hb with ⟨j,u,rfl,e⟩ | ⟨y,u,rfl,e⟩
   ·exact nomatch e
   ·injection e with e1 _;rw[e1]
 byValue:=λk v h=>by rcases bh h with ⟨i,t,rfl,rfl⟩ | ⟨x,t,rfl,rfl⟩ <;> rfl
 pyHash:=λhv h=>by
  rcases bh hv with ⟨i,t,rfl,rfl⟩ | ⟨x,t,rfl,rfl⟩
  ·exact wpAny_pyHash_int h
  ·exact wpAny_pyHash_str h
 eqBool:=λhu hv h=>by
  rcases bh hu with ⟨i,t,rfl,rfl⟩ | ⟨x,t,rfl,rfl⟩
  ·rcases bh hv with ⟨j,u,rfl,rfl⟩ | ⟨y,u,rfl,rfl⟩
   ·rw[DS] at h;exact wpAny_eqBool_int h
   ·rw[DT] at h;exact SeqAt.EqAt.int_str i t y u _ _ _ _ h
  ·rcases bh hv with ⟨j,u,rfl,rfl⟩ | ⟨y,u,rfl,rfl⟩
   ·rw[DU] at h;exact SeqAt.EqAt.str_int x t j u _ _ _ _ h
   ·rw[DW] at h;exact wpAny_eqBool_str h
 «strs»:=λk x t v h=>by
  rcases bh h with ⟨i,u,rfl,e⟩ | ⟨y,u,rfl,e⟩
  ·exact nomatch e
  ·injection e with e1 _;subst e1;cases v <;> rfl
end L2
namespace L2
open PySem PySem.Spec PyProof.Rows
inductive V where
 | bq | bl (b:Bool) | int (i:Int) | str (x:Str) | C9 (b:Array UInt8) | zW (b:UInt64) | ref (a:Addr) | ty (n:String)
 deriving DecidableEq
noncomputable def RelV:V->Value->Prop
 | .bq,u=>u=Value.none
 | .bl b,u=>u=Value.bool b
 | .int i,u=>∃t,u=Value.int i t
 | .str x,u=>∃t,u=Value.str x t
 | .C9 b,u=>∃t,u=Value.bytes b t
 | .zW b,u=>∃t,u=Value.float b t
 | .ref a,u=>u=Value.ref a
 | .ty n,u=>u=Value.type n
noncomputable abbrev ax:List V->List Value->Prop:=Paired RelV
theorem ax.length {xs:List V} {us:List Value} (r:ax xs us):xs.length=us.length:=Paired.length r
theorem ax.get:∀{xs:List V} {us:List Value} {i:Nat} {x:V},ax xs us->xs[i]?=some x->∃u,us[i]?=some u/\RelV x u
 | _,_,_,_,.nil,e=>by simp at e
 | _,_,0,_,.cons r _,e=>by simp at e;subst e;exact⟨_,rfl,r⟩
 | _,_,i + 1,x,.cons _ t,e=>by obtain⟨u,h1,h2⟩:=ax.get (i:=i) (x:=x) t (by simpa using e);exact⟨u,by simpa using h1,h2⟩
theorem ax.set {x:V} {u:Value} (r:RelV x u):∀{xs:List V} {us:List Value} (i:Nat),ax xs us->ax (xs.set i x) (us.set i u)
 | _,_,_,.nil=> .nil
 | _,_,0,.cons _ t=> .cons r t
 | _,_,i + 1,.cons q t=> .cons q (ax.set r i t)
theorem ax.append:∀{xs ys:List V} {us ws:List Value},ax xs us->ax ys ws->ax (xs++ys) (us++ws)
 | _,_,_,_,.nil,s=>s
 | _,_,_,_,.cons r t,s=> .cons r (ax.append t s)
theorem ax.take:∀{xs:List V} {us:List Value} (n:Nat),ax xs us->ax (xs.take n) (us.take n)
 | _,_,0,_=> .nil
 | _,_,_ + 1,.nil=> .nil
 | _,_,n + 1,.cons r t=> .cons r (ax.take n t)
theorem ax.drop:∀{xs:List V} {us:List Value} (n:Nat),ax xs us->ax (xs.drop n) (us.drop n)
 | _,_,0,r=>r
 | _,_,_ + 1,.nil=> .nil
 | _,_,n + 1,.cons _ t=>ax.drop n t
noncomputable def CW:Option V->Option Value->Prop
 | some v,some u=>RelV v u
 | none,none=>True
 | _,_=>False
noncomputable def KV {κ:Type}:List (κ×V)->List (κ×Value)->Prop:=Paired λ(p:κ×V) (q:κ×Value)=>p.1=q.1/\RelV p.2 q.2
noncomputable def kV:Key->V
 | .inl i=> .int i
 | .inr x=> .str x
inductive HO where
 | lst (xs:List V)
 | tup (xs:List V)
 | dK (e9:List (Key×V)) | dT (e9:List (List Key×V))
 | set (S:Int->Bool) (n:Nat)
 | ins (C dx:Addr) (fs:List (Str×V))
 | own (x:Addr)
 | xd (fs:List (Str×V))
 | met (f x:Addr)
 | L8 (lo hi:Int)
 | tV (o:Obj) (u:HO)
 | Ae (ps:Array Value)
 | ext (φ:Heap->Prop)
noncomputable abbrev Hp:=Addr->Option HO
noncomputable def upd (H:Hp) (a:Addr) (o:HO):Hp:=λb=>if b=a then some o else H b
theorem aB {H:Hp} {a:Addr} {o:HO}:upd H a o a=some o:=by unfold upd;rw[if_pos rfl]
theorem aq {H:Hp} {a b:Addr} {o:HO} (h:b≠a):upd H a o b=H b:=by unfold upd;rw[if_neg h]
theorem aw {H:Hp} {a b:Addr} {o:HO} (h:H a=some o) (h':H b=none):a≠b:=by intro e;subst e;rw[h] at h';cases h'
section
variable (P:Program) (w:World)
noncomputable def bV (H:Hp) (h:Heap) (a:Addr):HO->Prop
 | .lst xs=>xs.length<=sizeLine/\∃(its:List Value) (n:Nat),ax xs its/\h.get? a=some {cls:= .type "list",data:= .seq its.toArray n}
 | .tup xs=>xs.length<=sizeLine/\∃its:List Value,ax xs its/\IsTup h a its.toArray
 | .dK e9=>e9.length<=sizeLine/\(a==sysModules)=false/\∃vs,KV e9 vs/\h.DictOf (nX P w) a vs
 | .dT e9=>e9.length<=sizeLine/\(a==sysModules)=false/\∃xs:List (List Key×Addr×Value),
   Paired (λ(p:List Key×V) (q:List Key×Addr×Value)=>p.1=q.1/\H q.2.1=some (.tup (p.1.map kV))/\RelV p.2 q.2.2) e9 xs/\
   ∃o es ep,h.get? a=some o/\o.ExactDict/\o.data= .dict es ep/\es.toList=xs.map (entryOfKey (tupleKind (nX P w)))/\(xs.map (·.1)).Nodup
 | .set S n=>h.SetOf (intKind P w) a S n
 | .ins C dx fs=>H dx=some (.own a)/\fs.length<=1000/\dx≠a/\h.get? a=some (PySem.W.instObj C dx)/\
   ∃mA,h.Ns1 dx mA/\(∀f,CW (fs.lookup f) (mA f))/\PySem.Within mA (fs.map (·.1))
 | .own _=>∃o,h.get? a=some o
 | .xd fs=>∃mA,h.Ns1 a mA/\∀f,CW (fs.lookup f) (mA f)
 | .L8 lo hi=>∃t u v,h.get? a=some {cls:= .type "range",data:= .fields #[.int lo t,.int hi u,.int 1 v]}
 | .tV o u=>h.get? a=some o/\bV H h a u
 | .Ae ps=>h.get? a=some {cls:= .none,data:= .fields ps}
 | .met f x=>h.get? a=some (PySem.W.methodObj (.ref f) (.ref x))
 | .ext φ=>φ h/\(∃o,h.get? a=some o)/\∀h1 h2:Heap,φ h1->(∀o,h1.get? a=some o->h2.get? a=some o)->φ h2
noncomputable def eK (H:Hp) (h:Heap):Prop:=∀a o,H a=some o->bV P w H h a o
end
section
variable {P:Program} {w:World} {H H':Hp} {h h':Heap} {a:Addr} {o:HO}
theorem bV.lt (x:bV P w H h a o):a < h.objs.size:=by
 cases o with
 | lst xs=>obtain⟨_,_,_,_,e⟩:=x;exact Qv e
 | tup xs=>obtain⟨_,_,_,p⟩:=x;exact p.lt
 | dK e9=>obtain⟨_,_,_,_,o,_,_,e,_⟩:=x;exact Qv e
 | dT e9=>obtain⟨_,_,_,_,o,_,_,e,_⟩:=x;exact Qv e
 | set S n=>obtain⟨o,_,_,_,e,_⟩:=x;exact Qv e
 | ins C dx fs=>obtain⟨_,_,_,e,_⟩:=x;exact Qv e
 | own y=>obtain⟨_,e⟩:=x;exact Qv e
 | xd fs=>obtain⟨_,⟨_,_,_,e,_⟩,_⟩:=x;exact Qv e
 | L8 lo hi=>obtain⟨_,_,_,e⟩:=x;exact Qv e
 | tV ob u=>obtain⟨e,_⟩:=x;exact Qv e
 | Ae ps=>exact Qv (show h.get? a=some _ from x)
 | met f y=>exact Qv (show h.get? a=some _ from x)
 | ext φ=>obtain⟨_,⟨_,e⟩,_⟩:=x;exact Qv e
theorem Paired.Ho {α β:Type} {F G:α->β->Prop}:∀{l₁:List α} {l₂:List β},Paired F l₁ l₂->(∀a b,F a b->G a b)->Paired G l₁ l₂
 | _,_,.nil,_=> .nil
 | _,_,.cons r t,f=> .cons (f _ _ r) (Paired.Ho t f)
theorem bV.ji (x:bV P w H h a o) (k:∀b u,(b=a\/H b=some (.own a))->h.get? b=some u->h'.get? b=some u)
  (ho:∀b,H b=some (.own a)->H' b=some (.own a)) (ht:∀b xs,H b=some (.tup xs)->H' b=some (.tup xs)):bV P w H' h' a o:=by
 induction o with
 | lst xs=>obtain⟨z,its,n,r,e⟩:=x;exact⟨z,its,n,r,k _ _ (.inl rfl) e⟩
 | tup xs=>obtain⟨z,its,r,ob,e,c⟩:=x;exact⟨z,its,r,ob,k _ _ (.inl rfl) e,c⟩
 | dK e9=>obtain⟨z,y,vs,r,ob,es,ep,e,c⟩:=x;exact⟨z,y,vs,r,ob,es,ep,k _ _ (.inl rfl) e,c⟩
 | dT e9=>obtain⟨z,y,xs,r,ob,es,ep,e,c⟩:=x;exact⟨z,y,xs,Paired.Ho r λp q z=>⟨z.1,ht _ _ z.2.1,z.2.2⟩,ob,es,ep,k _ _ (.inl rfl) e,c⟩
 | set S n=>obtain⟨ob,es,ep,t,e,c⟩:=x;exact⟨ob,es,ep,t,k _ _ (.inl rfl) e,c⟩
 | ins C dx fs=>obtain⟨d,z,ne,e,mA,⟨od,es,ep,e2,c⟩,r⟩:=x;exact⟨ho _ d,z,ne,k _ _ (.inl rfl) e,mA,⟨od,es,ep,k _ _ (.inr d) e2,c⟩,r⟩
 | own y=>obtain⟨ob,e⟩:=x;exact⟨ob,k _ _ (.inl rfl) e⟩
 | xd fs=>obtain⟨mA,⟨od,es,ep,e,c⟩,r⟩:=x;exact⟨mA,⟨od,es,ep,k _ _ (.inl rfl) e,c⟩,r⟩
 | L8 lo hi=>obtain⟨t,u,v,e⟩:=x;exact⟨t,u,v,k _ _ (.inl rfl) e⟩
 | tV ob u ih=>obtain⟨e,q⟩:=x;exact⟨k _ _ (.inl rfl) e,ih q⟩
 | Ae ps=>have e:h.get? a=some {cls:= .none,data:= .fields ps}:=x;show h'.get? a=some {cls:= .none,data:= .fields ps};exact k a _ (.inl rfl) e
 | met f y=>have e:h.get? a=some (PySem.W.methodObj (.ref f) (.ref y)):=x;show h'.get? a=some (PySem.W.methodObj (.ref f) (.ref y));exact k a _ (.inl rfl) e
 | ext φ=>obtain⟨p,⟨o,e⟩,st⟩:=x;exact⟨st _ _ p λo q=>k _ _ (.inl rfl) q,⟨o,k _ _ (.inl rfl) e⟩,st⟩
theorem eK.lt (x:eK P w H h) (e:H a=some o):a < h.objs.size:=(x a o e).lt
theorem eK.fresh (x:eK P w H h) (e:h.objs.size<=a):H a=none:=by
 cases q:H a with
 | none=>rfl
 | some u=>exact absurd (QG (x.lt q) e) (Nat.lt_irrefl _)
theorem eK.kept (x:eK P w H h) (k:∀b u,h.get? b=some u->h'.get? b=some u):eK P w H h':=λa o e=>
 (x a o e).ji (λb u _ q=>k b u q) (λ_ q=>q) λ_ _ q=>q
theorem eK.laid (x:eK P w H h) (k:∀b u,h.get? b=some u->h'.get? b=some u) (hp:h.objs.size<=a) (new:bV P w (upd H a o) h' a o):eK P w (upd H a o) h':=λb u e=>by
 have hn:=x.fresh hp;by_cases hb:b=a
 ·subst hb;rw[aB] at e;cases e;exact new
 ·rw[aq hb] at e;exact(x b u e).ji (λc v _ q=>k c v q) (λc q=>by rw[aq (aw q hn)];exact q) λc xs q=>by rw[aq (aw q hn)];exact q
end
noncomputable def Rd (H:Hp) (a:Addr) (u:HO):Prop:=H a=some u\/∃o,H a=some (.tV o u)
theorem Rd.ok {P:Program} {w:World} {H:Hp} {h:Heap} {a:Addr} {u:HO} (r:Rd H a u) (x:eK P w H h):bV P w H h a u:=by
 rcases r with r | ⟨o,r⟩
 ·exact x a u r
 ·obtain⟨_,q⟩:=x a _ r;exact q
noncomputable def Jb:Option HO->Prop
 | some (.lst _)=>True
 | some (.dK _)=>True
 | some (.dT _)=>True
 | some (.set _ _)=>True
 | some (.ins _ _ _)=>True
 | some (.ext _)=>True
 | _=>False
section
variable {P:Program} {w:World} {H:Hp} {h h':Heap} {x e:Addr} {o':HO}
theorem eK.write (ok:eK P w H h) (mu:Jb (H x)) (he:e=x\/H e=some (.own x)) (k:∀b u,b≠e->h.get? b=some u->h'.get? b=some u) (FF:∃u,h'.get? e=some u)
  (new:bV P w (upd H x o') h' x o'):eK P w (upd H x o') h':=λb u q=>by
 have Hu:∀c y,H c=some (.own y)->c≠x:=λc y r z=>by subst z;rw[r] at mu;exact mu
 have LP:∀c xs,H c=some (.tup xs)->c≠x:=λc xs r z=>by subst z;rw[r] at mu;exact mu
 by_cases hb:b=x
 ·subst hb;rw[aB] at q;cases q;exact new
 ·rw[aq hb] at q;by_cases hbe:b=e
  ·have q':H b=some (.own x):=by
    rcases he with z | z
    ·exact absurd (hbe.trans z) hb
    ·rw[hbe];exact z
   rw[q] at q';cases q';obtain⟨v,hv⟩:=FF;exact⟨v,by rw[hbe];exact hv⟩
  ·refine(ok b u q).ji (λc v hc r=>k c v ?_ r) (λc r=>by rw[aq (Hu c b r)];exact r) λc xs r=>by rw[aq (LP c xs r)];exact r
   rcases hc with rfl | hc
   ·exact hbe
   ·rintro rfl;rcases he with z | z
    ·exact Hu c b hc z
    ·rw[hc] at z;cases z;exact hb rfl
end
structure Un (fs ex:List Addr) (H H':Hp) (h h':Heap):Prop where
 keep:∀b o,h.get? b=some o->H b=none->b∉fs->b∉ex->h'.get? b=some o
 slot:∀b o,h.get? b=some o->H b=none->b∈fs->b∉ex->∃sl,h'.get? b=some {o with slots:=sl}
 free:∀b o,h.get? b=some o->H b=none->b∉ex->H' b=none
 there:∀b o,h.get? b=some o->b∉ex->∃o',h'.get? b=some o'
 tups:∀b xs,H b=some (.tup xs)->H' b=some (.tup xs)
 frzs:∀b o u,H b=some (.tV o u)->H' b=some (.tV o u)
 tbls:∀b ps,H b=some (.Ae ps)->∃more,H' b=some (.Ae (ps++more))
section
variable {fs Kt ex PM:List Addr} {H H1 H2:Hp} {h h1 h2 h':Heap} {a x e:Addr} {o:HO}
theorem Un.any (u:Un fs ex H H1 h h1) {b:Addr} {ob:Obj} (q:h.get? b=some ob) (n:H b=none) (hx:b∉ex):∃sl,h1.get? b=some {ob with slots:=sl}:=by
 by_cases hb:b∈fs
 ·exact u.slot b ob q n hb hx
 ·exact⟨ob.slots,u.keep b ob q n hb hx⟩
theorem Un.trans (a:Un fs ex H H1 h h1) (b:Un fs ex H1 H2 h1 h2):Un fs ex H H2 h h2 where
 keep:=λc ob q n hc hx=>b.keep c ob (a.keep c ob q n hc hx) (a.free c ob q n hx) hc hx
 slot:=λc ob q n hc hx=>by obtain⟨sl,e1⟩:=a.slot c ob q n hc hx;obtain⟨Il,e2⟩:=b.slot c _ e1 (a.free c ob q n hx) hc hx;exact⟨Il,e2⟩
 free:=λc ob q n hx=>by obtain⟨o',e1⟩:=a.there c ob q hx;exact b.free c o' e1 (a.free c ob q n hx) hx
 there:=λc ob q hx=>by obtain⟨o',e1⟩:=a.there c ob q hx;exact b.there c o' e1 hx
 tups:=λc xs q=>b.tups c xs (a.tups c xs q)
 frzs:=λc ob xs q=>b.frzs c ob xs (a.frzs c ob xs q)
 tbls:=λc ps q=>by obtain⟨m1,e1⟩:=a.tbls c ps q;obtain⟨m2,e2⟩:=b.tbls c _ e1;exact⟨m1++m2,by rw[e2,Array.append_assoc]⟩
theorem Un.kept (k:∀b u,h.get? b=some u->h'.get? b=some u):Un fs ex H H h h':=
 ⟨λb ob q _ _ _=>k b ob q,λb ob q _ _ _=>⟨ob.slots,k b ob q⟩,λ_ _ _ n _=>n,λb ob q _=>⟨ob,k b ob q⟩,λ_ _ q=>q,λ_ _ _ q=>q,λ_ ps q=>⟨#[],by rw[q];simp⟩⟩
theorem Un.refl:Un fs ex H H h h:=Un.kept λ_ _ q=>q
theorem Un.laid (k:∀b u,h.get? b=some u->h'.get? b=some u) (hp:h.objs.size<=a) (hn:H a=none):Un fs ex H (upd H a o) h h' where
 keep:=λb u q _ _ _=>k b u q
 slot:=λb u q _ _ _=>⟨u.slots,k b u q⟩
 free:=λb u q n _=>by rw[aq (QQ (QG (Qv q) hp))];exact n
 there:=λb u q _=>⟨u,k b u q⟩
 tups:=λb xs q=>by rw[aq (aw q hn)];exact q
 frzs:=λb u xs q=>by rw[aq (aw q hn)];exact q
 tbls:=λb ps q=>⟨#[],by rw[aq (aw q hn),q];simp⟩
theorem Un.write (mu:Jb (H x)) (he:e=x\/H e=some (.own x)) (k:∀b u,b≠e->h.get? b=some u->h'.get? b=some u) (FF:∃u,h'.get? e=some u):Un fs ex H (upd H x o) h h':=by
 have hx:∀b,H b=none->b≠x:=λb n z=>by subst z;rw[n] at mu;exact mu
 have hb:∀b,H b=none->b≠e:=λb n z=>by
  subst z;rcases he with r | r
  ·exact hx b n r
  ·rw[n] at r;cases r
 have hm:∀b u,H b=some u->¬Jb (some u)->b≠x:=λb u q nm z=>by subst z;rw[q] at mu;exact nm mu
 refine⟨λb u q n _ _=>k b u (hb b n) q,λb u q n _ _=>⟨u.slots,k b u (hb b n) q⟩,λb u q n _=>by rw[aq (hx b n)];exact n,λb u q _=>?_,
  λb xs q=>by rw[aq (hm b _ q λz=>z)];exact q,λb u xs q=>by rw[aq (hm b _ q λz=>z)];exact q,λb ps q=>⟨#[],by rw[aq (hm b _ q λz=>z),q];simp⟩⟩
 by_cases hbe:b=e
 ·subst hbe;exact FF
 ·exact⟨u,k b u hbe q⟩
end
noncomputable def Fg (h:Heap) (H:Hp):List Addr:=(List.range h.objs.size).filter λa=>(H a).isSome
noncomputable def nN (h:Heap) (H:Hp):Heap:=PySem.W.hideAll h (Fg h H)
theorem vC (h:Heap) (H:Hp):(nN h H).objs.size=h.objs.size:=PySem.W.hideAll_size _ _
theorem ye {h:Heap} {H:Hp} {b:Addr} {o:Obj} (e:h.get? b=some o) (n:H b=none):(nN h H).get? b=some o:=
 PySem.W.hideAll_get _ e λhm=>by have q:(H b).isSome=true:=(List.mem_filter.mp hm).2;rw[n] at q;simp at q
theorem Bn {h:Heap} {H:Hp} {b:Addr} {o:Obj} (e:(nN h H).get? b=some o):h.get? b=some o/\H b=none:=by
 have e':h.get? b=some o:=PySem.W.of_hideAll (Fg h H) e;refine⟨e',?_⟩;cases q:H b with
 | none=>rfl
 | some x=>have hm:b∈Fg h H:=List.mem_filter.mpr ⟨Q5.mpr (Qv e'),by simp[q]⟩;have z:(nN h H).get? b=none:=PySem.W.hideAll_none (Fg h H) hm;rw[z] at e;cases e
noncomputable def Ap (g h:Heap) (L:Addr):List (Addr×Obj):=(List.range h.objs.size).filterMap λa=>if a=L\/(g.get? a).isSome=true then none else(h.get? a).map λo=>(a,o)
noncomputable def rest (g h:Heap) (L d:Addr):List (Addr×Obj):=(Ap g h L).filter λp=>decide (p.1≠d)
end L2
namespace L2
open PySem PySem.Spec PyProof.Rows
structure Mod (K:PySem.W.Frag) (mg:Str->Option Value) (base:Heap):Prop where
 LB:K.In base
 glob:base.Ns mainGlobals mg
 blt:∃mb,base.Ns builtinsNs mb/\∀x:Str,x≠"__name__"->mb x=bootBuiltins x
 nolimit:base.NoLimit
structure Cx where
 prog:Program
 w:World
 K:PySem.W.Frag
 mg:Str->Option Value
 base:Heap
 A:Around
 N:List Str
 s₀:Shared
 H₀:Hp
 env:Env
 outer:List Env
 stack:List Env
 ex:List Addr
 fn:Str->Bool
 calm:Bool
 pn:List (Addr×Obj)
 xe:Value->Shared->Prop
noncomputable def fk (l:List Env):List Addr:=l.filterMap (·.frame)
noncomputable abbrev Cx.fs (X:Cx):List Addr:=fk X.outer
noncomputable def F2 (sc:Scope) (x:Str):Prop:=sc.names.lookup x=some .local\/sc.names.lookup x=some .cell\/sc.names.lookup x=some .free
noncomputable def Loc (sc:Scope) (x:Str):Prop:=sc.names.lookup x=some .local\/sc.names.lookup x=some .cell
noncomputable def Look (env:Env) (h:Heap) (m:Str->Option Value) (x:Str) (u:Value):Prop:=
 (env.kindOf x=some .local/\m x=some u)\/((env.kindOf x=some .cell\/env.kindOf x=some .free)/\∃c,env.cells.lookup x=some c/\h.IsCell c (some u))
structure Cx.Ok (X:Cx):Prop where
 mod:Mod X.K X.mg X.base
 kind:X.env.scope.kind= .function
 glob:X.env.globals=mainGlobals
 blt:X.env.builtins=builtinsNs
 above:X.s₀.heap.objs.size<=X.env.locals
 inj:∀x y c,X.env.cells.lookup x=some c->X.env.cells.lookup y=some c->x=y
 has:∀x,(X.env.kindOf x=some .cell\/X.env.kindOf x=some .free)->∃c,X.env.cells.lookup x=some c
 B8:∀x c,X.fn x=true->X.env.cells.lookup x=some c->X.s₀.heap.objs.size<=c
 hd:X.calm=true->X.A.handled=none
 frames:X.A.frames=some X.stack
 E9:X.stack=X.outer\/(X.stack=X.env::X.outer/\X.env.frame=some X.env.locals)
 FC:∀b∈X.ex,b≠X.env.locals/\∀x c,X.env.cells.lookup x=some c->c≠b
 bs:∀b o,X.base.get? b=some o->X.s₀.heap.get? b=some o/\X.H₀ b=none
 Aw:X.base.objs.size<=X.s₀.heap.objs.size
 p5:∀b o,X.base.get? b=some o->b∉X.ex
 rB:∀b∈X.ex,b∉X.fs
 jy:X.s₀.heap.FunFrames X.base X.outer
 Dp:∀b∈X.fs,X.H₀ b=none
structure Inv (X:Cx) (pins:List (Addr×Obj)) (σ:List (Option V)) (H:Hp) (s:Shared):Prop where
 ok:X.Ok
 os:s.os=X.s₀.os
 bare:AllBare s.gens
 base:Un X.fs X.ex X.H₀ H X.s₀.heap s.heap
 loc:∃m,s.heap.Ns X.env.locals m/\∀(i:Nat) (x:Str) (v:V),X.N[i]?=some x->σ[i]?=some (some v)->F2 X.env.scope x->∃u,RelV v u/\Look X.env s.heap m x u
 cell:∀x c,X.env.cells.lookup x=some c->∃v,s.heap.IsCell c v
 free:H X.env.locals=none
 dH:∀x c,X.env.cells.lookup x=some c->H c=none
 pin:∀p∈X.pn++pins,s.heap.get? p.1=some p.2/\H p.1=none/\p.1≠X.env.locals/\p.1∉X.fs/\∀v,p.2.data≠ .cell v
 hok:eK X.prog X.w H s.heap
 len:σ.length=X.N.length
section
variable {X:Cx} {pins:List (Addr×Obj)} {σ:List (Option V)} {H H':Hp} {s:Shared} {h':Heap}
theorem Cx.Ok.LN (ok:X.Ok) {b:Addr} {o:Obj} (e:X.base.get? b=some o):b∉X.fs:=λhb=>by have:=(ok.jy.mem hb).1;rw[e] at this;cases this
theorem Inv.bs (I:Inv X pins σ H s):∀b o,X.base.get? b=some o->s.heap.get? b=some o/\H b=none:=λb o e=>
 ⟨I.base.keep b o (I.ok.bs b o e).1 (I.ok.bs b o e).2 (I.ok.LN e) (I.ok.p5 b o e),I.base.free b o (I.ok.bs b o e).1 (I.ok.bs b o e).2 (I.ok.p5 b o e)⟩
theorem Inv.bk (I:Inv X pins σ H s):∀b o,X.base.get? b=some o->s.heap.get? b=some o:=λb o e=>(I.bs b o e).1
theorem Inv.mod (I:Inv X pins σ H s):Mod X.K X.mg X.base:=I.ok.mod
theorem Inv.pR (I:Inv X pins σ H s):X.K.In s.heap:=I.ok.mod.LB.keeps I.bk
theorem Inv.fr (I:Inv X pins σ H s):∃m,Fr X.base X.env.locals s.heap m:=
 let ⟨m,hn,_⟩:=I.loc
 ⟨m,hn,I.bk,Qw I.ok.Aw I.ok.above⟩
theorem Inv.lt (I:Inv X pins σ H s):X.env.locals < s.heap.objs.size:=let ⟨_,hn,_⟩:=I.loc;hn.lt
theorem Inv.sz (I:Inv X pins σ H s):X.s₀.heap.objs.size<=s.heap.objs.size:=Qw I.ok.above (Nat.le_of_lt I.lt)
theorem Inv.LO (I:Inv X pins σ H s) {a:Addr} (h:s.heap.objs.size<=a):a∉X.fs:=λhb=>by obtain⟨_,o,ho,_⟩:=I.ok.jy.mem hb;exact absurd (QG (Qv ho) (Qw I.sz h)) (Nat.lt_irrefl _)
theorem Inv.Df (I:Inv X pins σ H s):∀x c,X.env.cells.lookup x=some c->c≠X.env.locals:=λx c e z=>by obtain⟨v,o,ho,hd⟩:=I.cell x c e;obtain⟨m,⟨o',es,ep,oQ,rG,_⟩,_⟩:=I.loc;rw[z,oQ] at ho;cases ho;rw[rG] at hd;cases hd
theorem Inv.jy (I:Inv X pins σ H s):s.heap.FunFrames X.base X.outer:=by
 have all:∀(l:List Env),(∀b∈fk l,b∈X.fs)->X.s₀.heap.FunFrames X.base l->s.heap.FunFrames X.base l:=by
  intro l
  induction l with
  | nil=>intro _ _;trivial
  | cons env r ih=>
   intro hs hl;obtain⟨hk,⟨L,o,hf,hn,ho,hd⟩,hr⟩:=hl;have hL:L∈X.fs:=hs L (by unfold fk;rw[List.filterMap_cons,hf];exact Qr);obtain⟨sl,e⟩:=I.base.slot L o ho (I.ok.Dp L hL) hL λz=>I.ok.rB L z hL
   exact⟨hk,⟨L,_,hf,hn,e,hd⟩,ih (λb hb=>hs b (by unfold fk;rw[List.filterMap_cons,hf];exact Qo _ hb)) hr⟩
 exact all X.outer (λ_ hb=>hb) I.ok.jy
theorem Inv.stack (I:Inv X pins σ H s):s.heap.FunFrames X.base X.stack:=by
 rcases I.ok.E9 with e | ⟨e,hf⟩
 ·rw[e];exact I.jy
 ·rw[e];obtain⟨m,hn,_⟩:=I.loc;refine .cons (by rw[I.ok.kind];decide) hf hn ?_ I.jy;exact Heap.get?_none_of_le (Qw I.ok.Aw I.ok.above)
theorem Inv.lh (I:Inv X pins σ H s):∀b∈fk X.stack,b∈X.env.locals::X.fs:=λb hb=>by
 rcases I.ok.E9 with e | ⟨e,hf⟩
 ·rw[e] at hb;exact Qo _ hb
 ·rw[e] at hb;unfold fk at hb;rw[List.filterMap_cons,hf] at hb;exact hb
theorem Inv.oC (I:Inv X pins σ H s):∀b∈fk X.stack,H b=none:=λb hb=>by
 rcases Qx.mp (I.lh b hb) with e | hb
 ·rw[e];exact I.free
 ·obtain⟨_,o,ho,_⟩:=I.ok.jy.mem hb;exact I.base.free b o ho (I.ok.Dp b hb) λz=>I.ok.rB b z hb
theorem Inv.step {g':Array GenState} {t':Nat} {d':Drawn} {ch:List Addr} (I:Inv X pins σ H s)
  (zY:∀b∈ch,(b∈X.ex\/X.s₀.heap.objs.size<=b)/\b≠X.env.locals/\(∀x c,X.env.cells.lookup x=some c->c≠b)/\∀p∈X.pn++pins,p.1≠b)
  (keep:∀b o,b≠X.env.locals->b∉X.fs->b∉ch->s.heap.get? b=some o->H b=none->h'.get? b=some o)
  (slot:∀b o,b≠X.env.locals->b∈X.fs->b∉ch->s.heap.get? b=some o->H b=none->∃sl,h'.get? b=some {o with slots:=sl}) (free:∀b o,b∉ch->s.heap.get? b=some o->H b=none->H' b=none)
  (there:∀b o,b∉ch->s.heap.get? b=some o->∃o',h'.get? b=some o')
  (tups:∀b xs,H b=some (.tup xs)->H' b=some (.tup xs)) (frzs:∀b o u,H b=some (.tV o u)->H' b=some (.tV o u)) (tbls:∀b ps,H b=some (.Ae ps)->∃more,H' b=some (.Ae (ps++more)))
  (ns:∀m,s.heap.Ns X.env.locals m->h'.Ns X.env.locals m) (hok:eK X.prog X.w H' h') (hg:AllBare g'):
  Inv X pins σ H' {s with heap:=h',gens:=g',drawn:=d',toks:=t'}:=by
 have JG:∀b o,X.s₀.heap.get? b=some o->b≠X.env.locals:=λb o e=>QQ (QG (Qv e) I.ok.above)
 have JF:∀b o,X.s₀.heap.get? b=some o->b∉X.ex->b∉ch:=λb o e hx hb=>by
  rcases (zY b hb).1 with z | z
  ·exact hx z
  ·exact absurd (QG (Qv e) z) (Nat.lt_irrefl _)
 have cellK:∀x c,X.env.cells.lookup x=some c->∀v,s.heap.IsCell c v->h'.IsCell c v:=λx c e v ⟨o,ho,hd⟩=>by
  have Hr:c∉ch:=λz=>(zY c z).2.2.1 x c e rfl
  by_cases hc:c∈X.fs
  ·obtain⟨sl,q⟩:=slot c o (I.Df x c e) hc Hr ho (I.dH x c e);exact⟨_,q,hd⟩
  ·exact⟨o,keep c o (I.Df x c e) hc Hr ho (I.dH x c e),hd⟩
 refine⟨I.ok,I.os,hg,⟨λb o e n hb hx=>?_,λb o e n hb hx=>?_,λb o e n hx=>?_,λb o e hx=>?_,λb xs e=>tups b xs (I.base.tups b xs e),λb o xs e=>frzs b o xs (I.base.frzs b o xs e),λb ps e=>?_⟩,?_,λx c e=>?_,?_,λx c e=>?_,λp hp=>?_,hok,I.len⟩
 ·exact keep b o (JG b o e) hb (JF b o e hx) (I.base.keep b o e n hb hx) (I.base.free b o e n hx)
 ·obtain⟨sl,e1⟩:=I.base.slot b o e n hb hx;obtain⟨Il,e2⟩:=slot b _ (JG b o e) hb (JF b o e hx) e1 (I.base.free b o e n hx);exact⟨Il,e2⟩
 ·obtain⟨o',e1⟩:=I.base.there b o e hx;exact free b o' (JF b o e hx) e1 (I.base.free b o e n hx)
 ·obtain⟨o',e1⟩:=I.base.there b o e hx;exact there b o' (JF b o e hx) e1
 ·obtain⟨m1,e1⟩:=I.base.tbls b ps e;obtain⟨m2,e2⟩:=tbls b _ e1;exact⟨m1++m2,by rw[e2,Array.append_assoc]⟩
 ·obtain⟨m,hn,hl⟩:=I.loc;refine⟨m,ns m hn,λi x v e1 e2 e3=>?_⟩;obtain⟨u,r,l⟩:=hl i x v e1 e2 e3;refine⟨u,r,?_⟩;rcases l with l | ⟨k,c,e,z⟩
  ·exact .inl l
  ·exact .inr ⟨k,c,e,cellK x c e _ z⟩
 ·obtain⟨v,z⟩:=I.cell x c e;exact⟨v,cellK x c e v z⟩
 ·obtain⟨m,⟨o,_,_,ho,_⟩,_⟩:=I.loc;exact free _ o (λz=>(zY _ z).2.1 rfl) ho I.free
 ·obtain⟨v,o,ho,hd⟩:=I.cell x c e;exact free c o (λz=>(zY c z).2.2.1 x c e rfl) ho (I.dH x c e)
 ·obtain⟨e,n,ne,nf,d⟩:=I.pin p hp;have Hr:p.1∉ch:=λz=>(zY p.1 z).2.2.2 p hp rfl
  exact⟨keep p.1 p.2 ne nf Hr e n,free p.1 p.2 Hr e n,ne,nf,d⟩
theorem Inv.un {t':Nat} (I:Inv X pins σ H s) (u:Un X.fs [] H H' s.heap h') (hok:eK X.prog X.w H' h'):Inv X pins σ H' {s with heap:=h',toks:=t'}:=by
 obtain⟨m,⟨o,es,ep,ho,r⟩,_⟩:=id I.loc;obtain⟨sl,hL⟩:=u.any ho I.free (by simp);exact I.step (g':=s.gens) (d':=s.drawn) (ch:=[]) (λ_ z=>nomatch z) (λb o _ hb _ e n=>u.keep b o e n hb (by simp)) (λb o _ hb _ e n=>u.slot b o e n hb (by simp)) (λb o _ e n=>u.free b o e n (by simp)) (λb o _ e=>u.there b o e (by simp)) u.tups u.frzs u.tbls (λm' hm=>by
  obtain⟨o',df,Jh,oQ,r'⟩:=hm;rw[ho] at oQ;cases oQ;exact⟨_,df,Jh,hL,r'⟩) hok I.bare
theorem Inv.call {g':Array GenState} {t':Nat} {d':Drawn} {ch:List Addr} (I:Inv X pins σ H s) (u:Un (fk X.stack) ch H H' s.heap h') (hok:eK X.prog X.w H' h') (hg:AllBare g')
  (zY:∀b∈ch,(b∈X.ex\/X.s₀.heap.objs.size<=b)/\b≠X.env.locals/\(∀x c,X.env.cells.lookup x=some c->c≠b)/\∀p∈X.pn++pins,p.1≠b):
  Inv X pins σ H' {s with heap:=h',gens:=g',drawn:=d',toks:=t'}:=by
 obtain⟨m,⟨o,es,ep,ho,r⟩,_⟩:=id I.loc;obtain⟨sl,hL⟩:=u.any ho I.free λz=>(zY _ z).2.1 rfl
 exact I.step (ch:=ch) zY (λb o hL hb hc e n=>u.keep b o e n (λz=>(Qx.mp (I.lh b z)).elim hL hb) hc) (λb o _ _ hc e n=>u.any e n hc) (λb o hc e n=>u.free b o e n hc) (λb o hc e=>u.there b o e hc) u.tups u.frzs u.tbls (λm' hm=>by
  obtain⟨o',df,Jh,oQ,r'⟩:=hm;rw[ho] at oQ;cases oQ;exact⟨_,df,Jh,hL,r'⟩) hok hg
theorem Inv.turned {t':Nat} {it:Addr} (I:Inv X pins σ H s) (k:∀b o,b≠it->s.heap.get? b=some o->h'.get? b=some o) (hn:H it=none) (hL:it≠X.env.locals)
  (h1:it∈X.ex\/X.s₀.heap.objs.size<=it) (h2:∀x c,X.env.cells.lookup x=some c->c≠it) (h3:∀p∈X.pn++pins,p.1≠it):Inv X pins σ H {s with heap:=h',toks:=t'}:=by
 have NA:∀b u,H b=some u->b≠it:=λb u e z=>by rw[z,hn] at e;cases e
 refine I.step (g':=s.gens) (d':=s.drawn) (ch:=[it]) (λb hb=>?_) (λb o _ _ hc e _=>k b o (λz=>hc (by simp[z])) e) (λb o _ _ hc e _=>⟨o.slots,k b o (λz=>hc (by simp[z])) e⟩) (λ_ _ _ _ n=>n)
  (λb o hc e=>⟨o,k b o (λz=>hc (by simp[z])) e⟩) (λ_ _ e=>e) (λ_ _ _ e=>e) (λb ps e=>⟨#[],by rw[e];simp⟩) (λm hm=>?_) (λb u e=>?_) I.bare
 ·have e:b=it:=by simpa using hb
  subst e;exact⟨h1,hL,h2,h3⟩
 ·obtain⟨o,es,ep,ho,r⟩:=hm;exact⟨o,es,ep,k _ o (Ne.symm hL) ho,r⟩
 ·refine(I.hok b u e).ji (λc v hc q=>k c v ?_ q) (λ_ q=>q) λ_ _ q=>q
  rcases hc with z | z
  ·rw[z];exact NA b u e
  ·exact NA c _ z
theorem Inv.tok (I:Inv X pins σ H s) (t:Nat):Inv X pins σ H {s with toks:=t}:=I.un (h':=s.heap) (t':=t) Un.refl I.hok
theorem Inv.kept {t':Nat} (I:Inv X pins σ H s) (k:∀b u,s.heap.get? b=some u->h'.get? b=some u):Inv X pins σ H {s with heap:=h',toks:=t'}:=I.un (Un.kept k) (I.hok.kept k)
theorem Inv.laid {a:Addr} {o:HO} {t':Nat} (I:Inv X pins σ H s) (k:∀b u,s.heap.get? b=some u->h'.get? b=some u) (hp:s.heap.objs.size<=a) (new:bV X.prog X.w (upd H a o) h' a o):
  Inv X pins σ (upd H a o) {s with heap:=h',toks:=t'}:=I.un (Un.laid k hp (I.hok.fresh hp)) (I.hok.laid k hp new)
theorem Inv.write {x e:Addr} {o:HO} {t':Nat} (I:Inv X pins σ H s) (mu:Jb (H x)) (he:e=x\/H e=some (.own x)) (k:∀b u,b≠e->s.heap.get? b=some u->h'.get? b=some u) (FF:∃u,h'.get? e=some u)
  (new:bV X.prog X.w (upd H x o) h' x o):Inv X pins σ (upd H x o) {s with heap:=h',toks:=t'}:=I.un (Un.write mu he k FF) (I.hok.write mu he k FF new)
theorem Inv.weak {σ':List (Option V)} (I:Inv X pins σ H s) (hl:σ'.length=σ.length) (w:∀(i:Nat) v,σ'[i]?=some (some v)->σ[i]?=some (some v)):Inv X pins σ' H s:=
 ⟨I.ok,I.os,I.bare,I.base,let ⟨m,hn,AW⟩:=I.loc;⟨m,hn,λi x v e1 e2 e3=>AW i x v e1 (w i v e2) e3⟩,I.cell,I.free,I.dH,I.pin,I.hok,hl.trans I.len⟩
theorem Inv.jZ {CC:List (Addr×Obj)} (I:Inv X pins σ H s) (h:∀p∈CC,s.heap.get? p.1=some p.2/\H p.1=none/\p.1≠X.env.locals/\p.1∉X.fs/\∀v,p.2.data≠ .cell v):Inv X CC σ H s:=
 ⟨I.ok,I.os,I.bare,I.base,I.loc,I.cell,I.free,I.dH,λp hp=>(QH.mp hp).elim (λz=>I.pin p (List.mem_append_left _ z)) (h p),I.hok,I.len⟩
theorem kU {N:List Str} (hN:N.Nodup) {i j:Nat} {x:Str} (a:N[i]?=some x) (b:N[j]?=some x):i=j:=by obtain⟨h1,e1⟩:=Qn.mp a;obtain⟨h2,e2⟩:=Qn.mp b;exact(List.getElem_inj hN).mp (e1.trans e2.symm)
theorem mV {M:Model} {A:Around} {E:Value->Shared->Prop} {i:Nat} {x:Str} {v:V} {u:Value} {Q:Unit->Shared->Prop} (I:Inv X pins σ H s) (hN:X.N.Nodup) (hi:X.N[i]?=some x) (hx:Loc X.env.scope x) (r:RelV v u)
  (h:∀s',Inv X pins (σ.set i (some v)) H s'->(∃a,Heap.SameBut a s.heap s'.heap/\(a=X.env.locals\/X.env.cells.lookup x=some a))->Q () s') (hf:X.fn x=true\/X.env.scope.names.lookup x=some .local:=by first | exact .inl rfl | exact .inr rfl | assumption):wpAny M A (storeName X.env x u) Q E s:=by
 obtain⟨m,hn,hl⟩:=id I.loc;have pJ:(X.env.scope.kind== .class||(X.env.scope.kind== .module&&X.env.locals != X.env.globals))=false:=by rw[I.ok.kind];rfl
 have hiσ:i < σ.length:=by rw[I.len];exact(Qn.mp hi).1
 have Df:=I.Df;have tracked:∀{a:Addr} {h':Heap},(∃o,s.heap.get? a=some o/\H a=none)->Heap.SameBut a s.heap h'->eK X.prog X.w H h':=λ {a h'} ha hs b ob e=>by
  obtain⟨_,_,Cq⟩:=ha;refine(I.hok b ob e).ji (λc w' hc q=>(hs.2 c ?_).trans q) (λ_ q=>q) λ_ _ q=>q
  rintro rfl;rcases hc with rfl | hc
  ·rw[Cq] at e;cases e
  ·rw[Cq] at hc;cases hc
 rcases hx with hk | hk
 ·refine wpAny_storeName_local hk hn (λh' OM hs=>?_) pJ;obtain⟨oL,_,_,Ju,_⟩:=id hn;refine h _ ⟨I.ok,I.os,I.bare,⟨λb o e n hb hx=>?_,λb o e n hb hx=>?_,I.base.free,λb o e hx=>?_,I.base.tups,I.base.frzs,I.base.tbls⟩,⟨_,OM,λj y v' e1 e2 e3=>?_⟩,λy c e=>?_,I.free,I.dH,λp hp=>?_,tracked ⟨oL,Ju,I.free⟩ hs,by simpa using I.len⟩ ⟨_,hs,.inl rfl⟩
  ·exact(hs.2 b (QQ (QG (Qv e) I.ok.above))).trans (I.base.keep b o e n hb hx)
  ·obtain⟨sl,e1⟩:=I.base.slot b o e n hb hx;exact⟨sl,(hs.2 b (QQ (QG (Qv e) I.ok.above))).trans e1⟩
  ·obtain⟨o',e1⟩:=I.base.there b o e hx;exact⟨o',(hs.2 b (QQ (QG (Qv e) I.ok.above))).trans e1⟩
  ·by_cases hj:j=i
   ·subst hj;rw[hi] at e1;cases e1;rw[Q4 hiσ] at e2;cases e2;exact⟨u,r,.inl ⟨hk,by simp⟩⟩
   ·rw[QC (Ne.symm hj)] at e2;obtain⟨u',r',q⟩:=hl j y v' e1 e2 e3;refine⟨u',r',?_⟩;rcases q with ⟨k,e⟩ | ⟨k,c,e,z⟩
    ·refine .inl ⟨k,?_⟩;have:y≠x:=λe=>hj (kU hN e1 (e▸hi))
     simp[this,e]
    ·exact .inr ⟨k,c,e,z.sameBut hs (Df y c e)⟩
  ·obtain⟨w',z⟩:=I.cell y c e;exact⟨w',z.sameBut hs (Df y c e)⟩
  ·obtain⟨e,n,ne,nf,d⟩:=I.pin p hp;exact⟨(hs.2 p.1 ne).trans e,n,ne,nf,d⟩
 ·have yd:X.fn x=true:=by
   rcases hf with z | z
   ·exact z
   ·rw[z] at hk;cases hk
  obtain⟨c,hc⟩:=I.ok.has x (.inl hk);obtain⟨w',z⟩:=I.cell x c hc;refine wpAny_storeName_cell I.ok.kind hk hc z (λh' nM hs=>?_);obtain⟨oc,Ni,Lg⟩:=id z;refine h {s with heap:=h'} ⟨I.ok,I.os,I.bare,⟨λb o e n hb hx=>?_,λb o e n hb hx=>?_,I.base.free,λb o e hx=>?_,I.base.tups,I.base.frzs,I.base.tbls⟩,⟨m,hn.sameBut hs (Ne.symm (Df x c hc)),λj y v' e1 e2 e3=>?_⟩,λy c' e=>?_,I.free,I.dH,λp hp=>?_,tracked ⟨oc,Ni,I.dH x c hc⟩ hs,by simpa using I.len⟩ ⟨c,hs,.inr hc⟩
  ·exact(hs.2 b (QQ (QG (Qv e) (I.ok.B8 x c yd hc)))).trans (I.base.keep b o e n hb hx)
  ·obtain⟨sl,e1⟩:=I.base.slot b o e n hb hx;exact⟨sl,(hs.2 b (QQ (QG (Qv e) (I.ok.B8 x c yd hc)))).trans e1⟩
  ·obtain⟨o',e1⟩:=I.base.there b o e hx;exact⟨o',(hs.2 b (QQ (QG (Qv e) (I.ok.B8 x c yd hc)))).trans e1⟩
  ·by_cases hj:j=i
   ·subst hj;rw[hi] at e1;cases e1;rw[Q4 hiσ] at e2;cases e2;exact⟨u,r,.inr ⟨.inl hk,c,hc,nM⟩⟩
   ·rw[QC (Ne.symm hj)] at e2;obtain⟨u',r',q⟩:=hl j y v' e1 e2 e3;refine⟨u',r',?_⟩;rcases q with q | ⟨k,c',e,z'⟩
    ·exact .inl q
    ·refine .inr ⟨k,c',e,z'.sameBut hs ?_⟩;rintro rfl;exact hj (kU hN e1 (I.ok.inj _ _ _ e hc▸hi))
  ·by_cases hcc:c'=c
   ·subst hcc;exact⟨_,nM⟩
   ·obtain⟨w2,z2⟩:=I.cell y c' e;exact⟨w2,z2.sameBut hs hcc⟩
  ·obtain⟨e,n,ne,nf,d⟩:=I.pin p hp;refine⟨(hs.2 p.1 ?_).trans e,n,ne,nf,d⟩;intro q;rw[q,Ni] at e;have q':oc=p.2:=Option.some.inj e;exact d w' (by rw[<-q'];exact Lg)
theorem qt {M:Model} {A:Around} {E:Value->Shared->Prop} {i:Nat} {x:Str} {v:V} {u:Value} {Q:Unit->Shared->Prop} (I:Inv X pins σ H s) (hN:X.N.Nodup) (hi:X.N[i]?=some x) (hx:Loc X.env.scope x) (r:RelV v u)
  (h:∀s',Inv X pins (σ.set i (some v)) H s'->Q () s') (hf:X.fn x=true\/X.env.scope.names.lookup x=some .local:=by first | exact .inl rfl | exact .inr rfl | assumption):wpAny M A (storeName X.env x u) Q E s:=
 mV I hN hi hx r (λs' I' _=>h s' I') hf
theorem Inv.xh {s':Shared} {ch:List Addr} (I:Inv X pins σ H s) (ho:s'.os=s.os) (u:Un (fk X.stack) ch H H' s.heap s'.heap) (hok:eK X.prog X.w H' s'.heap) (hg:AllBare s'.gens)
  (zY:∀b∈ch,(b∈X.ex\/X.s₀.heap.objs.size<=b)/\b≠X.env.locals/\(∀x c,X.env.cells.lookup x=some c->c≠b)/\∀p∈X.pn++pins,p.1≠b):Inv X pins σ H' s':=by
 obtain⟨h',g',d',t',o'⟩:=s';have e:o'=s.os:=ho;subst e;exact I.call (g':=g') (t':=t') (d':=d') u hok hg zY
end
noncomputable abbrev XK:=Value->Option Addr->Hp->Prop
noncomputable abbrev St:=List (Option V)
noncomputable abbrev VK:=V->Hp->Prop
noncomputable abbrev TE:=St->Hp->VK->Prop
noncomputable abbrev TT:=St->Hp->(Bool->Hp->Prop)->Prop
noncomputable abbrev TA:=St->Hp->(List V->Hp->Prop)->Prop
structure Ends where
 nx:St->Hp->Prop
 rt:VK
 bk:St->Hp->Prop:=λ_ _=>False
 ct:St->Hp->Prop:=λ_ _=>False
noncomputable abbrev TS:=Ends->St->Hp->Prop
noncomputable def EP (X:Cx) (pins:List (Addr×Obj)) (σ:St) (Q:VK) (u:Value) (s':Shared):Prop:=∃v H',Inv X pins σ H' s'/\RelV v u/\Q v H'
noncomputable def TP (X:Cx) (pins:List (Addr×Obj)) (σ:St) (Q:Bool->Hp->Prop) (b:Bool) (s':Shared):Prop:=∃H',Inv X pins σ H' s'/\Q b H'
noncomputable def AP (X:Cx) (pins:List (Addr×Obj)) (σ:St) (Q:List V->Hp->Prop) (us:List Value) (s':Shared):Prop:=∃vs H',Inv X pins σ H' s'/\ax vs us/\Q vs H'
noncomputable def SP (X:Cx) (pins:List (Addr×Obj)) (D:Ends) (f:Flow) (s':Shared):Prop:=
 match f with
 | .next=>∃σ' H',Inv X pins σ' H' s'/\D.nx σ' H'
 | .brk=>∃σ' H',Inv X pins σ' H' s'/\D.bk σ' H'
 | .cont=>∃σ' H',Inv X pins σ' H' s'/\D.ct σ' H'
 | .ret u=>∃v σ' H',Inv X pins σ' H' s'/\RelV v u/\D.rt v H'
noncomputable def PE (X:Cx) (e:Expr) (t:TE):Prop:=
 ∀(pins:List (Addr×Obj)) (s:Shared) (σ:St) (H:Hp) (Q:VK),Inv X pins σ H s->t σ H Q->wpAny (model X.prog X.w) X.A (eval e X.env) (EP X pins σ Q) X.xe s
noncomputable def PT (X:Cx) (e:Expr) (t:TT):Prop:=
 ∀(pins:List (Addr×Obj)) (s:Shared) (σ:St) (H:Hp) (Q:Bool->Hp->Prop),Inv X pins σ H s->t σ H Q->wpAny (model X.prog X.w) X.A (isTrue e X.env (eval e X.env)) (TP X pins σ Q) X.xe s
noncomputable def PW (X:Cx) (e:Expr) (t:TT):Prop:=
 ∀(whole:Sem Value) (pins:List (Addr×Obj)) (s:Shared) (σ:St) (H:Hp) (Q:Bool->Hp->Prop),Inv X pins σ H s->t σ H Q->wpAny (model X.prog X.w) X.A (isTrue e X.env whole) (TP X pins σ Q) X.xe s
theorem PW.pt {X:Cx} {e:Expr} {t:TT} (h:PW X e t):PT X e t:=h _
noncomputable def PA (X:Cx) (es:List Expr) (t:TA):Prop:=
 ∀(pos:Pos) (pins:List (Addr×Obj)) (s:Shared) (σ:St) (H:Hp) (Q:List V->Hp->Prop),Inv X pins σ H s->t σ H Q->wpAny (model X.prog X.w) X.A (spliced (backTo pos (starEach es X.env))) (AP X pins σ Q) X.xe s
noncomputable def PS (X:Cx) (st:Stmt) (t:TS):Prop:=
 ∀(pins:List (Addr×Obj)) (s:Shared) (σ:St) (H:Hp) (D:Ends),Inv X pins σ H s->t D σ H->wpAny (model X.prog X.w) X.A (exec st X.env) (SP X pins D) X.xe s
noncomputable def ve (X:Cx) (st:List Stmt) (t:TS):Prop:=
 ∀(pins:List (Addr×Obj)) (s:Shared) (σ:St) (H:Hp) (D:Ends),Inv X pins σ H s->t D σ H->wpAny (model X.prog X.w) X.A (execs st X.env) (SP X pins D) X.xe s
theorem bN {α:Type} {t:Sem α} {Q Q':α->Shared->Prop} {M:Model} {A:Around} {E:Value->Shared->Prop} {s:Shared} (h:wpAny M A t Q E s) (hQ:∀a s,Q a s->Q' a s):wpAny M A t Q' E s:=wpAny_mono h hQ λ_ _ x=>x
end L2
namespace L2
open PySem PySem.Spec PyProof.Rows
section
variable {X:Cx}
theorem bin {a b:Expr} {ta tb:TE} (ha:PE X a ta) (hb:PE X b tb) {pins:List (Addr×Obj)} {s:Shared} {σ:St} {H:Hp} {R:V->V->Hp->Prop} (I:Inv X pins σ H s) (h:ta σ H λx H1=>tb σ H1 λy H2=>R x y H2)
  {α:Type} {Q:α->Shared->Prop} {f:Value->Value->Sem α}
  (hf:∀v u s2 x y H2,Inv X pins σ H2 s2->RelV x v->RelV y u->R x y H2->wpAny (model X.prog X.w) X.A (f v u) Q X.xe s2):
  wpAny (model X.prog X.w) X.A (eval a X.env) (λv s₁=>wpAny (model X.prog X.w) X.A (eval b X.env) (λu s₂=>wpAny (model X.prog X.w) X.A (f v u) Q X.xe s₂) X.xe s₁) X.xe s:=by
 refine bN (ha pins s σ H _ I h) λv s1 ⟨x,H1,I1,r1,q1⟩=>?_
 refine bN (hb pins s1 σ H1 _ I1 q1) λu s2 ⟨y,H2,I2,r2,q2⟩=>?_
 exact hf v u s2 x y H2 I2 r1 r2 q2
noncomputable def lT (i:Nat):TE:=λσ H Q=>∃v,σ[i]?=some (some v)/\Q v H
noncomputable def tC (v:V):TE:=λ_ H Q=>Q v H
theorem yQ {i:Nat} {x:Str} {pos:Pos} (hN:X.N[i]?=some x) (hv:F2 X.env.scope x) (hd:(x==("__debug__":Str))=false:=by decide) (zX:(x==("__classdict__":Str))=false:=by decide):PE X (.Name x pos) (lT i):=by
 intro pins s σ H Q I h;obtain⟨v,e,h⟩:=h;obtain⟨m,hn,hl⟩:=I.loc;obtain⟨u,r,l⟩:=hl i x v hN e hv;have fin:EP X pins σ Q u s:=⟨v,H,I,r,h⟩;rcases l with ⟨hk,hm⟩ | ⟨hk,c,hc,Co⟩
 ·exact wpAny_Name (wpAny_loadName_local I.ok.kind hk hn hm fin) hd
 ·rcases hk with hk | hk
  ·exact wpAny_Name (wpAny_loadName_cell I.ok.kind hk hc Co fin) hd
  ·exact wpAny_Name (wpAny_loadName_free I.ok.kind hk hc Co fin zX) hd
theorem Eo {i j pos}:PE X (.Constant (.int i) j pos) (tC (.int i)):=λ_ _ _ H _ I h=>wpAny_Constant_int ⟨.int i,H,I.tok _,⟨_,rfl⟩,h⟩
theorem HF {b j pos}:PE X (.Constant (.bool b) j pos) (tC (.bl b)):=λ_ _ _ H _ I h=>Constant_bool ⟨.bl b,H,I,rfl,h⟩
theorem Er {j pos}:PE X (.Constant .none j pos) (tC .bq):=λ_ _ _ H _ I h=>Constant_none ⟨.bq,H,I,rfl,h⟩
theorem Eu {x j pos}:PE X (.Constant (.str x) j pos) (tC (.str x)):=λ_ _ _ H _ I h=>Calls.Constant_str ⟨.str x,H,I.tok _,⟨_,rfl⟩,h⟩
noncomputable def Gl (X:Cx) (x:Str):Prop:=X.env.kindOf x=some .globalImplicit
theorem um {E:Value->Shared->Prop} {pins:List (Addr×Obj)} {s:Shared} {σ:St} {H:Hp} {x:Str} {u:Value} {pos:Pos} {Q:Value->Shared->Prop} (I:Inv X pins σ H s) (hg:Gl X x) (hm:X.mg x=some u) (h:Q u s)
  (hd:(x==("__debug__":Str))=false:=by decide):wpAny (model X.prog X.w) X.A (eval (.Name x pos) X.env) Q E s:=
 Calls.Name_function_global I.ok.kind hg (Calls.loadGlobal_global (by rw[I.ok.glob];exact I.mod.glob.keeps I.bk) hm h) hd
theorem d7 {E:Value->Shared->Prop} {pins:List (Addr×Obj)} {s:Shared} {σ:St} {H:Hp} {x:Str} {u:Value} {pos:Pos} {Q:Value->Shared->Prop} (I:Inv X pins σ H s) (hg:Gl X x) (hm:X.mg x=none) (hv:bootBuiltins x=some u) (h:Q u s)
  (hn:x≠"__name__":=by decide) (hd:(x==("__debug__":Str))=false:=by decide):wpAny (model X.prog X.w) X.A (eval (.Name x pos) X.env) Q E s:=by
 obtain⟨mb,h1,h2⟩:=I.mod.blt;exact Calls.Name_function_global I.ok.kind hg (Calls.loadGlobal_builtin (by rw[I.ok.glob];exact I.mod.glob.keeps I.bk) hm (by rw[I.ok.blt];exact h1.keeps I.bk) ((h2 x hn).trans hv) h) hd
theorem Bv {x:Str} {v:V} {u:Value} {pos:Pos} (hg:Gl X x) (hm:X.mg x=some u) (r:RelV v u) (hd:(x==("__debug__":Str))=false:=by decide):PE X (.Name x pos) (tC v):=
 λ_ _ _ H _ I h=>um I hg hm ⟨v,H,I,r,h⟩ hd
theorem Br {x:Str} {v:V} {u:Value} {pos:Pos} (hg:Gl X x) (hm:X.mg x=none) (hv:bootBuiltins x=some u) (r:RelV v u) (hn:x≠"__name__":=by decide) (hd:(x==("__debug__":Str))=false:=by decide):PE X (.Name x pos) (tC v):=
 λ_ _ _ H _ I h=>d7 I hg hm hv ⟨v,H,I,r,h⟩ hn hd
variable {a b:Expr} {ta tb:TE} {pos:Pos}
variable {tA JK:TT} {rest:List Expr}
noncomputable def Mm (t u:TT):TT:=λσ H Q=>t σ H λc H1=>if c=true then u σ H1 Q else Q false H1
noncomputable def Pl (t u:TT):TT:=λσ H Q=>t σ H λc H1=>if c=true then Q true H1 else u σ H1 Q
noncomputable def Mq (t:TT):TT:=λσ H Q=>t σ H λc H1=>Q (!c) H1
theorem BH (ha:PT X a tA):PW X (.BoolOp .And [a] pos) tA:=by
 intro wh pins s σ H Q I h;refine isTrue_and (bN (ha pins s σ H Q I h) λc s1 e=>?_);cases c with
 | true=>exact isTrue_and_nil e
 | false=>exact e
theorem EG (ha:PT X a tA):PW X (.BoolOp .Or [a] pos) tA:=by
 intro wh pins s σ H Q I h;refine isTrue_or (bN (ha pins s σ H Q I h) λc s1 e=>?_);cases c with
 | false=>exact isTrue_or_nil e
 | true=>exact e
theorem EF (ha:PT X a tA) (hb:PW X (.BoolOp .And (b::rest) pos) JK):PW X (.BoolOp .And (a::b::rest) pos) (Mm tA JK):=by
 intro wh pins s σ H Q I h;refine isTrue_and (bN (ha pins s σ H _ I h) λc s1 ⟨H1,I1,q1⟩=>?_);cases c with
 | true=>exact hb wh pins s1 σ H1 Q I1 q1
 | false=>exact⟨H1,I1,q1⟩
theorem HM (ha:PT X a tA) (hb:PW X (.BoolOp .Or (b::rest) pos) JK):PW X (.BoolOp .Or (a::b::rest) pos) (Pl tA JK):=by
 intro wh pins s σ H Q I h;refine isTrue_or (bN (ha pins s σ H _ I h) λc s1 ⟨H1,I1,q1⟩=>?_);cases c with
 | true=>exact⟨H1,I1,q1⟩
 | false=>exact hb wh pins s1 σ H1 Q I1 q1
theorem ED (ha:PT X a tA):PT X (.UnaryOp .Not a pos) (Mq tA):=by intro pins s σ H Q I h;exact isTrue_not (ha pins s σ H (λc H1=>Q (!c) H1) I h)
noncomputable def Iv (ta tb:TE):TE:=λσ H Q=>ta σ H λx H1=>∃c,x= .bl c/\if c=true then tb σ H1 Q else Q (.bl false) H1
noncomputable def Mr (ta tb:TE):TE:=λσ H Q=>ta σ H λx H1=>∃c,x= .bl c/\if c=true then Q (.bl true) H1 else tb σ H1 Q
noncomputable def IC (ta:TE):TE:=λσ H Q=>ta σ H λx H1=>∃c,x= .bl c/\Q (.bl (!c)) H1
theorem Et {op} {t:TE} (h:PE X a t):PE X (.BoolOp op [a] pos) t:=λpins s σ H Q I hw=>BoolOp_one (h pins s σ H Q I hw)
theorem Em (ha:PE X a ta) (hb:PE X (.BoolOp .And (b::rest) pos) tb):PE X (.BoolOp .And (a::b::rest) pos) (Iv ta tb):=by
 intro pins s σ H Q I h;refine BoolOp_and (bN (ha pins s σ H _ I h) λv s1 ⟨x,H1,I1,r1,q1⟩=>?_);obtain⟨c,rfl,q1⟩:=q1;cases r1;refine wpAny_truthy_bool ?_;cases c with
 | true=>exact hb pins s1 σ H1 Q I1 q1
 | false=>exact⟨.bl false,H1,I1,rfl,q1⟩
theorem HJ (ha:PE X a ta) (hb:PE X (.BoolOp .Or (b::rest) pos) tb):PE X (.BoolOp .Or (a::b::rest) pos) (Mr ta tb):=by
 intro pins s σ H Q I h;refine BoolOp_or (bN (ha pins s σ H _ I h) λv s1 ⟨x,H1,I1,r1,q1⟩=>?_);obtain⟨c,rfl,q1⟩:=q1;cases r1;refine wpAny_truthy_bool ?_;cases c with
 | false=>exact hb pins s1 σ H1 Q I1 q1
 | true=>exact⟨.bl true,H1,I1,rfl,q1⟩
theorem Es (ha:PE X a ta):PE X (.UnaryOp .Not a pos) (IC ta):=by intro pins s σ H Q I h;refine UnaryOp_ (bN (ha pins s σ H _ I h) λv s1 ⟨x,H1,I1,r1,q1⟩=>?_);obtain⟨c,rfl,q1⟩:=q1;cases r1;exact not_of (wpAny_truthy_bool ⟨.bl (!c),H1,I1,rfl,q1⟩)
end
end L2
namespace L2
open PySem PySem.Spec PyProof.Rows
noncomputable def dY (K:PySem.W.Frag) (H:Hp) (a:Addr) (xs:List V):Prop:=
 Rd H a (.lst xs)\/
  ∃(o:Obj) (its:Array Value) (n:Nat),K.lookup a=some o/\o.cls= .type "list"/\o.dict=none/\o.data= .seq its n/\its.size<=sizeLine/\ax xs its.toList
noncomputable def eL (K:PySem.W.Frag) (H:Hp) (a:Addr) (xs:List V):Prop:=
 Rd H a (.tup xs)\/
  ∃(o:Obj) (its:Array Value) (n:Nat),K.lookup a=some o/\o.cls= .type "tuple"/\o.data= .seq its n/\its.size<=sizeLine/\ax xs its.toList
noncomputable def Kb:Value->Option V
 | .none=>some .bq
 | .bool b=>some (.bl b)
 | .int i _=>some (.int i)
 | .str x _=>some (.str x)
 | .bytes b _=>some (.C9 b)
 | .float b _=>some (.zW b)
 | .ref a=>some (.ref a)
 | .type n=>some (.ty n)
 | _=>none
theorem RelV.abs {x:V} {u:Value} (r:RelV x u):Kb u=some x:=by
 cases x with
 | bq=>cases r;rfl
 | bl _=>cases r;rfl
 | int _=>obtain⟨t,rfl⟩:=r;rfl
 | str _=>obtain⟨t,rfl⟩:=r;rfl
 | C9 _=>obtain⟨t,rfl⟩:=r;rfl
 | zW _=>obtain⟨t,rfl⟩:=r;rfl
 | ref _=>cases r;rfl
 | ty _=>cases r;rfl
theorem RelV.inj {x y:V} {u:Value} (r:RelV x u) (q:RelV y u):x=y:=Option.some.inj (r.abs.symm.trans q.abs)
theorem ax.inj:∀{xs ys:List V} {us:List Value},ax xs us->ax ys us->xs=ys
 | _,_,_,.nil,.nil=>rfl
 | _,_,_,.cons r t,.cons r' t'=>by rw[r.inj r',ax.inj t t']
section
variable {X:Cx} {pins:List (Addr×Obj)} {σ:St} {H:Hp} {s:Shared} {a:Addr} {xs ys:List V}
theorem dY.of {K:PySem.W.Frag} (h:H a=some (.lst xs)):dY K H a xs:= .inl (.inl h)
theorem eL.of {K:PySem.W.Frag} (h:H a=some (.tup xs)):eL K H a xs:= .inl (.inl h)
theorem Inv.list (I:Inv X pins σ H s) (h:dY X.K H a xs):∃its:List Value,ax xs its/\PlainL s.heap a its.toArray/\xs.length<=sizeLine:=by
 rcases h with h | ⟨o,its,n,hk,hc,hd,hs,hz,r⟩
 ·obtain⟨z,its,n,r,e⟩:=h.ok I.hok;exact⟨its,r,⟨_,n,e,rfl,rfl,rfl⟩,z⟩
 ·refine⟨its.toList,r,⟨o,n,I.pR a o hk,hc,hd,by simpa using hs⟩,?_⟩;have e:=r.length;simp only[QF] at e
  lia
theorem Inv.tuple (I:Inv X pins σ H s) (h:eL X.K H a xs):∃its:List Value,ax xs its/\IsTup s.heap a its.toArray/\xs.length<=sizeLine:=by
 rcases h with h | ⟨o,its,n,hk,hc,hs,hz,r⟩
 ·obtain⟨z,its,r,p⟩:=h.ok I.hok;exact⟨its,r,p,z⟩
 ·refine⟨its.toList,r,⟨o,I.pR a o hk,hc,n,by simpa using hs⟩,?_⟩;have e:=r.length;simp only[QF] at e
  lia
theorem Inv.yB (I:Inv X pins σ H s) (h:dY X.K H a xs) (h':dY X.K H a ys):xs=ys:=by
 obtain⟨its,r,⟨o,n,e,_,_,d⟩,_⟩:=I.list h;obtain⟨its',r',⟨o',n',e',_,_,d'⟩,_⟩:=I.list h';rw[e] at e';cases e';rw[d] at d';injection d' with d1 _;have:its=its':=by simpa using congrArg Array.toList d1
 subst this;exact r.inj r'
theorem Inv.we (I:Inv X pins σ H s) (h:eL X.K H a xs) (h':eL X.K H a ys):xs=ys:=by
 obtain⟨its,r,⟨o,e,_,n,d⟩,_⟩:=I.tuple h;obtain⟨its',r',⟨o',e',_,n',d'⟩,_⟩:=I.tuple h';rw[e] at e';cases e';rw[d] at d';injection d' with d1 _;have:its=its':=by simpa using congrArg Array.toList d1
 subst this;exact r.inj r'
end
noncomputable abbrev Cx.dQ (X:Cx) (E:Value->Shared->Prop):Cx:={X with xe:=E}
theorem Cx.Ok.dQ {X:Cx} (ok:X.Ok) (E:Value->Shared->Prop):(X.dQ E).Ok:=
 ⟨ok.mod,ok.kind,ok.glob,ok.blt,ok.above,ok.inj,ok.has,ok.B8,ok.hd,ok.frames,ok.E9,ok.FC,ok.bs,ok.Aw,ok.p5,ok.rB,ok.jy,ok.Dp⟩
theorem Cx.Ok.eZ {X:Cx} {E:Value->Shared->Prop} (ok:(X.dQ E).Ok):X.Ok:=
 ⟨ok.mod,ok.kind,ok.glob,ok.blt,ok.above,ok.inj,ok.has,ok.B8,ok.hd,ok.frames,ok.E9,ok.FC,ok.bs,ok.Aw,ok.p5,ok.rB,ok.jy,ok.Dp⟩
section
variable {X:Cx} {pins:List (Addr×Obj)} {σ:St} {H:Hp} {s:Shared} {E:Value->Shared->Prop}
theorem Inv.dQ (I:Inv X pins σ H s) (E:Value->Shared->Prop):Inv (X.dQ E) pins σ H s:=⟨I.ok.dQ E,I.os,I.bare,I.base,I.loc,I.cell,I.free,I.dH,I.pin,I.hok,I.len⟩
theorem Inv.eZ (I:Inv (X.dQ E) pins σ H s):Inv X pins σ H s:=⟨I.ok.eZ,I.os,I.bare,I.base,I.loc,I.cell,I.free,I.dH,I.pin,I.hok,I.len⟩
theorem SP.eZ {D:Ends} {f:Flow} {s':Shared} (h:SP (X.dQ E) pins D f s'):SP X pins D f s':=by
 cases f with
 | next=>obtain⟨σ',H',I,q⟩:=h;exact⟨σ',H',I.eZ,q⟩
 | brk=>obtain⟨σ',H',I,q⟩:=h;exact⟨σ',H',I.eZ,q⟩
 | cont=>obtain⟨σ',H',I,q⟩:=h;exact⟨σ',H',I.eZ,q⟩
 | ret u=>obtain⟨v,σ',H',I,r,q⟩:=h;exact⟨v,σ',H',I.eZ,r,q⟩
end
section
variable {X:Cx} {st:Stmt} {rest:List Stmt} {t u:TS} {e:Expr} {te:TE} {pos:Pos}
noncomputable def zr:TS:=λD σ H=>D.nx σ H
noncomputable def IF (t u:TS):TS:=λD σ H=>t {D with nx:=u D} σ H
theorem BD:ve X [] zr:=λ_ _ σ H _ I h=>wpAny_execs_nil ⟨σ,H,I,h⟩
theorem yX (h1:PS X st t) (h2:ve X rest u):ve X (st::rest) (IF t u):=by
 intro pins s σ H D I h;refine wpAny_execs_cons (bN (h1 pins s σ H {D with nx:=u D} I h) λf s1 q=>?_);cases f with
 | next=>obtain⟨σ',H',I',q⟩:=q;exact h2 pins s1 σ' H' D I' q
 | ret v=>exact q
 | brk=>exact q
 | cont=>exact q
noncomputable def zp:TS:=λD σ H=>D.bk σ H
noncomputable def CK:TS:=λD σ H=>D.ct σ H
theorem BA:PS X (.Pass pos) zr:=λ_ _ σ H _ I h=>wpAny_Pass ⟨σ,H,I,h⟩
theorem yV:PS X (.Break pos) zp:=λ_ _ σ H _ I h=>wpAny_Break ⟨σ,H,I,h⟩
theorem qf:PS X (.Continue pos) CK:=λ_ _ σ H _ I h=>wpAny_Continue ⟨σ,H,I,h⟩
theorem Inv.quiet {pins:List (Addr×Obj)} {σ:St} {H:Hp} {s:Shared} (I:Inv X pins σ H s):interactive X.env=false:=by simp[interactive,I.ok.kind]
noncomputable def qx (te:TE):TS:=λD σ H=>te σ H λ_ H1=>D.nx σ H1
theorem j0 (he:PE X e te) (hs:swapsWith e none pos.line X.env=pure false:=by rfl):PS X (.Expr e pos) (qx te):=by intro pins s σ H D I h;exact wpAny_Expr_any (bN (he pins s σ H _ I h) λv s1 ⟨x,H1,I1,r1,q1⟩=>⟨σ,H1,I1,q1⟩) I.quiet hs
noncomputable def Fe (te:TE):TS:=λD σ H=>te σ H D.rt
theorem sG (he:PE X e te):PS X (.Return (some e) pos) (Fe te):=by intro pins s σ H D I h;exact wpAny_Return_some (bN (he pins s σ H _ I h) λv s1 ⟨x,H1,I1,r1,q1⟩=>⟨x,σ,H1,I1,r1,q1⟩)
noncomputable def CL:TS:=λD _ H=>D.rt .bq H
theorem BB:PS X (.Return none pos) CL:=λ_ _ σ H _ I h=>wpAny_Return_none ⟨.bq,σ,H,I,rfl,h⟩
noncomputable def IA (c:TT) (t u:TS):TS:=λD σ H=>c σ H λb H1=>if b=true then t D σ H1 else u D σ H1
theorem HL {c:Expr} {a b:List Stmt} {tc:TT} (hc:PT X c tc) (ha:ve X a t) (hb:ve X b u):PS X (.If c a b pos) (IA tc t u):=by
 intro pins s σ H D I h;refine wpAny_If (bN (hc pins s σ H _ I h) λd s1 ⟨H1,I1,q1⟩=>?_);cases d with
 | true=>exact ha pins s1 σ H1 D I1 q1
 | false=>exact hb pins s1 σ H1 D I1 q1
end
noncomputable abbrev TG:=V->St->Hp->(St->Hp->Prop)->Prop
noncomputable abbrev wI:=List V->St->Hp->(St->Hp->Prop)->Prop
noncomputable def PG (X:Cx) (target:Expr) (t:TG):Prop:=
 ∀(pins:List (Addr×Obj)) (s:Shared) (σ:St) (H:Hp) (v:V) (u:Value) (Q:St->Hp->Prop),Inv X pins σ H s->RelV v u->t v σ H Q->
  wpAny (model X.prog X.w) X.A (assign target X.env u) (λ_ s'=>∃σ' H',Inv X pins σ' H' s'/\Q σ' H') X.xe s
noncomputable def FY (X:Cx) (ts:List Expr) (t:wI):Prop:=
 ∀(pins:List (Addr×Obj)) (s:Shared) (σ:St) (H:Hp) (vs:List V) (us:List Value) (Q:St->Hp->Prop),Inv X pins σ H s->ax vs us->t vs σ H Q->
  wpAny (model X.prog X.w) X.A (assignInOrder ((assignEach ts X.env).map (·.2)) us) (λ_ s'=>∃σ' H',Inv X pins σ' H' s'/\Q σ' H') X.xe s
noncomputable abbrev CY:=V->V->V->Hp->(Hp->Prop)->Prop
noncomputable def FZ (X:Cx) (t:CY):Prop:=
 ∀(pins:List (Addr×Obj)) (s:Shared) (σ:St) (H:Hp) (o i v:V) (ov iv u:Value) (Q:Hp->Prop),Inv X pins σ H s->RelV o ov->RelV i iv->RelV v u->t o i v H Q->
  wpAny (model X.prog X.w) X.A (setItem ov iv u) (λ_ s'=>∃H',Inv X pins σ H' s'/\Q H') X.xe s
section
variable {X:Cx} {pos:Pos}
noncomputable def ey (i:Nat):TG:=λv σ H Q=>Q (σ.set i (some v)) H
theorem Bx {i:Nat} {x:Str} (hN:X.N.Nodup) (hi:X.N[i]?=some x) (hx:Loc X.env.scope x) (hf:X.fn x=true\/X.env.scope.names.lookup x=some .local:=by first | exact .inl rfl | exact .inr rfl | assumption):PG X (.Name x pos) (ey i):=by intro pins s σ H v u Q I r h;exact wpAny_assign_Name (qt I hN hi hx r (λs' I'=>⟨_,H,I',h⟩) hf)
noncomputable def Dr:wI:=λvs σ H Q=>vs=[]/\Q σ H
noncomputable def xO (t:TG) (u:wI):wI:=λvs σ H Q=>∃v r,vs=v::r/\t v σ H λσ' H'=>u r σ' H' Q
theorem By:FY X [] Dr:=by intro pins s σ H vs us Q I r h;obtain⟨e,h⟩:=h;subst e;cases r;exact assignInOrder_nil ⟨σ,H,I,h⟩
theorem yR {e:Expr} {es:List Expr} {t:TG} {u:wI} (h1:PG X e t) (h2:FY X es u)
  (hs:(assignEach (e::es) X.env).map (·.2)=assign e X.env::(assignEach es X.env).map (·.2):=by rfl):FY X (e::es) (xO t u):=by
 intro pins s σ H vs us Q I r h;obtain⟨v,vr,e1,h⟩:=h;subst e1;cases r with
 | cons r rr=>rw[hs];refine assignInOrder_cons (bN (h1 pins s σ H _ _ _ I r h) λ_ s1 ⟨σ1,H1,I1,q1⟩=>?_);exact h2 pins s1 σ1 H1 _ _ Q I1 rr q1
noncomputable def Ds (K:PySem.W.Frag) (n:Nat) (t:wI):TG:=λv σ H Q=>∃a xs,v= .ref a/\eL K H a xs/\xs.length=n/\t xs σ H Q
theorem Ey {es:List Expr} {k:Nat} {t:wI} {n:Nat} (hc:X.calm=true) (h:FY X es t)
  (hn:(assignEach es X.env).length=n:=by rfl) (lH:(assignEach es X.env).findIdx? (·.1)=none:=by rfl):PG X (.Tuple es k pos) (Ds X.K n t):=by
 intro pins s σ H v u Q I r hw;obtain⟨a,xs,e1,hq,hl,hw⟩:=hw;subst e1;cases r;obtain⟨its,rv,ht,hz⟩:=I.tuple hq;refine assign_Tuple_tuple (I.ok.hd hc) ht (by simp[hn,<-hl,rv.length]) lH λh' hx=>?_
 have I1:Inv X pins σ H {s with heap:=h'}:=I.kept (t':=s.toks) λb o e=>hx b o (QQ (Qv e)) e
 exact h pins _ σ H xs _ Q I1 (by simpa using rv) hw
noncomputable def Gu (to ti:TE) (t:CY):TG:=λv σ H Q=>to σ H λo H1=>ti σ H1 λi H2=>t o i v H2 λH3=>Q σ H3
theorem Ex {o i:Expr} {to ti:TE} {t:CY} (ho:PE X o to) (hi:PE X i ti) (hs:FZ X t)
  (ha:∀v,assign (.Subscript o i pos) X.env v=(do
   let ov<-holding [v] (eval o X.env)
   let iv<-holding [v,ov] (eval i X.env)
   standAt pos
   holding [v,ov,iv] (setItem ov iv v)
   release [v,ov,iv] []):=by intro _;rfl):PG X (.Subscript o i pos) (Gu to ti t):=by
 intro pins s σ H v u Q I r h;rw[ha];refine Qg (wpAny_holding (bN (ho pins s σ H _ I h) λov s1 ⟨x,H1,I1,r1,q1⟩=>?_));refine Qg (wpAny_holding (bN (hi pins s1 σ H1 _ I1 q1) λiv s2 ⟨y,H2,I2,r2,q2⟩=>?_));refine Qg (wpAny_standAt (Qg (wpAny_holding (bN (hs pins s2 σ H2 x y v ov iv u _ I2 r1 r2 r q2) λ_ s3 ⟨H3,I3,q3⟩=>?_))));exact wpAny_release ⟨σ,H3,I3,q3⟩
noncomputable def qw (te:TE) (g:TG):TS:=λD σ H=>te σ H λx H1=>g x σ H1 D.nx
theorem EB {tg e:Expr} {te:TE} {g:TG} (he:PE X e te) (hg:PG X tg g) (hs:swapsWithSole [tg] e pos.line X.env=pure false:=by rfl) (hw:swappedStores [tg] e X.env=pure none:=by rfl)
  (h1:(assignEach [tg] X.env).map (·.2)=[assign tg X.env]:=by rfl):PS X (.Assign [tg] e pos) (qw te g):=by
 intro pins s σ H D I h;refine wpAny_Assign_stores (bN (he pins s σ H _ I h) λv s1 ⟨x,H1,I1,r1,q1⟩=>?_) hs hw;rw[h1];exact bN (hg pins s1 σ H1 x v _ I1 r1 q1) λ_ s2 q=>q
theorem yW {i:Nat} {x:Str} {e:Expr} {te:TE} {pos':Pos} (hN:X.N.Nodup) (hi:X.N[i]?=some x) (hx:Loc X.env.scope x) (he:PE X e te) (hs:swapsWith e (some (.Name x pos')) pos.line X.env=pure false:=by rfl) (hf:X.fn x=true\/X.env.scope.names.lookup x=some .local:=by first | exact .inl rfl | exact .inr rfl | assumption):
  PS X (.Assign [.Name x pos'] e pos) (qw te (ey i)):=by
 intro pins s σ H D I h;refine wpAny_Assign_Name (bN (he pins s σ H _ I h) λv s1 ⟨y,H1,I1,r1,q1⟩=>?_) hs;exact qt I1 hN hi hx r1 (λs2 I2=>⟨_,H1,I2,q1⟩) hf
end
structure It where
 go:Nat->Hp->Prop
 yld:Nat->Hp->V->Hp->Prop
 stop:Nat->Hp->Prop
noncomputable def f7 (X:Cx) (pins:List (Addr×Obj)) (H:Hp) (b:Addr):Prop:=
 H b=none/\b≠X.env.locals/\b∉X.fs/\(b∈X.ex\/X.s₀.heap.objs.size<=b)/\(∀x c,X.env.cells.lookup x=some c->c≠b)/\∀p∈X.pn++pins,p.1≠b
theorem Inv.pF {X:Cx} {pins:List (Addr×Obj)} {σ:St} {H H':Hp} {s:Shared} {b:Addr} (I:Inv X pins σ H s) (hb:s.heap.objs.size<=b) (hn:H' b=none):f7 X pins H' b:=by
 refine⟨hn,Nat.ne_of_gt (QG I.lt hb),I.LO hb,.inr (Qw I.sz hb),λx c e z=>?_,λp hp z=>?_⟩
 ·obtain⟨v,q⟩:=I.cell x c e;exact absurd (QG q.lt (by rw[z];exact hb)) (Nat.lt_irrefl _)
 ·exact absurd (QG (Qv (I.pin p hp).1) (by rw[z];exact hb)) (Nat.lt_irrefl _)
structure Turn (P:Program) (w:World) (K:PySem.W.Frag) (tg:Expr) (J:It) (fp:List Addr) (it:Addr) (tn:Nat->Heap->Prop):Prop where
 mem:it∈fp
 obj:∀i h,tn i h->∀b∈fp,∃o,h.get? b=some o/\∀v,o.data≠ .cell v
 keep:∀i h h',tn i h->(∀b∈fp,∀o,h.get? b=some o->h'.get? b=some o)->tn i h'
 item:∀(X:Cx),X.prog=P->X.w=w->X.K=K->X.calm=true->∀(i:Nat) (pins:List (Addr×Obj)) (s:Shared) (σ:St) (H:Hp) (E:Value->Shared->Prop),Inv X pins σ H s->(∀b∈fp,f7 X pins H b)->tn i s.heap->J.go i H->
  wpAny (model P w) X.A (pyNext (.ref it)) (λr s1=>∃u,r=some u/\
   wpAny (model P w) X.A (letOwnedTupleGo tg (.ref it) u) (λ_ s2=>∃x H',Inv X pins σ H' s2/\RelV x u/\J.yld i H x H'/\tn (i + 1) s2.heap/\∀b∈fp,H' b=none) E s1) E s
 done:∀(X:Cx),X.prog=P->X.w=w->X.K=K->X.calm=true->∀(i:Nat) (pins:List (Addr×Obj)) (s:Shared) (σ:St) (H:Hp) (E:Value->Shared->Prop),Inv X pins σ H s->(∀b∈fp,f7 X pins H b)->tn i s.heap->J.stop i H->
  wpAny (model P w) X.A (pyNext (.ref it)) (λr s1=>r=none/\Inv X pins σ H s1) E s
 self:∀(A:Around) (i:Nat) (s:Shared) (Q:Value->Shared->Prop) (E:Value->Shared->Prop),tn i s.heap->Q (.ref it) s->wpAny (model P w) A (pyIter (.ref it)) Q E s
noncomputable abbrev TI:=St->Hp->(It->Hp->Prop)->Prop
noncomputable def MF (X:Cx) (pins:List (Addr×Obj)) (σ:St) (tg:Expr) (R:It->Hp->Prop) (oU:Value) (s2:Shared):Prop:=
 ∃(it:Addr) (fp:List Addr) (tn:Nat->Heap->Prop) (J:It) (H':Hp),oU= .ref it/\Inv X pins σ H' s2/\Turn X.prog X.w X.K tg J fp it tn/\tn 0 s2.heap/\(∀b∈fp,f7 X pins H' b)/\R J H'
noncomputable def PI (X:Cx) (tg iter:Expr) (wi:TI):Prop:=
 ∀(pins:List (Addr×Obj)) (s:Shared) (σ:St) (H:Hp) (R:It->Hp->Prop),Inv X pins σ H s->wi σ H R->
  wpAny (model X.prog X.w) X.A (eval iter X.env) (λv s1=>wpAny (model X.prog X.w) X.A (pyIter v) (MF X pins σ tg R) X.xe s1) X.xe s
theorem xV {M:Model} {A:Around} {E:Value->Shared->Prop} {s:Shared} {tg:Expr} {it:Addr} {u:Value} {o:Obj} {n:String} {vs:Array Value} {Q:Unit->Shared->Prop} (ho:s.heap.get? it=some o) (hc:o.cls= .type n) (hd:o.data= .fields vs)
  (hn:["enumerate","zip","dict_itemiterator","dict_reverseitemiterator","odict_iterator","itertools.zip_longest","itertools.pairwise"].contains n=false) (hQ:Q () s):wpAny M A (letOwnedTupleGo tg (.ref it) u) Q E s:=by
 unfold letOwnedTupleGo;cases tg <;> first
  | exact Qj hQ
  | (cases u <;> first
    | exact Qj hQ
    | (refine Qg (wpAny_load ho ?_);rw[hc,hd];show wpAny M A (if (["enumerate","zip","dict_itemiterator","dict_reverseitemiterator","odict_iterator","itertools.zip_longest","itertools.pairwise"].contains n&&vs[0]?==some (rawInt _))=true then _ else _) Q E s;rw[if_neg (by intro h;rw[hn,Bool.false_and] at h;cases h)];exact Qj hQ))
noncomputable def IY (K:PySem.W.Frag) (a:Addr):It:=
 ⟨λi H=>∃xs x,dY K H a xs/\xs[i]?=some x,λi H x H'=>H'=H/\∀xs,dY K H a xs->xs[i]?=some x,λi H=>∃xs,dY K H a xs/\xs.length<=i⟩
noncomputable def J0 (K:PySem.W.Frag) (a:Addr):It:=
 ⟨λi H=>∃xs x,eL K H a xs/\xs[i]?=some x,λi H x H'=>H'=H/\∀xs,eL K H a xs->xs[i]?=some x,λi H=>∃xs,eL K H a xs/\xs.length<=i⟩
noncomputable def IZ (lo:Int) (n:Nat):It:=⟨λi _=>i < n,λi H x H'=>H'=H/\x= .int (lo + i),λi _=>n<=i⟩
theorem wg {P:Program} {w:World} {K:PySem.W.Frag} {tg:Expr} (a it:Addr):Turn P w K tg (IY K a) [it] it (λi h=>h.IsListIter it a i) where
 mem:=by simp
 obj:=λi h st b hb=>by
  have e:b=it:=by simpa using hb
  subst e;obtain⟨o,e,c,d⟩:=st;exact⟨o,e,λv z=>by rw[d] at z;cases z⟩
 keep:=λi h h' st k=>st.at λo e=>k it (by simp) o e
 item:=by
  intro X hP hw hK hc i pins s σ H E I hf st hg;subst hP hw hK;obtain⟨xs,x,hq,hx⟩:=hg;obtain⟨its,rv,p,hz⟩:=I.list hq;obtain⟨u,hu,ru⟩:=rv.get hx;obtain⟨f0,f1,f2,f3,f4,f5⟩:=hf it (by simp);refine wpAny_pyNext_list_item st p.isList (x:=u) (by simpa using hu) λh' ai sb=>?_
  have I1:Inv X pins σ H {s with heap:=h'}:=I.turned (t':=s.toks) (λb o hb e=>(sb.2 b hb).trans e) f0 f1 f3 f4 f5;obtain⟨o,e,c,d⟩:=id ai;exact⟨u,rfl,xV (s:={s with heap:=h'}) e c d (by decide) ⟨x,H,I1,ru,⟨rfl,λys hy=>by rw[I.yB hy hq];exact hx⟩,ai,λb hb=>(hf b hb).1⟩⟩
 done:=by intro X hP hw hK hc i pins s σ H E I hf st hg;subst hP hw hK;obtain⟨xs,hq,hx⟩:=hg;obtain⟨its,rv,p,hz⟩:=I.list hq;obtain⟨f0,f1,f2,f3,f4,f5⟩:=hf it (by simp);have hl:=rv.length;exact wpAny_pyNext_list_end (I.ok.hd hc) st p.isList (by simp;lia) λh' eb=>⟨rfl,I.turned (t':=s.toks) (λb o hb e=>eb b o hb e) f0 f1 f3 f4 f5⟩
 self:=λ_ _ _ _ _ st h=>wpAny_pyIter_listiter st h
theorem sT {P:Program} {w:World} {K:PySem.W.Frag} {tg:Expr} (a it:Addr):Turn P w K tg (J0 K a) [it] it (λi h=>h.IsTupleIter it a i) where
 mem:=by simp
 obj:=λi h st b hb=>by
  have e:b=it:=by simpa using hb
  subst e;obtain⟨o,e,c,d⟩:=st;exact⟨o,e,λv z=>by rw[d] at z;cases z⟩
 keep:=λi h h' st k=>st.at λo e=>k it (by simp) o e
 item:=by
  intro X hP hw hK hc i pins s σ H E I hf st hg;subst hP hw hK;obtain⟨xs,x,hq,hx⟩:=hg;obtain⟨its,rv,p,hz⟩:=I.tuple hq;obtain⟨u,hu,ru⟩:=rv.get hx;obtain⟨f0,f1,f2,f3,f4,f5⟩:=hf it (by simp);refine wpAny_pyNext_tuple_item st (show s.heap.IsTuple a its.toArray from p) (x:=u) (by simpa using hu) λh' ai sb=>?_
  have I1:Inv X pins σ H {s with heap:=h'}:=I.turned (t':=s.toks) (λb o hb e=>(sb.2 b hb).trans e) f0 f1 f3 f4 f5;obtain⟨o,e,c,d⟩:=id ai;exact⟨u,rfl,xV (s:={s with heap:=h'}) e c d (by decide) ⟨x,H,I1,ru,⟨rfl,λys hy=>by rw[I.we hy hq];exact hx⟩,ai,λb hb=>(hf b hb).1⟩⟩
 done:=by intro X hP hw hK hc i pins s σ H E I hf st hg;subst hP hw hK;obtain⟨xs,hq,hx⟩:=hg;obtain⟨its,rv,p,hz⟩:=I.tuple hq;obtain⟨f0,f1,f2,f3,f4,f5⟩:=hf it (by simp);have hl:=rv.length;exact wpAny_pyNext_tuple_end (I.ok.hd hc) st (show s.heap.IsTuple a its.toArray from p) (by simp;lia) λh' eb=>⟨rfl,I.turned (t':=s.toks) (λb o hb e=>eb b o hb e) f0 f1 f3 f4 f5⟩
 self:=λ_ _ _ _ _ st h=>wpAny_pyIter_tupleiter st h
theorem sS {P:Program} {w:World} {K:PySem.W.Frag} {tg:Expr} (it:Addr) (lo:Int) (n:Nat):Turn P w K tg (IZ lo n) [it] it (λi h=>IsRangeIter h it (lo + (i:Nat) * 1) ((n:Int) - (i:Nat)) 1) where
 mem:=by simp
 obj:=λi h st b hb=>by
  have e:b=it:=by simpa using hb
  subst e;exact⟨_,st,λv z=>by
   have z':Data.fields _=Data.cell v:=z;cases z'⟩
 keep:=λi h h' st k=>k it (by simp) _ st
 item:=by
  intro X hP hw hK hc i pins s σ H E I hf st hg;subst hP hw hK;obtain⟨f0,f1,f2,f3,f4,f5⟩:=hf it (by simp);have W:=Walks.range (prog:=X.prog) (w:=X.w) (I.ok.hd hc) it lo 1 n;refine W.item i s _ _ hg st λv h' tk hv ai kk=>?_
  obtain⟨t,rfl⟩:=hv;have I1:Inv X pins σ H {s with heap:=h',toks:=tk}:=I.turned (λb o hb e=>kk b o (by simpa using hb) e) f0 f1 f3 f4 f5;refine⟨_,rfl,xV (s:={s with heap:=h',toks:=tk}) (n:="range_iterator") ai rfl rfl (by decide) ⟨.int (lo + i),H,I1,⟨t,?_⟩,⟨rfl,rfl⟩,ai,λb hb=>(hf b hb).1⟩⟩;rw[Int.mul_one]
 done:=by intro X hP hw hK hc i pins s σ H E I hf st hg;subst hP hw hK;obtain⟨f0,f1,f2,f3,f4,f5⟩:=hf it (by simp);exact wpAny_pyNext_range_end (I.ok.hd hc) st (by have:n<=i:=hg;lia) λh' eb=>⟨rfl,I.turned (t':=s.toks) (λb o hb e=>eb b o hb e) f0 f1 f3 f4 f5⟩
 self:=λ_ _ _ _ _ st h=>wpAny_pyIter_rangeiter st h
end L2
namespace L2
open PySem PySem.Spec PyProof.Rows
section
variable {X:Cx} {tg:Expr}
theorem y8 {pins:List (Addr×Obj)} {σ:St} {H:Hp} {s:Shared} {R:It->Hp->Prop} {E:Value->Shared->Prop} {lo hi:Int} {t u v:Tok} {tk:Nat} (I:Inv X pins σ H s) (h1: -(2 ^ 62)<=lo) (h2:lo < 2 ^ 62) (h3: -(2 ^ 62)<=hi) (h4:hi < 2 ^ 62)
  (q:R (IZ lo (hi - lo).toNat) H):wpAny (model X.prog X.w) X.A (pyIter (.ref s.heap.objs.size)) (MF X pins σ tg R) E {s with heap:=s.heap.push {cls:= .type "range",data:= .fields #[.int lo t,.int hi u,.int 1 v]},toks:=tk}:=by
 refine wpAny_pyIter_range (IsRange.new ..) (small_one h1 h2 h3 h4) ?_;have I1:Inv X pins σ H {s with heap:=s.heap.push {cls:= .type "range",data:= .fields #[.int lo t,.int hi u,.int 1 v]},toks:=tk}:=I.kept λb o e=>Qi _ e
 refine⟨(s.heap.push {cls:= .type "range",data:= .fields #[.int lo t,.int hi u,.int 1 v]}).objs.size,[(s.heap.push {cls:= .type "range",data:= .fields #[.int lo t,.int hi u,.int 1 v]}).objs.size],_,_,H,rfl,
  I1.kept (t':=tk) λb o e=>Qi _ e,sS _ lo (hi - lo).toNat,?_,λb hb=>?_,q⟩
 ·have e1:lo + ((0:Nat):Int) * 1=lo:=by simp
  have e2:(((hi - lo).toNat:Nat):Int) - ((0:Nat):Int)=Builtin.Range.rangeSize lo hi 1:=by rw[rangeSize_one];split <;> lia
  show IsRangeIter _ _ (lo + ((0:Nat):Int) * 1) ((((hi - lo).toNat:Nat):Int) - ((0:Nat):Int)) 1;rw[e1,e2];exact Qs _ rfl
 ·have e:b=(s.heap.push {cls:= .type "range",data:= .fields #[.int lo t,.int hi u,.int 1 v]}).objs.size:=by simpa using hb
  subst e;exact I1.pF (Qq _) (I1.hok.fresh (Qq _))
noncomputable def Hd (ta:TA):TI:=λσ H R=>ta σ H λvs H1=>∃j:Int,vs=[.int j]/\ -(2 ^ 62)<=j/\j < 2 ^ 62/\R (IZ 0 j.toNat) H1
theorem vS {a:Expr} {ta:TA} {p pos:Pos} (hg:Gl X "range") (hm:X.mg "range"=none) (ha:PA X [a] ta) (hs:starEach [a] X.env=[(false,eval a X.env)]:=by rfl):PI X tg (.Call (.Name "range" p) [a] [] pos) (Hd ta):=by
 intro pins s σ H R I h;refine Call_ (d7 I hg hm boot_range (PyProof.Rows.callWith_type1 (bN (ha pos pins s σ H _ I h) λus s1 ⟨vs,H1,I1,r1,q1⟩=>?_) hs rfl));obtain⟨j,e,q1,q2,q⟩:=q1;subst e;cases r1 with
 | cons r rr=>cases rr;obtain⟨t,rfl⟩:=r;exact call_range_1 (y8 I1 (by lia) (by lia) q1 q2 (by simpa using q))
noncomputable def Iz (wi:TI) (g:TG) (tb:TS):TS:=λD σ H=>wi σ H λJ H1=>∃W:Nat->Nat->St->Hp->Prop,(∃m,W 0 m σ H1)/\∀i m σ H,W i m σ H->
 (J.stop i H/\D.nx σ H)\/(J.go i H/\∃N:St->Hp->Prop,(∀σ' H',N σ' H'->∃m',m' < m/\W (i + 1) m' σ' H')/\∀x H',J.yld i H x H'->g x σ H' λσ2 H2=>tb {D with nx:=N,ct:=N,bk:=D.nx} σ2 H2)
noncomputable def kX (fp:List Addr) (h:Heap):List (Addr×Obj):=fp.filterMap λb=>(h.get? b).map λo=>(b,o)
theorem eU {fp:List Addr} {h:Heap} {b:Addr} {o:Obj} (hb:b∈fp) (e:h.get? b=some o):(b,o)∈kX fp h:=List.mem_filterMap.mpr ⟨b,hb,by rw[e];rfl⟩
theorem vQ {fp:List Addr} {h:Heap} {p:Addr×Obj} (hp:p∈kX fp h):p.1∈fp/\h.get? p.1=some p.2:=by
 obtain⟨b,hb,e⟩:=List.mem_filterMap.mp hp;cases q:h.get? b with
 | none=>rw[q] at e;cases e
 | some o=>rw[q] at e;have e':(b,o)=p:=Option.some.inj e;subst e';exact⟨hb,q⟩
theorem Inv.pinned {pins:List (Addr×Obj)} {σ:St} {H:Hp} {s:Shared} {fp:List Addr} (I:Inv X pins σ H s) (hf:∀b∈fp,f7 X pins H b) (ho:∀b∈fp,∃o,s.heap.get? b=some o/\∀v,o.data≠ .cell v):Inv X (pins++kX fp s.heap) σ H s:=
 I.jZ λp hp=>(QH.mp hp).elim (λz=>I.pin p (QR _ z)) λz=>by obtain⟨hb,e⟩:=vQ z;obtain⟨f0,f1,f2,_⟩:=hf p.1 hb;obtain⟨o,e',d⟩:=ho p.1 hb;rw[e] at e';cases e';exact⟨e,f0,f1,f2,d⟩
theorem Inv.iR {pins pl:List (Addr×Obj)} {σ:St} {H:Hp} {s:Shared} (I:Inv X (pins++pl) σ H s):Inv X pins σ H s:=I.jZ λp hp=>I.pin p (QR _ (List.mem_append_left _ hp))
theorem EC {iter:Expr} {body:List Stmt} {wi:TI} {g:TG} {tb:TS} {pos:Pos} (hp:PassesOwn (model X.prog X.w) X.A X.env X.xe) (hc:X.calm=true) (hi:PI X tg iter wi) (hg:PG X tg g) (hb:ve X body tb)
  (hs:∀x,foldedSetIterable iter X.env x=pure x:=by intro _;rfl):PS X (.For tg iter body [] pos) (Iz wi g tb):=by
 intro pins s σ H D I h;refine wpAny_For (bN (hi pins s σ H _ I h) λv s1 h1=>bN h1 λoU s2 h2=>?_) hs;obtain⟨it,fp,tn,J,H2,e,I2,T,dS,f2,W,⟨m0,w0⟩,turn⟩:=h2;subst e;have oB:∀{H':Hp},(∀b∈fp,H' b=none)->∀b∈fp,f7 X pins H' b:=λhn b hb=>⟨hn b hb,(f2 b hb).2⟩
 refine codeAny_forLoop_any (λn s'=>∃i σ' H',Inv X pins σ' H' s'/\tn i s'.heap/\(∀b∈fp,H' b=none)/\W i n σ' H') ?_ m0 ⟨0,σ,H2,I2,dS,λb hb=>(f2 b hb).1,w0⟩;rintro n s3 ⟨i,σ3,H3,I3,FP,MQ,w3⟩;rcases turn i n σ3 H3 w3 with ⟨stop,qn⟩ | ⟨go,N,hN,step⟩
 ·refine wpAny_passesOwn hp (bN (T.done X rfl rfl rfl hc i pins s3 σ3 H3 X.xe I3 (oB MQ) FP stop) λr s4 ⟨hr,I4⟩=>?_);subst hr;exact wpAny_execs_nil ⟨σ3,H3,I4,qn⟩
 ·refine wpAny_passesOwn hp (bN (T.item X rfl rfl rfl hc i pins s3 σ3 H3 X.xe I3 (oB MQ) FP go) λr s4 ⟨u,hr,h4⟩=>?_);subst hr;refine wpAny_passesOwn hp (bN h4 λ_ s5 ⟨x,H5,I5,r5,y5,Mk,Ks⟩=>?_);have NQ:=I5.pinned (oB Ks) (T.obj _ _ Mk);refine wpAny_passesOwn hp (bN (hg _ s5 σ3 H5 x u _ NQ r5 (step x H5 y5)) λ_ s6 ⟨σ6,H6,I6,q6⟩=>?_);refine wpAny_passesOwn hp (bN (hb _ s6 σ6 H6 _ I6 q6) λf s7 q7=>?_);have again:∀{σ7:St} {H7:Hp},Inv X (pins++kX fp s5.heap) σ7 H7 s7->N σ7 H7->∃m,m < n/\∃i σ' H',Inv X pins σ' H' s7/\tn i s7.heap/\(∀b∈fp,H' b=none)/\W i m σ' H':=λ {σ7 H7} I7 n7=>by obtain⟨m',hm,w7⟩:=hN σ7 H7 n7;refine⟨m',hm,i + 1,σ7,H7,I7.iR,T.keep _ _ _ Mk λb hb o e=>(I7.pin (b,o) (QR _ (QR _ (eU hb e)))).1,λb hb=>?_,w7⟩;obtain⟨o,e,d⟩:=T.obj _ _ Mk b hb;exact(I7.pin (b,o) (QR _ (QR _ (eU hb e)))).2.1
  cases f with
  | next=>obtain⟨σ7,H7,I7,n7⟩:=q7;exact again I7 n7
  | cont=>obtain⟨σ7,H7,I7,n7⟩:=q7;exact again I7 n7
  | brk=>obtain⟨σ7,H7,I7,q7⟩:=q7;exact⟨σ7,H7,I7.iR,q7⟩
  | ret v=>obtain⟨x7,σ7,H7,I7,r7,q7⟩:=q7;exact⟨x7,σ7,H7,I7.iR,r7,q7⟩
end
end L2
namespace L2
open PySem PySem.Spec PyProof.Rows
noncomputable abbrev R2:=V->V->Hp->VK->Prop
noncomputable def lF (X:Cx) (f:Value->Value->Sem Value) (r:R2):Prop:=
 ∀(pins:List (Addr×Obj)) (s:Shared) (σ:St) (H:Hp) (x y:V) (v u:Value) (Q:VK),Inv X pins σ H s->RelV x v->RelV y u->r x y H Q->
  wpAny (model X.prog X.w) X.A (f v u) (EP X pins σ Q) X.xe s
noncomputable def J7 (X:Cx) (f:Value->Sem Value) (r:V->Hp->VK->Prop):Prop:=
 ∀(pins:List (Addr×Obj)) (s:Shared) (σ:St) (H:Hp) (x:V) (v:Value) (Q:VK),Inv X pins σ H s->RelV x v->r x H Q->
  wpAny (model X.prog X.w) X.A (f v) (EP X pins σ Q) X.xe s
noncomputable def gi (X:Cx) (f:Value) (r:List V->Hp->VK->Prop):Prop:=
 ∀(pins:List (Addr×Obj)) (s:Shared) (σ:St) (H:Hp) (xs:List V) (us:List Value) (Q:VK),Inv X pins σ H s->ax xs us->r xs H Q->
  wpAny (model X.prog X.w) X.A (call f us) (EP X pins σ Q) X.xe s
noncomputable def J6 (X:Cx) (r:V->Hp->(Bool->Hp->Prop)->Prop):Prop:=
 ∀(pins:List (Addr×Obj)) (s:Shared) (σ:St) (H:Hp) (x:V) (v:Value) (Q:Bool->Hp->Prop),Inv X pins σ H s->RelV x v->r x H Q->
  wpAny (model X.prog X.w) X.A (truthy v) (TP X pins σ Q) X.xe s
noncomputable def JL (r:R2) (ta tb:TE):TE:=λσ H Q=>ta σ H λx H1=>tb σ H1 λy H2=>r x y H2 Q
noncomputable def Pn (r:V->Hp->VK->Prop) (ta:TE):TE:=λσ H Q=>ta σ H λx H1=>r x H1 Q
noncomputable def rI (C:Int->Int->Prop) (g:Int->Int->V):R2:=λx y H Q=>∃i j,x= .int i/\y= .int j/\C i j/\Q (g i j) H
noncomputable def CD (g:Int->Int->V):R2:=λx y H Q=>∃i j,x= .int i/\y= .int j/\Q (g i j) H
noncomputable def rU (g:Int->V):V->Hp->VK->Prop:=λx H Q=>∃i,x= .int i/\Q (g i) H
section
variable {X:Cx} {a b c:Expr} {ta tb tc:TE} {pos:Pos}
theorem C6 (ha:PE X a ta) (hb:PE X b tb) {pins:List (Addr×Obj)} {s:Shared} {σ:St} {H:Hp} {R:V->V->Hp->Prop} (I:Inv X pins σ H s)
  (h:ta σ H λx H1=>tb σ H1 λy H2=>R x y H2) {Q:Value->Shared->Prop} {f:Value->Value->Sem Value}
  (hf:∀v u s2 x y H2,Inv X pins σ H2 s2->RelV x v->RelV y u->R x y H2->wpAny (model X.prog X.w) X.A (f v u) Q X.xe s2):
  wpAny (model X.prog X.w) X.A (eval a X.env) (λv s₁=>wpAny (model X.prog X.w) X.A (eval b X.env) (λu s₂=>wpAny (model X.prog X.w) X.A (f v u) Q X.xe s₂) X.xe s₁) X.xe s:=by
 refine bN (ha pins s σ H _ I h) λv s1 ⟨x,H1,I1,r1,q1⟩=>?_
 refine bN (hb pins s1 σ H1 _ I1 q1) λu s2 ⟨y,H2,I2,r2,q2⟩=>?_
 exact hf v u s2 x y H2 I2 r1 r2 q2
theorem HH {op:Operator} {r:R2} (ho:lF X (binaryOp op) r) (ha:PE X a ta) (hb:PE X b tb):PE X (.BinOp a op b pos) (JL r ta tb):=by intro pins s σ H Q I h;exact wpAny_BinOp (C6 ha hb I h λv u s2 x y H2 I2 rx ry q=>ho pins s2 σ H2 x y v u Q I2 rx ry q)
theorem HK {op:UnaryOp} {r:V->Hp->VK->Prop} (ho:J7 X (unaryOp op) r) (ha:PE X a ta):PE X (.UnaryOp op a pos) (Pn r ta):=by intro pins s σ H Q I h;exact UnaryOp_ (bN (ha pins s σ H _ I h) λv s1 ⟨x,H1,I1,r1,q1⟩=>ho pins s1 σ H1 x v Q I1 r1 q1)
theorem Hx {f:Value->Value->Sem Value} {C:Int->Int->Prop} {g:Int->Int->Int}
  (rule:∀(i j:Int) (t u:Tok) (s:Shared) (Q:Value->Shared->Prop) (E:Value->Shared->Prop),C i j->Q (.int (g i j) s.toks) {s with toks:=s.toks + 1}->wpAny (model X.prog X.w) X.A (f (.int i t) (.int j u)) Q E s):
  lF X f (rI C λi j=> .int (g i j)):=by
 intro pins s σ H x y v u Q I rx ry h;obtain⟨i,j,rfl,rfl,hc,q⟩:=h;obtain⟨t,rfl⟩:=rx;obtain⟨t',rfl⟩:=ry;exact rule i j t t' s _ _ hc ⟨.int (g i j),H,I.tok _,⟨_,rfl⟩,q⟩
theorem Hy {f:Value->Value->Sem Value} {g:Int->Int->Int}
  (rule:∀(i j:Int) (t u:Tok) (s:Shared) (Q:Value->Shared->Prop) (E:Value->Shared->Prop),Q (.int (g i j) s.toks) {s with toks:=s.toks + 1}->wpAny (model X.prog X.w) X.A (f (.int i t) (.int j u)) Q E s):
  lF X f (CD λi j=> .int (g i j)):=by
 intro pins s σ H x y v u Q I rx ry h;obtain⟨i,j,rfl,rfl,q⟩:=h;obtain⟨t,rfl⟩:=rx;obtain⟨t',rfl⟩:=ry;exact rule i j t t' s _ _ ⟨.int (g i j),H,I.tok _,⟨_,rfl⟩,q⟩
theorem Bo {f:Value->Value->Sem Value} {g:Int->Int->Bool}
  (rule:∀(i j:Int) (t u:Tok) (s:Shared) (Q:Value->Shared->Prop) (E:Value->Shared->Prop),Q (.bool (g i j)) s->wpAny (model X.prog X.w) X.A (f (.int i t) (.int j u)) Q E s):
  lF X f (CD λi j=> .bl (g i j)):=by
 intro pins s σ H x y v u Q I rx ry h;obtain⟨i,j,rfl,rfl,q⟩:=h;obtain⟨t,rfl⟩:=rx;obtain⟨t',rfl⟩:=ry;exact rule i j t t' s _ _ ⟨.bl (g i j),H,I,rfl,q⟩
noncomputable def JT (i j:Int):Prop:=0 < j/\j < 1073741824
noncomputable def JU (i j:Int):Prop:=0<=j/\j<=1000000/\i.natAbs < 2 ^ 64
noncomputable def CP (i j:Int):Prop:=(-(2 ^ 64) < i/\i < 2 ^ 64)\/(-(2 ^ 64) < j/\j < 2 ^ 64)
theorem CP.ok {i j:Int} (h:CP i j):IntMulOk i j:=by
 rcases h with ⟨h1,h2⟩ | ⟨h1,h2⟩
 ·exact .of_left (intBits_le_64 h1 h2)
 ·exact .of_right (intBits_le_64 h1 h2)
theorem Ec:lF X (binaryOp .Add) (CD λi j=> .int (i + j)):=Hy λ_ _ _ _ _ _ _ q=>add_int q
theorem Ei:lF X (binaryOp .Sub) (CD λi j=> .int (i - j)):=Hy λ_ _ _ _ _ _ _ q=>sub_int q
theorem Eg:lF X (binaryOp .Mult) (rI CP λi j=> .int (i * j)):=Hx λ_ _ _ _ _ _ _ hc q=>mul_int q hc.ok
theorem JJ:lF X (binaryOp .FloorDiv) (rI JT λi j=> .int (i / j)):=Hx λi j _ _ _ _ _ hc q=>by have h1:(0:Int) < j:=hc.1;have h2:j < 1073741824:=hc.2;exact floordiv_int (by lia) (by rw[Int.fdiv_eq_ediv_of_nonneg i (by lia)];exact q) (.inl (PyProof.noPylong_small (by lia)))
theorem Ef:lF X (binaryOp .Mod) (rI (λ_ j=>0 < j) λi j=> .int (i % j)):=Hx λi j _ _ _ _ _ hc q=>by have h1:(0:Int) < j:=hc;exact mod_int' (by lia) (by rw[Int.fmod_eq_emod_of_nonneg i (by lia)];exact q)
theorem Eh:lF X (binaryOp .Pow) (rI JU λi j=> .int (i ^ j.toNat)):=Hx λ_ _ _ _ _ _ _ hc q=>pow_int_small hc.1 hc.2.1 hc.2.2 q
theorem Pq {f:Value->Sem Value} {g:Int->Int}
  (rule:∀(i:Int) (t:Tok) (s:Shared) (Q:Value->Shared->Prop) (E:Value->Shared->Prop),Q (.int (g i) s.toks) {s with toks:=s.toks + 1}->wpAny (model X.prog X.w) X.A (f (.int i t)) Q E s):
  J7 X f (rU λi=> .int (g i)):=by
 intro pins s σ H x v Q I rx h;obtain⟨i,rfl,q⟩:=h;obtain⟨t,rfl⟩:=rx;exact rule i t s _ _ ⟨.int (g i),H,I.tok _,⟨_,rfl⟩,q⟩
theorem Fi:J7 X (unaryOp .USub) (rU λi=> .int (-i)):=Pq λ_ _ _ _ _ q=>neg_int q
end
section
variable {X:Cx} {a b c:Expr} {ta tb tc:TE} {pos:Pos}
theorem HC:lF X (compareOp .Lt) (CD λi j=> .bl (decide (i < j))):=Bo λ_ _ _ _ _ _ _ q=>lt_int q
theorem HB:lF X (compareOp .LtE) (CD λi j=> .bl (decide (i<=j))):=Bo λ_ _ _ _ _ _ _ q=>le_int q
theorem HA:lF X (compareOp .Gt) (CD λi j=> .bl (decide (j < i))):=Bo λ_ _ _ _ _ _ _ q=>gt_int q
theorem Hz:lF X (compareOp .GtE) (CD λi j=> .bl (decide (j<=i))):=Bo λ_ _ _ _ _ _ _ q=>ge_int q
theorem Bu {op:CmpOp} {r:R2} (ho:lF X (compareOp op) r) (ha:PE X a ta) (hb:PE X b tb) (hm:behindInMarks op b=false):PE X (.Compare a [op] [b] pos) (JL r ta tb):=by intro pins s σ H Q I h;exact wpAny_Compare1 (C6 ha hb I h λv u s2 x y H2 I2 rx ry q=>ho pins s2 σ H2 x y v u Q I2 rx ry q) hm
noncomputable def IH (t:TE):TT:=λσ H Q=>t σ H λx H'=>∃k,x= .bl k/\Q k H'
theorem BE {op:CmpOp} {r:R2} (ho:lF X (compareOp op) r) (ha:PE X a ta) (hb:PE X b tb) (hm:behindInMarks op b=false):PT X (.Compare a [op] [b] pos) (IH (JL r ta tb)):=by
 intro pins s σ H Q I h;refine wpAny_isTrue_Compare1 (bN (ha pins s σ H _ I h) λv s1 ⟨x,H1,I1,r1,q1⟩=>bN (hb pins s1 σ H1 _ I1 q1) λu s2 ⟨y,H2,I2,r2,q2⟩=>
  bN (ho pins s2 σ H2 x y v u _ I2 r1 r2 q2) λc s3 ⟨z,H3,I3,r3,k,e,q3⟩=>?_) hm
 subst e;cases r3;exact wpAny_truthy_bool ⟨H3,I3,q3⟩
noncomputable def F0 (K:PySem.W.Frag) (x:V) (H:Hp) (k:Bool):Prop:=
 match x with
 | .bq=>k=false
 | .bl b=>k=b
 | .int i=>k=(i != 0)
 | .str y=>y.length<=sizeLine/\k=((y.length:Int) != 0)
 | .C9 y=>y.size<=sizeLine/\k=((y.size:Int) != 0)
 | .ref p=>(∃xs,dY K H p xs/\k= !xs.isEmpty)\/(∃xs,eL K H p xs/\k= !xs.isEmpty)\/∃e9,H p=some (.dK e9)/\k= !e9.isEmpty
 | _=>False
theorem rN {κ:Type} {e9:List (κ×V)} {vs:List (κ×Value)} (r:KV e9 vs):(!vs.isEmpty)= !e9.isEmpty:=by cases r <;> rfl
theorem kJ {xs:List V} {its:List Value} (r:ax xs its):(!its.toArray.isEmpty)= !xs.isEmpty:=by cases r <;> simp
theorem ja:(sizeLine:Nat) < 2 ^ 63:=by rw[sizeLine_eq];decide
theorem Fh:J6 X (λx H Q=>∃k,F0 X.K x H k/\Q k H):=by
 intro pins s σ H x v Q I rx h;obtain⟨k,e,q⟩:=h;have hl:=ja;have hs:sizeLine=16777216:=sizeLine_eq;cases x with
 | bq=>cases rx;have e':k=false:=e;subst e';exact truthy_none ⟨H,I,q⟩
 | bl b=>cases rx;have e':k=b:=e;subst e';exact wpAny_truthy_bool ⟨H,I,q⟩
 | int i=>obtain⟨t,rfl⟩:=rx;have e':k=(i != 0):=e;subst e';exact PySem.P.truthy_int ⟨H,I,q⟩
 | str y=>obtain⟨t,rfl⟩:=rx;obtain⟨hy,e'⟩:y.length<=sizeLine/\k=((y.length:Int) != 0):=e;subst e';exact PySem.P.truthy_str (by lia) ⟨H,I.tok _,q⟩
 | C9 y=>obtain⟨t,rfl⟩:=rx;obtain⟨hy,e'⟩:y.size<=sizeLine/\k=((y.size:Int) != 0):=e;subst e';exact PySem.W.truthy_bytes (by lia) ⟨H,I.tok _,q⟩
 | ref p=>
  cases rx;have e':(∃xs,dY X.K H p xs/\k= !xs.isEmpty)\/(∃xs,eL X.K H p xs/\k= !xs.isEmpty)\/∃e9,H p=some (.dK e9)/\k= !e9.isEmpty:=e;rcases e' with ⟨xs,hx,e'⟩ | ⟨xs,hx,e'⟩ | ⟨e9,hx,e'⟩
  ·subst e';obtain⟨its,r,pl,hz⟩:=I.list hx;have hlen:=r.length;exact wpAny_truthy_list pl.isList (by simp only[Ql];lia) ⟨H,I.tok _,by rw[kJ r];exact q⟩
  ·subst e';obtain⟨its,r,pl,hz⟩:=I.tuple hx;have hlen:=r.length;exact truthy_tuple pl (by simp only[Ql];lia) ⟨H,I.tok _,by rw[kJ r];exact q⟩
  ·subst e';obtain⟨hz,hS,vs,r,m⟩:e9.length<=sizeLine/\(p==sysModules)=false/\∃vs,KV e9 vs/\s.heap.DictOf (nX X.prog X.w) p vs:=I.hok p _ hx;have hlen:e9.length=vs.length:=Paired.length r;exact wpAny_truthy_dict hS m (by lia) ⟨H,I.tok _,by rw[rN r];exact q⟩
 | _=>exact(show False from e).elim
theorem yY (ha:PE X a ta) (he:∀whole,isTrue a X.env whole=(do let v<-whole;standAt a.pos;holding [v] (truthy v))):
  PT X a (λσ H Q=>ta σ H λx H'=>∃k,F0 X.K x H' k/\Q k H'):=by
 intro pins s σ H Q I h;exact isTrue_plain (bN (ha pins s σ H _ I h) λv s1 ⟨x,H1,I1,r1,q1⟩=>Fh pins s1 σ H1 x v Q I1 r1 q1) (he _)
theorem su:lF X (binaryOp .Add) (λx y H Q=>∃i j,x= .str i/\y= .str j/\i.length + j.length<=sizeLine/\Q (.str (i++j)) H):=by intro pins s σ H x y v u Q I rx ry h;obtain⟨i,j,rfl,rfl,hz,q⟩:=h;obtain⟨t,rfl⟩:=rx;obtain⟨t',rfl⟩:=ry;exact add_str (λt' tk=>⟨.str (i++j),H,I.tok _,⟨_,rfl⟩,q⟩) hz
theorem vals1 {x:V} {us:List Value} (r:ax [x] us):∃u,us=[u]/\RelV x u:=by
 cases r with
 | cons r1 r2=>cases r2;exact⟨_,rfl,r1⟩
theorem vals2 {x y:V} {us:List Value} (r:ax [x,y] us):∃u w',us=[u,w']/\RelV x u/\RelV y w':=by
 cases r with
 | cons r1 r2=>
  cases r2 with
  | cons r3 r4=>cases r4;exact⟨_,_,rfl,r1,r3⟩
theorem vi (hc:X.calm=true):gi X (.builtin "min") (λxs H Q=>∃i j,xs=[.int i,.int j]/\Q (.int (if j < i then j else i)) H):=by
 intro pins s σ H xs us Q I r h;obtain⟨i,j,rfl,q⟩:=h;obtain⟨u,w',rfl,⟨t,rfl⟩,⟨t',rfl⟩⟩:=vals2 r;refine min_two_ints (I.ok.hd hc) λh' tk k=>⟨_,H,I.kept k,?_,q⟩
 by_cases hj:j < i
 ·rw[if_pos hj,if_pos hj];exact⟨_,rfl⟩
 ·rw[if_neg hj,if_neg hj];exact⟨_,rfl⟩
noncomputable def J1 (K:PySem.W.Frag) (x:V) (H:Hp) (n:Nat):Prop:=
 match x with
 | .str y=>y.length<=sizeLine/\n=y.length
 | .C9 y=>y.size<=sizeLine/\n=y.size
 | .ref p=>(∃xs,dY K H p xs/\n=xs.length)\/∃xs,eL K H p xs/\n=xs.length
 | _=>False
theorem hJ:gi X (.builtin "len") (λxs H Q=>∃x n,xs=[x]/\J1 X.K x H n/\Q (.int n) H):=by
 intro pins s σ H xs us Q I r h;obtain⟨x,n,rfl,e,q⟩:=h;obtain⟨u,rfl,rx⟩:=vals1 r;have hl:=ja;have hs:sizeLine=16777216:=sizeLine_eq;cases x with
 | str y=>obtain⟨t,rfl⟩:=rx;obtain⟨hy,e'⟩:y.length<=sizeLine/\n=y.length:=e;subst e';exact len_str (by lia) ⟨.int _,H,I.tok _,⟨_,rfl⟩,q⟩
 | C9 y=>obtain⟨t,rfl⟩:=rx;obtain⟨hy,e'⟩:y.size<=sizeLine/\n=y.size:=e;subst e';exact PySem.W.len_bytes (by lia) ⟨.int _,H,I.tok _,⟨_,rfl⟩,q⟩
 | ref p=>
  cases rx;have e':(∃xs,dY X.K H p xs/\n=xs.length)\/∃xs,eL X.K H p xs/\n=xs.length:=e;rcases e' with ⟨xs,hx,e'⟩ | ⟨xs,hx,e'⟩
  ·subst e';obtain⟨its,r',pl,hz⟩:=I.list hx;have hlen:=r'.length;exact Calls.call_len_list pl.isList (by simp only[Ql];lia) ⟨.int xs.length,H,I.tok _,⟨_,by simp only[Ql];rw[hlen]⟩,q⟩
  ·subst e';obtain⟨its,r',pl,hz⟩:=I.tuple hx;have hlen:=r'.length;exact len_tuple pl (by simp only[Ql];lia) ⟨.int xs.length,H,I.tok _,⟨_,by simp only[Ql];rw[hlen]⟩,q⟩
 | _=>exact(show False from e).elim
end
end L2
namespace L2
open PySem PySem.Spec PyProof.Rows
structure CU (h:Heap) (x dx C:Addr) (mA:Str->Option Value):Prop where
 obj:h.get? x=some (PySem.W.instObj C dx)
 ns:h.Ns1 dx mA
 ne:dx≠x
theorem vM {h:Heap} {dx:Addr} {mA:Str->Option Value} (n:h.Ns1 dx mA):∃od,h.get? dx=some od/\∀name,PySem.W.lookIn name od=some (mA name):=by
 obtain⟨o,es,ep,ho,hd,hk,_,hm⟩:=n;refine⟨o,ho,λname=>?_⟩;have e:=hm name;unfold nsFind findBy at e;rw[<-Array.find?_toList] at e;unfold PySem.W.lookIn;rw[hd];dsimp only;split
 ·rename_i y q;rw[q] at e;exact congrArg some e
 ·rename_i q;rw[q] at e;have a:es.toList.any (·.refKey)=false:=by rw[List.any_eq_false];intro y hy;obtain⟨z,t,AV⟩:=hk y (Array.mem_toList_iff.mp hy);simp[DictEntry.refKey,AV]
  have a':¬es.toList.any (·.refKey)=true:=by rw[a];exact Bool.false_ne_true
  rw[if_neg a'];exact congrArg some e
theorem CU.look {h:Heap} {x dx C:Addr} {mA:Str->Option Value} (I:CU h x dx C mA):∃od,PySem.W.InstAt h x (PySem.W.instObj C dx) C (some od)/\∀name,PySem.W.lookIn name od=some (mA name):=
 let ⟨od,ho,hl⟩:=vM I.ns
 ⟨od,⟨I.obj,rfl,rfl,ho⟩,hl⟩
section
variable {P:Program} {w:World} {H H':Hp} {h h':Heap} {a C dx:Addr} {fs Kt:List (Str×V)}
theorem A7 (hok:eK P w H h) (e:H a=some (.ins C dx fs)):∃mA,CU h a dx C mA/\(∀f,CW (fs.lookup f) (mA f))/\PySem.Within mA (fs.map (·.1))/\fs.length<=1000/\H dx=some (.own a):=by obtain⟨d,z,ne,ob,mA,n,r,q⟩:=(show bV P w H h a (.ins C dx fs) from hok a _ e);exact⟨mA,⟨ob,n,ne⟩,r,q,z,d⟩
end
structure JV (K:PySem.W.Frag) (C:Addr):Prop where
 pg:PySem.W.plainGet K C Str.empty=true
 hd:PySem.W.hasDictIn K C=true
 po:PySem.W.plainOver K C=true
 sa:PySem.W.findIn K (.ref C) "__setattr__"=some (some (.builtin "object.__setattr__"))
theorem JV.get {K:PySem.W.Frag} {C:Addr} (c:JV K C) (f:Str):PySem.W.plainGet K C f=true:=c.pg
section
variable {X:Cx} {pins:List (Addr×Obj)} {σ:St} {H:Hp} {s:Shared} {A:Around} {E:Value->Shared->Prop} {Q:Value->Shared->Prop} {c:Value} {b:Bool}
inductive gZ (K:PySem.W.Frag) (H:Hp):V->Value->Prop where
 | bq:gZ K H .bq (.type "NoneType")
 | bl (x:Bool):gZ K H (.bl x) (.type "bool")
 | int (i:Int):gZ K H (.int i) (.type "int")
 | str (x:Str):gZ K H (.str x) (.type "str")
 | zW (x:UInt64):gZ K H (.zW x) (.type "float")
 | lst {a:Addr} {xs:List V} (e:H a=some (.lst xs)):gZ K H (.ref a) (.type "list")
 | tV {a:Addr} {o:Obj} {xs:List V} (e:H a=some (.tV o (.lst xs))):gZ K H (.ref a) (.type "list")
 | tup {a:Addr} {xs:List V} (e:H a=some (.tup xs)):gZ K H (.ref a) (.type "tuple")
 | dK {a:Addr} {e9:List (Key×V)} (e:H a=some (.dK e9)):gZ K H (.ref a) (.type "dict")
 | dT {a:Addr} {e9:List (List Key×V)} (e:H a=some (.dT e9)):gZ K H (.ref a) (.type "dict")
 | ins {a C dx:Addr} {fs:List (Str×V)} (e:H a=some (.ins C dx fs)) (cl:JV K C) (ha:PySem.W.findIn K (.ref C) "__class__"=some (some (.builtin "object.__class__")))
   (hn:PySem.W.specialIn K (.builtin "object.__class__") "__get__"=some (some (.builtin "getset_descriptor.__get__"))) (Nr:PySem.W.takesIn K (.builtin "object.__class__")=some true)
   (hm:PySem.W.mroIn K C (.type "object")=some true):gZ K H (.ref a) (.ref C)
theorem vH {x:V} {u t:Value} (I:Inv X pins σ H s) (rx:RelV x u) (ty:gZ X.K H x t) (e:PySem.W.kitOne X.K t c=some b) (h:∀tk,Q (.bool b) {s with toks:=tk}):
  wpAny (model X.prog X.w) A (call (.builtin "isinstance") [u,c]) Q E s:=by
 cases ty with
 | bq=>cases (show u=Value.none from rx);exact PySem.W.kia_one PySem.W.kitx_none I.pR True.intro e (λz=>nomatch z) h
 | bl y=>cases (show u=Value.bool y from rx);exact PySem.W.kia_one PySem.W.kitx_bool I.pR True.intro e (λz=>nomatch z) h
 | int i=>obtain⟨t,q⟩:=(show∃t,u=Value.int i t from rx);cases q;exact PySem.W.kia_one PySem.W.kitx_int I.pR True.intro e (λz=>nomatch z) h
 | str y=>obtain⟨t,q⟩:=(show∃t,u=Value.str y t from rx);cases q;exact PySem.W.kia_one PySem.W.kitx_str I.pR True.intro e (λz=>nomatch z) h
 | zW y=>obtain⟨t,q⟩:=(show∃t,u=Value.float y t from rx);cases q;exact PySem.W.kia_one PySem.W.kitx_float I.pR True.intro e (λz=>nomatch z) h
 | @lst a xs ea=>cases (show u=Value.ref a from rx);obtain⟨_,_,n,_,h1⟩:=(show bV X.prog X.w H s.heap a (.lst xs) from I.hok a _ ea);exact PySem.W.kia_one PySem.W.kitx_list I.pR ⟨_,h1,rfl⟩ e (λz=>nomatch z) h
 | @tV a ob xs ea=>cases (show u=Value.ref a from rx);obtain⟨_,_,_,n,_,h1⟩:=(show bV X.prog X.w H s.heap a (.tV ob (.lst xs)) from I.hok a _ ea);exact PySem.W.kia_one PySem.W.kitx_list I.pR ⟨_,h1,rfl⟩ e (λz=>nomatch z) h
 | @tup a xs ea=>cases (show u=Value.ref a from rx);obtain⟨_,_,_,p⟩:=(show bV X.prog X.w H s.heap a (.tup xs) from I.hok a _ ea);obtain⟨o,h1,h2,_⟩:=p;exact PySem.W.kia_one PySem.W.kitx_tuple I.pR ⟨o,h1,h2⟩ e (λz=>nomatch z) h
 | @dK a e9 ea=>cases (show u=Value.ref a from rx);obtain⟨_,_,vs,_,p⟩:=(show bV X.prog X.w H s.heap a (.dK e9) from I.hok a _ ea);obtain⟨o,es,ep,h1,h2,_⟩:=p;exact PySem.W.kia_one PySem.W.kitx_dict I.pR ⟨o,h1,h2.1⟩ e (λz=>nomatch z) h
 | @dT a e9 ea=>cases (show u=Value.ref a from rx);obtain⟨_,_,xs,_,o,es,ep,h1,h2,_⟩:=(show bV X.prog X.w H s.heap a (.dT e9) from I.hok a _ ea);exact PySem.W.kia_one PySem.W.kitx_dict I.pR ⟨o,h1,h2.1⟩ e (λz=>nomatch z) h
 | @ins a C dx fs ea cl ha hn Nr hm=>cases (show u=Value.ref a from rx);obtain⟨mA,O,_⟩:=A7 I.hok ea;obtain⟨od,J,_⟩:=O.look;exact PySem.W.kia_one (PySem.W.kitx_own (cl.get _) cl.hd ha hn Nr hm) I.pR J e (λz=>nomatch z) h
end
end L2
namespace L2
open PySem PySem.Spec PyProof.Rows
structure gW (k:Nat) (A:Around):Prop where
 hd:A.handled=none
 dp:A.depth + 3 * k + 5 < recursionLimit
 un:A.units + 16 * k + 200 < cLine
theorem gW.deeper {k:Nat} {A:Around} (r:gW (k + 1) A) (env:Env):gW k (A.deeper env):=
 ⟨r.hd,by have:=r.dp;show A.depth + 1 + 3 * k + 5 < _;lia,by have:=r.un;show A.units + 3 + 16 * k + 200 < _;lia⟩
theorem gW.depth {k:Nat} {A:Around} (r:gW k A):A.depth < recursionLimit:=by have:=r.dp;lia
noncomputable def Fc:TA:=λ_ H Q=>Q [] H
noncomputable def zq (ta:TE) (tr:TA):TA:=λσ H Q=>ta σ H λx H1=>tr σ H1 λxs H2=>Q (x::xs) H2
section
variable {X:Cx} {e:Expr} {es:List Expr} {te:TE} {t:TA} {pos:Pos}
theorem gL:PA X [] Fc:=λ_ _ _ _ H Q I h=>Calls.spliced_nil ⟨[],H,I,.nil,h⟩
theorem dC (ha:PE X e te) (hr:PA X es t) (hs:starEach (e::es) X.env=(false,eval e X.env)::starEach es X.env:=by rfl):PA X (e::es) (zq te t):=by intro pos pins s σ H Q I h;rw[hs];show wpAny _ _ (spliced ((false,eval e X.env)::backTo pos (starEach es X.env))) _ _ s;refine Calls.spliced_cons (bN (ha pins s σ H _ I h) λu s1 ⟨x,H1,I1,r1,q1⟩=>?_);exact bN (hr pos pins s1 σ H1 _ I1 q1) λus s2 ⟨xs,H2,I2,r2,q2⟩=>⟨x::xs,H2,I2,.cons r1 r2,q2⟩
noncomputable def Ms (t:TA):TE:=λσ H Q=>t σ H λxs H1=>xs.length<=sizeLine/\∀p,H1 p=none->Q (.ref p) (upd H1 p (.tup xs))
noncomputable def Mp (t:TA):TE:=λσ H Q=>t σ H λxs H1=>xs.length<=sizeLine/\∀p,H1 p=none->Q (.ref p) (upd H1 p (.lst xs))
theorem Ew {x1} (h:PA X es t):PE X (.Tuple es x1 pos) (Ms t):=by intro pins s σ H Q I hq;refine wpAny_Tuple_spliced (bN (h pos pins s σ H _ I hq) λus s1 ⟨xs,H1,I1,r,z,q⟩=>⟨by rw[<-r.length];exact z,?_⟩);have hf:H1 s1.heap.objs.size=none:=I1.hok.fresh (Qq _);refine⟨.ref s1.heap.objs.size,upd H1 s1.heap.objs.size (.tup xs),I1.laid (t':=s1.toks) (λb u e=>Qi _ e) (Qq _) ?_,rfl,q _ hf⟩;exact⟨z,us,r,⟨_,Qs _ rfl,rfl,_,rfl⟩⟩
theorem Ep (h:PA X es t):PE X (.List es pos) (Mp t):=by intro pins s σ H Q I hq;refine wpAny_List_spliced (bN (h pos pins s σ H _ I hq) λus s1 ⟨xs,H1,I1,r,z,q⟩=>⟨by rw[<-r.length];exact z,?_⟩);have hf:H1 s1.heap.objs.size=none:=I1.hok.fresh (Qq _);refine⟨.ref s1.heap.objs.size,upd H1 s1.heap.objs.size (.lst xs),I1.laid (t':=s1.toks) (λb u e=>Qi _ e) (Qq _) ?_,rfl,q _ hf⟩;exact⟨z,us,0,r,Qs _ rfl⟩
end
noncomputable abbrev Sp:=List V->Hp->VK->XK->Prop
noncomputable abbrev j7:=List Env->Hp->Shared->XK->Value->Shared->Prop
structure Aj (P:Program) (w:World) (K:PySem.W.Frag) (mg:Str->Option Value) (base:Heap) (A:Around) (outer:List Env) (s:Shared) (H:Hp):Prop where
 frames:A.frames=some outer
 mod:Mod K mg base
 bs:∀b o,base.get? b=some o->s.heap.get? b=some o/\H b=none
 Aw:base.objs.size<=s.heap.objs.size
 jy:s.heap.FunFrames base outer
 Dp:∀b∈fk outer,H b=none
 hok:eK P w H s.heap
 bare:AllBare s.gens
noncomputable def CE (outer:List Env) (P:Program) (w:World) (H:Hp) (s:Shared) (Q:VK) (u:Value) (s':Shared):Prop:=
 ∃v H',s'.os=s.os/\AllBare s'.gens/\Un (fk outer) [] H H' s.heap s'.heap/\eK P w H' s'.heap/\RelV v u/\Q v H'
noncomputable def CR (CX:j7) (outer:List Env) (P:Program) (w:World) (H:Hp) (s:Shared) (Q:VK) (E:XK) (r:Result) (s':Shared):Prop:=
 match r with
 | .ok (.ret u)=>CE outer P w H s Q u s'
 | .ok _=>False
 | .error e=>CX outer H s E e s'
structure iU (P:Program) (w:World) (K:PySem.W.Frag) (mg:Str->Option Value) (base:Heap) (CX:j7) (k:Nat) (f:Addr) (fd:FuncData) (ps:List Str) (sp:Sp):Prop where
 len:∀vs H Q E,sp vs H Q E->vs.length=ps.length
 run:∀(A:Around) (outer:List Env) (s:Shared) (H:Hp) (args:Args) (us:List Value) (vs:List V) (Q:VK) (E:XK),gW k A->Aj P w K mg base A outer s H->BindsTo s fd args (ps.zip us)->ax vs us->sp vs H Q E->
  codeAny (model P w) A (.call (.ref f) args) (CR CX outer P w H s Q E) s
theorem iU.imp {P:Program} {w:World} {K:PySem.W.Frag} {mg:Str->Option Value} {base:Heap} {CX:j7} {k:Nat} {f:Addr} {fd:FuncData} {ps:List Str} {sp NF:Sp} (F:iU P w K mg base CX k f fd ps sp)
  (h:∀vs H Q E,NF vs H Q E->sp vs H Q E):iU P w K mg base CX k f fd ps NF:=
 ⟨λvs H Q E q=>F.len vs H Q E (h _ _ _ _ q),λA outer s H args us vs Q E hr he hb hv hs=>F.run A outer s H args us vs Q E hr he hb hv (h _ _ _ _ hs)⟩
section
variable {X:Cx} {pins:List (Addr×Obj)} {σ:St} {H:Hp} {s s':Shared}
theorem Inv.f9 (I:Inv X pins σ H s):Aj X.prog X.w X.K X.mg X.base X.A X.stack s H:=
 ⟨I.ok.frames,I.ok.mod,I.bs,Qw I.ok.Aw I.sz,I.stack,I.oC,I.hok,I.bare⟩
theorem Inv.after {Q:VK} {u:Value} (I:Inv X pins σ H s) (h:CE X.stack X.prog X.w H s Q u s'):EP X pins σ Q u s':=by obtain⟨v,H',os,bare,un,hok,r,q⟩:=h;obtain⟨hh,g,d,t,HD⟩:=s';obtain rfl:HD=s.os:=os;exact⟨v,H',I.call (h':=hh) (g':=g) (d':=d) (t':=t) (ch:=[]) un hok bare (λb z=>absurd z (by simp)),r,q⟩
end
noncomputable def Iy (sp:Sp) (vn:List V) (E:XK) (t:TA):TE:=λσ H Q=>t σ H λvs H1=>sp (vs++vn) H1 Q E
noncomputable def Binds (K:PySem.W.Frag) (fd:FuncData) (ps:List Str) (ds:List Value):Prop:=
 ∀(s:Shared) (us:List Value),K.In s.heap->(us++ds).length=ps.length->BindsTo s fd ⟨us,[]⟩ (ps.zip (us++ds))
theorem Binds.all {K:PySem.W.Frag} {fd:FuncData} {ps:List Str} (h:∀us:List Value,us.length=ps.length->bindArgs fd ⟨us,[]⟩=pure (ps.zip us)):Binds K fd ps []:=λs us _ hl=>by rw[QY] at hl ⊢;exact .of_eq (h us hl)
noncomputable def qR (CX:j7) (X:Cx) (E:XK):Prop:=∀(pins:List (Addr×Obj)) (σ:St) (H:Hp) (s:Shared) (e:Value) (s':Shared),Inv X pins σ H s->CX X.stack H s E e s'->X.xe e s'
section
variable {X:Cx} {CX:j7} {k:Nat} {f C:Addr} {fd:FuncData} {ps:List Str} {sp:Sp} {vn:List V} {ds:List Value} {E:XK} {x m:Str} {p pos apos:Pos} {e o:Expr} {es:List Expr} {ta:TE} {t:TA}
theorem EM {pins:List (Addr×Obj)} {σ:St} {H:Hp} {s:Shared} {Q:VK} {us:List Value} {vs:List V} (F:iU X.prog X.w X.K X.mg X.base CX k f fd ps sp) (hr:gW k X.A) (hb:Binds X.K fd ps ds) (hd:ax vn ds) (hx:qR CX X E)
  (I:Inv X pins σ H s) (r:ax vs us) (h:sp (vs++vn) H Q E):wpAny (model X.prog X.w) X.A (call (.ref f) us) (EP X pins σ Q) X.xe s:=by
 have r2:ax (vs++vn) (us++ds):=r.append hd;have hl:(us++ds).length=ps.length:=by rw[<-r2.length];exact F.len _ _ _ _ h
 refine wpAny_call (codeAny_mono (F.run X.A X.stack s H ⟨us,[]⟩ (us++ds) (vs++vn) Q E hr I.f9 (hb s us I.pR hl) r2 h) λr s' hq=>?_);cases r with
 | error e=>exact hx pins σ H s e s' I hq
 | ok fl=>
  cases fl with
  | ret u=>exact I.after hq
  | next=>exact False.elim hq
  | brk=>exact False.elim hq
  | cont=>exact False.elim hq
theorem Bt (F:iU X.prog X.w X.K X.mg X.base CX k f fd ps sp) (hr:gW k X.A) (hg:Gl X x) (hm:X.mg x=some (.ref f)) (hk:PySem.W.keepIn X.K (.ref f)=true) (hb:Binds X.K fd ps ds) (hd:ax vn ds) (hx:qR CX X E)
  (ha:PA X (e::es) t) (AS:(x==("__debug__":Str))=false:=by decide) (he:starEach (e::es) X.env=(false,eval e X.env)::starEach es X.env:=by rfl) (gG:(backTo pos (starEach es X.env)).any (·.1)=false:=by rfl):
  PE X (.Call (.Name x p) (e::es) [] pos) (Iy sp vn E t):=by
 intro pins s σ H Q I h;refine wpAny_Call_Name_kw (um I hg hm ?_ AS);refine PySem.W.callWith_K (h₀:=X.base) I.ok.mod.LB hk (bN (ha pos pins s σ H _ I h) λus s1 ⟨vs,H1,I1,r,q⟩=>⟨I1.pR,?_⟩) he gG;exact EM F hr hb hd hx I1 r q
end
structure eJ (N P:List Str) (sc:Scope):Prop where
 kind:sc.kind= .function
 co:sc.isCoroutine=false
 gen:sc.isGenerator=false
 nd:N.Nodup
 pre:N.take P.length=P
 par:∀x∈P,sc.names.lookup x=some .local\/sc.names.lookup x=some .cell
 D8:∀y∈sc.names,y.2≠ .free
theorem md {kindOf:Str->Option NameKind} {x:Str}:∀{binds:List (Str×Value)} {m:Str->Option Value},(∀v,(x,v)∉binds)->bindL kindOf binds m x=m x
 | [],_,_=>rfl
 | (n,v)::r,m,h=>by
  unfold bindL;rw[md λw hw=>h w (Qo _ hw)];split
  ·have:x≠n:=by rintro rfl;exact h v Qr
   simp[this]
  ·rfl
theorem l8 {kindOf:Str->Option NameKind} {x:Str}:∀{binds:List (Str×Value)} {m:Str->Option Value},(∀v,(x,v)∉binds)->bindC kindOf binds m x=m x
 | [],_,_=>rfl
 | (n,v)::r,m,h=>by
  unfold bindC;rw[l8 λw hw=>h w (Qo _ hw)];split
  ·rfl
  ·have:x≠n:=by rintro rfl;exact h v Qr
   simp[this]
theorem l9 {kindOf:Str->Option NameKind} {x:Str} {v:Value}:∀{P:List Str} {vs:List Value} {i:Nat} {m:Str->Option Value},P.Nodup->P[i]?=some x->vs[i]?=some v->kindOf x=some .local->
  bindL kindOf (P.zip vs) m x=some v
 | [],_,_,_,_,h,_,_=>by simp at h
 | _::_,[],_,_,_,_,h,_=>by simp at h
 | p::P,w::vs,0,m,nd,h1,h2,hk=>by simp at h1 h2;subst h1;subst h2;show bindL kindOf ((p,w)::P.zip vs) m p=_;unfold bindL;rw[md λv hv=>(List.nodup_cons.mp nd).1 (List.of_mem_zip hv).1,if_pos hk];simp
 | p::P,w::vs,i + 1,m,nd,h1,h2,hk=>by show bindL kindOf ((p,w)::P.zip vs) m x=_;unfold bindL;exact l9 (i:=i) (List.nodup_cons.mp nd).2 (by simpa using h1) (by simpa using h2) hk
theorem l7 {kindOf:Str->Option NameKind} {x:Str} {v:Value}:∀{P:List Str} {vs:List Value} {i:Nat} {m:Str->Option Value},P.Nodup->P[i]?=some x->vs[i]?=some v->kindOf x≠some .local->
  bindC kindOf (P.zip vs) m x=some v
 | [],_,_,_,_,h,_,_=>by simp at h
 | _::_,[],_,_,_,_,h,_=>by simp at h
 | p::P,w::vs,0,m,nd,h1,h2,hk=>by simp at h1 h2;subst h1;subst h2;show bindC kindOf ((p,w)::P.zip vs) m p=_;unfold bindC;rw[l8 λv hv=>(List.nodup_cons.mp nd).1 (List.of_mem_zip hv).1,if_neg hk];simp
 | p::P,w::vs,i + 1,m,nd,h1,h2,hk=>by show bindC kindOf ((p,w)::P.zip vs) m x=_;unfold bindC;exact l7 (i:=i) (List.nodup_cons.mp nd).2 (by simpa using h1) (by simpa using h2) hk
noncomputable def start (N:List Str) (vs:List V):St:=vs.map some++List.replicate (N.length - vs.length) none
noncomputable def kr (CX:j7) (P:Program) (w:World) (K:PySem.W.Frag) (mg:Str->Option Value) (base:Heap) (N:List Str) (qual:Str) (scope:Scope) (f:Addr) (cd:Value) (A:Around) (outer:List Env) (s:Shared) (H:Hp) (E:XK):Cx where
 prog:=P
 w:=w
 K:=K
 mg:=mg
 base:=base
 A:=A.deeper (envOfC qual scope s.heap.objs.size f cd)
 N:=N
 s₀:=s
 H₀:=H
 env:=envOfC qual scope s.heap.objs.size f cd
 outer:=outer
 stack:=envOfC qual scope s.heap.objs.size f cd::outer
 ex:=[]
 calm:=true
 fn:=λ_=>true
 pn:=[]
 xe:=λe s'=>wpAny (model P w) (A.deeper (envOfC qual scope s.heap.objs.size f cd)) (leaving (envOfC qual scope s.heap.objs.size f cd) e) (λ_ s''=>CX outer H s E e s'') (λe' s''=>CX outer H s E e' s'') s'
theorem pz {sc:Scope} {n:Nat} {x:Str} (h:sc.names.lookup x=some .cell):∃c,(cellsFrom n sc.names []).lookup x=some c:=by have q:=PySem.W.cellsFrom_some sc.names n [] (.inl h);exact Option.isSome_iff_exists.mp q
theorem vF {CX:j7} {P:Program} {w:World} {K:PySem.W.Frag} {mg:Str->Option Value} {base:Heap} {N ps:List Str} {qual:Str} {scope:Scope} {f:Addr} {cd:Value} {A:Around} {outer:List Env} {s s1:Shared} {H:Hp} {E:XK} {us:List Value} {vs:List V}
  (S:eJ N ps scope) (hd:A.handled=none) (e0:Aj P w K mg base A outer s H) (hl:vs.length=ps.length) (r:ax vs us)
  (x:InCallC s s.heap.objs.size (bindL (envOfC qual scope s.heap.objs.size f cd).kindOf (ps.zip us) λ_=>none) (cellsFrom (s.heap.objs.size + 1) scope.names []) (bindC (envOfC qual scope s.heap.objs.size f cd).kindOf (ps.zip us) λ_=>none) s1):
  Inv (kr CX P w K mg base N qual scope f cd A outer s H E) [] (start N vs) H s1:=by
 have gG:ps.length<=N.length:=by have:=congrArg List.length S.pre;rw[List.length_take] at this;lia
 obtain⟨h1,tk,rfl,hk⟩:=x.done;have Ht:∀b:Addr,b∉(kr CX P w K mg base N qual scope f cd A outer s H E).ex:=λb z=>absurd (show b∈([]:List Addr) from z) (by simp)
 refine⟨⟨e0.mod,S.kind,rfl,rfl,Qq _,λy z c h1 h2=>?_,λy hy=>?_,λy c _ h=>?_,λ_=>hd,Around.frames_deeper e0.frames,.inr ⟨rfl,rfl⟩,λb z=>absurd z (Ht b),e0.bs,e0.Aw,λb _ _=>Ht b,λb z=>absurd z (Ht b),e0.jy,e0.Dp⟩,
  rfl,e0.bare,Un.kept hk,⟨_,x.toInCall.ns,λi y v h1 h2 h3=>?_⟩,λy c h=>⟨_,x.cell y c h⟩,e0.hok.fresh (Qq _),λy c h=>?_,λp hp=>absurd (show p∈([]:List (Addr×Obj)) from hp) (by simp),e0.hok.kept hk,?_⟩
 ·exact name_of_addr x.apart (PySem.mem_of_lookup h1) (PySem.mem_of_lookup h2)
 ·have hy:scope.names.lookup y=some .cell\/scope.names.lookup y=some .free:=hy;rcases hy with hy | hy
  ·exact pz hy
  ·exact absurd rfl (S.D8 _ (PySem.mem_of_lookup hy))
 ·exact Nat.le_of_lt (x.above y c (PySem.mem_of_lookup h))
 ·have hi:i < vs.length:=by
   unfold start at h2;by_cases hi:i < vs.length
   ·exact hi
   ·rw[Q1 (by simpa using hi)] at h2;rw[List.getElem?_replicate] at h2;split at h2 <;> cases h2
  have ha:vs[i]?=some v:=by
   unfold start at h2;rw[Q0 (by simpa using hi),QE] at h2;cases e:vs[i]? with
   | none=>rw[e] at h2;cases h2
   | some a=>rw[e] at h2;cases h2;rfl
  obtain⟨u,hu,rv⟩:=r.get ha;have hp:ps[i]?=some y:=by rw[<-S.pre,List.getElem?_take_of_lt (by lia)];exact h1
  have Nz:ps.Nodup:=by rw[<-S.pre];exact S.nd.sublist (List.take_sublist _ _)
  refine⟨u,rv,?_⟩;rcases S.par y (List.mem_of_getElem? hp) with k | k
  ·exact .inl ⟨k,l9 Nz hp hu k⟩
  ·obtain⟨c,e⟩:=pz (n:=s.heap.objs.size + 1) k;refine .inr ⟨.inl k,c,e,?_⟩;have q:=x.cell y c e;rw[l7 Nz hp hu (by show scope.names.lookup y≠_;rw[k];decide)] at q;exact q
 ·exact e0.hok.fresh (Nat.le_of_lt (x.above y c (PySem.mem_of_lookup h)))
 ·unfold start;show _=N.length;rw[QB,Qu,List.length_replicate]
  lia
end L2
namespace L2
open PySem PySem.Spec PyProof.Rows
section
variable {X:Cx} {x:Str} {p pos:Pos} {e:Expr} {es:List Expr} {t:TA} {id T:String} {r:List V->Hp->VK->Prop}
noncomputable def Mo (r:List V->Hp->VK->Prop) (t:TA):TE:=λσ H Q=>t σ H λvs H1=>r vs H1 Q
theorem qb (hc:gi X (.builtin id) r) (hg:Gl X x) (hm:X.mg x=none) (hv:bootBuiltins x=some (.builtin id)) (ha:PA X (e::es) t) (hn:x≠"__name__":=by decide) (AS:(x==("__debug__":Str))=false:=by decide)
  (he:starEach (e::es) X.env=(false,eval e X.env)::starEach es X.env:=by rfl) (gG:(backTo pos (starEach es X.env)).any (·.1)=false:=by rfl):PE X (.Call (.Name x p) (e::es) [] pos) (Mo r t):=by
 intro pins s σ H Q I h;refine wpAny_Call_Name_kw (d7 I hg hm hv ?_ hn AS);exact PyProof.Rows.callWith_builtin1 (bN (ha pos pins s σ H _ I h) λus s1 ⟨vs,H1,I1,r1,q1⟩=>hc pins s1 σ H1 vs us Q I1 r1 q1) he gG
theorem vR (hc:gi X (.type T) r) (hg:Gl X x) (hm:X.mg x=none) (hv:bootBuiltins x=some (.type T)) (ha:PA X (e::es) t) (hn:x≠"__name__":=by decide) (AS:(x==("__debug__":Str))=false:=by decide)
  (he:starEach (e::es) X.env=(false,eval e X.env)::starEach es X.env:=by rfl) (gG:(backTo pos (starEach es X.env)).any (·.1)=false:=by rfl):PE X (.Call (.Name x p) (e::es) [] pos) (Mo r t):=by
 intro pins s σ H Q I h;refine wpAny_Call_Name_kw (d7 I hg hm hv ?_ hn AS);exact PyProof.Rows.callWith_type1 (bN (ha pos pins s σ H _ I h) λus s1 ⟨vs,H1,I1,r1,q1⟩=>hc pins s1 σ H1 vs us Q I1 r1 q1) he gG
end
end L2
namespace HT
open PySem PyProof.Rows
section
variable {prog:Program} {w:World} {A:Around} {E:Value->Shared->Prop} {s:Shared}
theorem AA {t b:Addr} {vs ws:List Value} {Q:Value->Shared->Prop} (ht:IsTup s.heap t vs.toArray) (hb:IsTup s.heap b ws.toArray) (hv:vs≠[])
  (h1:ws=[]->Q (.ref t) s) (h2:ws≠[]->Q (.ref s.heap.objs.size) {s with heap:=s.heap.push {cls:= .type "tuple",data:= .seq (vs++ws).toArray}})
  (iy:vs.length + ws.length<=sizeLine):wpAny (model prog w) A (binaryOp .Add (.ref t) (.ref b)) Q E s:=by
 obtain⟨⟨cls,dd,data,sl⟩,ho,hc,n,hd⟩:=id ht;obtain⟨⟨Gg,zU,data2,wB⟩,oR,vx,n2,hd2⟩:=id hb;simp only at hc hd vx hd2;subst hc hd vx hd2;have e:vs.toArray++ws.toArray=(vs++ws).toArray:=by simp
 by_cases hw:ws=[]
 ·exact concat_meets ⟨_,ho,rfl⟩ ⟨_,oR,rfl⟩ noFill_tuple_add seq_tuple_add PySem.F.slot_tuple_add PySem.F.entry_tuple_add (PySem.F.args_tuple_add_2 _ _)
   (tuple_addW1 t b vs.toArray ws.toArray n n2 dd zU sl wB (by simpa using hv) (by simp[hw])) ⟨ho,oR,h1 hw⟩
 ·refine concat_meets ⟨_,ho,rfl⟩ ⟨_,oR,rfl⟩ noFill_tuple_add seq_tuple_add PySem.F.slot_tuple_add PySem.F.entry_tuple_add (PySem.F.args_tuple_add_2 _ _)
   (tuple_addW2 t b vs.toArray ws.toArray n n2 dd zU sl wB (by simpa using hv) (by simpa using hw) (by rw[Ql,Ql];exact iy)) ⟨ho,oR,?_⟩
  rw[e];exact h2 hw
noncomputable def bU (n d:Nat):Option Int->Nat
 | none=>d
 | some v=>if v < 0 then(v + (n:Int)).toNat else min v.toNat n
theorem EN (n d:Nat) (hd:d<=n) (o:Option Int):bU n d o<=n:=by
 cases o with
 | none=>exact hd
 | some v=>
  show (if v < 0 then(v + (n:Int)).toNat else min v.toNat n)<=n;by_cases hv:v < 0
  ·rw[if_pos hv];lia
  ·rw[if_neg hv];exact Nat.min_le_right _ _
theorem tK (v:Int) (n d:Nat):(if v < 0 then max (v + (n:Int)) 0 else min v (n:Int))=((bU n d (some v):Nat):Int):=by
 show (if v < 0 then max (v + (n:Int)) 0 else min v (n:Int))=(((if v < 0 then(v + (n:Int)).toNat else min v.toNat n):Nat):Int);by_cases hv:v < 0
 ·simp only[if_pos hv];lia
 ·simp only[if_neg hv];lia
theorem qT (lo hi:Option Int) (n:Nat):Builtin.Slice.sliceAdjust lo hi 1 (n:Int)=(((bU n 0 lo:Nat):Int),((bU n n hi:Nat):Int)):=by
 have h1:¬((1:Int) < 0):=by lia
 unfold Builtin.Slice.sliceAdjust;simp only[h1,if_false];refine Prod.ext ?_ ?_
 ·cases lo with
  | none=>rfl
  | some v=>exact tK v n 0
 ·cases hi with
  | none=>rfl
  | some v=>exact tK v n n
theorem sF (i j:Nat):Builtin.Slice.slicePlaces (i:Int) (j:Int) 1=j - i:=by
 unfold Builtin.Slice.slicePlaces;have h1:(1:Int) > 0:=by lia
 simp only[h1,if_true,Int.ediv_one];split <;> lia
theorem k7 {v:Value} {o:Option Int} {Q:Option Int->Shared->Prop} (p:IsPart v o) (h:Q o s):wpAny (model prog w) A (Builtin.Slice.slicePartIndex v) Q E s:=by
 cases p with
 | none=>exact slicePart_none h
 | int i t=>exact slicePart_int h
theorem eG {sl:Addr} {vl vu:Value} {lo hi:Option Int} {n:Nat} {Q:Int×Int×Nat->Shared->Prop} (hs:s.heap.IsSliceOf sl vl vu .none) (pl:IsPart vl lo) (pu:IsPart vu hi)
  (h:Q (((bU n 0 lo:Nat):Int),1,bU n n hi - bU n 0 lo) s):wpAny (model prog w) A (Builtin.Slice.sliceApplied (.ref sl) (pure (n:Int))) Q E s:=by
 obtain⟨os,DG,AQ,yc⟩:=id hs;unfold Builtin.Slice.sliceApplied Builtin.Slice.sliceFields;refine Qg (Qg (wpAny_field DG yc (x:=vl) rfl (Qg (wpAny_field DG yc (x:=vu) rfl (Qg (wpAny_field DG yc (x:= .none) rfl (Qj ?_)))))));refine Qg (slicePart_none ?_);show wpAny _ _ (if ((1:Int)==0)=true then _ else _) _ _ s;rw[if_neg (by decide)];refine Qg (k7 pl (Qg (k7 pu (Qg (Qj ?_)))));show wpAny _ _ (match Builtin.Slice.sliceAdjust lo hi 1 (n:Int) with | (lo,hi)=>pure (lo,(1:Int),Builtin.Slice.slicePlaces lo hi 1)) _ _ s;rw[qT lo hi n];show wpAny _ _ (pure (((bU n 0 lo:Nat):Int),(1:Int),Builtin.Slice.slicePlaces ((bU n 0 lo:Nat):Int) ((bU n n hi:Nat):Int) 1)) _ _ s;rw[sF];exact Qj h
theorem yT (xs:Array Value) (i k:Nat):((List.range k).filterMap λ(m:Nat)=>xs[((i:Int) + (m:Int) * 1).toNat]?).toArray=((xs.toList.drop i).take k).toArray:=by
 have e:(λ(m:Nat)=>xs[((i:Int) + (m:Int) * 1).toNat]?)=λm=>xs[i + m]?:=by
  funext m;have:((i:Int) + (m:Int) * 1).toNat=i + m:=by lia
  rw[this]
 rw[e];have:=pick_run xs i k;rw[List.filterMap_map] at this;have e2:((λx=>xs[x]?) ∘ λx=>i + x)=λm=>xs[i + m]?:=rfl
 rw[e2] at this;rw[this]
theorem iq {t sl:Addr} {items:Array Value} {vl vu:Value} {lo hi:Option Int} {Q:Value->Shared->Prop} (ht:IsTup s.heap t items) (hs:s.heap.IsSliceOf sl vl vu .none) (pl:IsPart vl lo) (pu:IsPart vu hi)
  (hw:¬(bU items.size 0 lo=0/\bU items.size items.size hi=items.size))
  (h:Q (.ref s.heap.objs.size) {s with heap:=s.heap.push {cls:= .type "tuple",data:= .seq ((items.toList.drop (bU items.size 0 lo)).take (bU items.size items.size hi - bU items.size 0 lo)).toArray}})
  (iy:items.size<=sizeLine):wpAny (model prog w) A (getItem (.ref t) (.ref sl)) Q E s:=by
 have t9:sizeOk (.seq ((items.toList.drop (bU items.size 0 lo)).take (bU items.size items.size hi - bU items.size 0 lo)).toArray):=by
  show ((items.toList.drop (bU items.size 0 lo)).take (bU items.size items.size hi - bU items.size 0 lo)).toArray.size<=sizeLine;rw[Ql,List.length_take,List.length_drop,QF]
  lia
 have hj:bU items.size items.size hi<=items.size:=EN _ _ (Qq _) hi;obtain⟨os,DG,AQ,yc⟩:=id hs;have KQ:s.TypeIs (.ref sl) "slice":=⟨os,DG,AQ⟩;unfold getItem
 try with_reducible refine wpAny_holding ?_
 first | refine Qg (Qj ?_) | skip
 refine Qg (wpAny_sequenceKey ht.typeIs (by decide) ?_);refine Qg (wpAny_callSpecial?_slot (name:=Str.ofString "__getitem__") ht.typeIs PyProof.Rows.slot_tuple_getitem
  (wpAny_call_entry PyProof.Rows.slot_tuple_getitem ht.typeIs entry_tuple_getitem ?_ (args_tuple_getitem _ _)))
 show wpAny _ _ (Builtin.Tuple.tupleItemsOf (.ref t) >>=_) _ _ s;refine Qg (tupleItemsOf_ ht ?_);refine Qg (wpAny_typeOf KQ ?_);rw[if_pos (by decide)];refine Qg (eG hs pl pu ?_);have ON:¬((((bU items.size 0 lo:Nat):Int)==0&&(1:Int)==1&&(bU items.size items.size hi - bU items.size 0 lo)==items.size)=true):=by intro q;rw[Qk,Qk] at q;have q1:((bU items.size 0 lo:Nat):Int)=0:=QI q.1.1;have q2:bU items.size items.size hi - bU items.size 0 lo=items.size:=QI q.2;exact hw ⟨by lia,by lia⟩
 show wpAny _ _ (if (((bU items.size 0 lo:Nat):Int)==0&&(1:Int)==1&&(bU items.size items.size hi - bU items.size 0 lo)==items.size)=true then _ else _) _ _ s;rw[if_neg ON,yT]
 first
  | exact Qg (m:=Builtin.Tuple.tupleExact _) (wpAny_newObj_type (Qj ⟨_,rfl,Qj h⟩) t9)
  | exact Qg (m:=Builtin.Tuple.tupleExact _) (wpAny_newObj_type (Qg (Qj (Qj ⟨_,rfl,Qj h⟩))) t9)
  | exact Qg (Qg (m:=Builtin.Tuple.tupleExact _) (wpAny_newObj_type (Qj (Qj ⟨_,rfl,Qj h⟩)) t9))
  | exact Qg (Qg (m:=Builtin.Tuple.tupleExact _) (wpAny_newObj_type (Qj ⟨_,rfl,Qj h⟩) t9))
end
end HT
namespace L2
open PySem PySem.Spec PyProof.Rows
noncomputable abbrev TO:=St->Hp->(Option Int->Hp->Prop)->Prop
noncomputable def PO (X:Cx) (e:Option Expr) (t:TO):Prop:=
 ∀(pins:List (Addr×Obj)) (s:Shared) (σ:St) (H:Hp) (Q:Option Int->Hp->Prop),Inv X pins σ H s->t σ H Q->
  wpAny (model X.prog X.w) X.A (evalPart e X.env) (λu s'=>∃o H',Inv X pins σ H' s'/\IsPart u o/\Q o H') X.xe s
noncomputable def BU:TO:=λ_ H Q=>Q none H
noncomputable def IE (t:TE):TO:=λσ H Q=>t σ H λx H1=>∃i,x= .int i/\Q (some i) H1
section
variable {X:Cx} {e:Expr} {te:TE} {lo hi:Option Expr} {tl th:TO} {pos p2:Pos}
theorem uG:PO X none BU:=by intro pins s σ H Q I h;rw[evalPart_none];exact Qj ⟨none,H,I,.none,h⟩
theorem uH (h:PE X e te):PO X (some e) (IE te):=by
 intro pins s σ H Q I hw;rw[evalPart_some];refine bN (h pins s σ H _ I hw) λu s1 ⟨x,H1,I1,r1,q1⟩=>?_
 obtain⟨i,rfl,q⟩:=q1;obtain⟨t,rfl⟩:=r1;exact⟨some i,H1,I1,.int i t,q⟩
noncomputable def FA (X:Cx) (r:V->Option Int->Option Int->Hp->VK->Prop):Prop:=
 ∀(pins:List (Addr×Obj)) (s:Shared) (σ:St) (H:Hp) (x:V) (v vl vu:Value) (lo hi:Option Int) (sl:Addr) (Q:VK),Inv X pins σ H s->RelV x v->s.heap.IsSliceOf sl vl vu .none->IsPart vl lo->IsPart vu hi->r x lo hi H Q->
  ∃T id,typeLookup (.type T) "__getitem__"=pure (some (.builtin id))/\s.TypeIs v T/\wpAny (model X.prog X.w) X.A (getItem v (.ref sl)) (EP X pins σ Q) X.xe s
noncomputable def Pm (r:V->Option Int->Option Int->Hp->VK->Prop) (te:TE) (tl th:TO):TE:=λσ H Q=>te σ H λx H1=>tl σ H1 λl H2=>th σ H2 λu H3=>r x l u H3 Q
theorem qd {r:V->Option Int->Option Int->Hp->VK->Prop} (hr:FA X r) (he:PE X e te) (hl:PO X lo tl) (hu:PO X hi th):PE X (.Subscript e (.Slice lo hi none p2) pos) (Pm r te tl th):=by
 intro pins s σ H Q I h;refine Subscript_ (bN (he pins s σ H _ I h) λv s1 ⟨x,H1,I1,r1,q1⟩=>?_);refine wpAny_Slice (bN (hl pins s1 σ H1 _ I1 q1) λvl s2 ⟨l,H2,I2,pl,q2⟩=>bN (hu pins s2 σ H2 _ I2 q2) λvu s3 ⟨u,H3,I3,pu,q3⟩=>?_);rw[evalPart_none];refine Qj ?_;have I4:Inv X pins σ H3 {s3 with heap:=s3.heap.push {cls:= .type "slice",data:= .fields #[vl,vu,.none]}}:=I3.kept (t':=s3.toks) λb ob q=>Qi _ q
 obtain⟨T,id,hT,ht,hg⟩:=hr pins {s3 with heap:=s3.heap.push {cls:= .type "slice",data:= .fields #[vl,vu,.none]}} σ H3 x v vl vu l u s3.heap.objs.size Q I4 r1 (Heap.IsSliceOf.new ..) pl pu q3;show wpAny (model X.prog X.w) X.A (subscriptTail e (.Slice lo hi none p2) v (.ref s3.heap.objs.size)) (EP X pins σ Q) X.xe {s3 with heap:=s3.heap.push {cls:= .type "slice",data:= .fields #[vl,vu,.none]}};exact tail_any (ops:=[.ref s3.heap.objs.size,v]) ht hT hg (by with_unfolding_all rfl)
noncomputable def lL (xs:List V) (lo hi:Option Int):List V:=(xs.drop (HT.bU xs.length 0 lo)).take (HT.bU xs.length xs.length hi - HT.bU xs.length 0 lo)
theorem jq (xs:List V) (lo hi:Option Int):(lL xs lo hi).length<=xs.length:=by
 unfold lL;rw[List.length_take,List.length_drop]
 lia
noncomputable def L6 (K:PySem.W.Frag):V->Option Int->Option Int->Hp->VK->Prop:=λx lo hi H Q=>∃a xs,x= .ref a/\eL K H a xs/\
 ¬(HT.bU xs.length 0 lo=0/\HT.bU xs.length xs.length hi=xs.length)/\∀p,H p=none->Q (.ref p) (upd H p (.tup (lL xs lo hi)))
theorem E5:FA X (L6 X.K):=by
 intro pins s σ H x v vl vu lo hi sl Q I rx hs pl pu h;obtain⟨a,xs,rfl,hx,hw,q⟩:=h;cases rx;obtain⟨its,r,ht,hz⟩:=I.tuple hx;have hlen:its.toArray.size=xs.length:=by rw[Ql];exact r.length.symm
 refine⟨"tuple",_,PyProof.Rows.slot_tuple_getitem.lookup,ht.typeIs,?_⟩;refine HT.iq ht hs pl pu (by rw[hlen];exact hw) ?_ (by rw[hlen];exact hz);rw[hlen];refine⟨.ref s.heap.objs.size,_,I.laid (t':=s.toks) (o:= .tup (lL xs lo hi)) (λb ob q=>Qi _ q) (Qq _) ?_,rfl,q _ (I.hok.fresh (Qq _))⟩;exact⟨Qw (jq xs lo hi) hz,_,(r.drop (HT.bU xs.length 0 lo)).take (HT.bU xs.length xs.length hi - HT.bU xs.length 0 lo),IsTup.new _ _⟩
noncomputable def HN (K:PySem.W.Frag):R2:=λx y H Q=>∃a b xs ys,x= .ref a/\y= .ref b/\eL K H a xs/\eL K H b ys/\xs≠[]/\xs.length + ys.length<=sizeLine/\
 (ys=[]->Q (.ref a) H)/\(ys≠[]->∀p,H p=none->Q (.ref p) (upd H p (.tup (xs++ys))))
theorem ax.nY {xs:List V} {us:List Value} (r:ax xs us):us=[]↔xs=[]:=by
 cases r with
 | nil=>simp
 | cons _ _=>simp
theorem jW:lF X (binaryOp .Add) (HN X.K):=by intro pins s σ H x y v u Q I rx ry h;obtain⟨a,b,xs,ys,rfl,rfl,ha,hb,hx,hz,q1,q2⟩:=h;cases rx;cases ry;obtain⟨its,r1,p1,_⟩:=I.tuple ha;obtain⟨aM,r2,p2,_⟩:=I.tuple hb;refine HT.AA p1 p2 (λz=>hx (r1.nY.mp z)) (λz=>⟨.ref a,H,I,rfl,q1 (r2.nY.mp z)⟩) (λz=>?_) (by rw[<-r1.length,<-r2.length];exact hz);refine⟨.ref s.heap.objs.size,_,I.laid (t':=s.toks) (o:= .tup (xs++ys)) (λb ob q=>Qi _ q) (Qq _) ?_,rfl,q2 (λw=>z (r2.nY.mpr w)) _ (I.hok.fresh (Qq _))⟩;exact⟨by rw[QB];exact hz,_,r1.append r2,IsTup.new _ _⟩
end
end L2
namespace L2
open PySem PySem.Spec PyProof.Rows
noncomputable def mG (n:Nat) (i:Int):Option Nat:=if 0<=i then(if i < n then some i.toNat else none) else if -(n:Int)<=i then some (i + n).toNat else none
noncomputable def jE {α:Type} (xs:List α) (i:Int):Option α:=(mG xs.length i).bind λj=>xs[j]?
theorem uc {n:Nat} {i:Int} {j:Nat} (h:mG n i=some j):seqIndex? i n=some j/\j < n/\ -(n:Int)<=i/\i < n:=by
 unfold mG at h;by_cases h0:0<=i
 ·rw[if_pos h0] at h;by_cases h1:i < n
  ·rw[if_pos h1] at h;have e:i.toNat=j:=Option.some.inj h;exact⟨by rw[seqIndex_of h0 h1,e],by lia,by lia,h1⟩
  ·rw[if_neg h1] at h;cases h
 ·rw[if_neg h0] at h;by_cases h1: -(n:Int)<=i
  ·rw[if_pos h1] at h;have e:(i + n).toNat=j:=Option.some.inj h;exact⟨by rw[seqIndex_neg (by lia) h1,e],by lia,h1,by lia⟩
  ·rw[if_neg h1] at h;cases h
theorem nh {α:Type} {xs:List α} {i:Int} {v:α} (h:jE xs i=some v):∃j,seqIndex? i xs.length=some j/\xs[j]?=some v/\j < xs.length/\ -(xs.length:Int)<=i/\i < xs.length:=by
 unfold jE at h;cases e:mG xs.length i with
 | none=>rw[e] at h;cases h
 | some j=>rw[e] at h;obtain⟨h1,h2,h3,h4⟩:=uc e;exact⟨j,h1,h,h2,h3,h4⟩
theorem eN {α:Type} {xs:List α} {j:Nat} {v:α} (h:xs[j]?=some v):jE xs (j:Int)=some v:=by
 have hj:j < xs.length:=(Qn.mp h).1;have e:mG xs.length (j:Int)=some j:=by unfold mG;rw[if_pos (by lia),if_pos (by lia)];simp
 unfold jE;rw[e];exact h
theorem pe {α:Type} (xs:List α) (v:α):jE (xs++[v]) (-1)=some v:=by
 have hl:(xs++[v]).length=xs.length + 1:=by simp
 have e:mG (xs++[v]).length (-1)=some xs.length:=by
  unfold mG;rw[hl,if_neg (by decide),if_pos (by lia)];congr 1
  lia
 unfold jE;rw[e];show (xs++[v])[xs.length]?=some v;simp
noncomputable def nc (b:Expr):Prop:=∀o i,subscripted b false o i=operate [o,i] (getItem o i)
noncomputable def FV (X:Cx) (r:R2):Prop:=
 ∀(value slice:Expr) (pins:List (Addr×Obj)) (s:Shared) (σ:St) (H:Hp) (x y:V) (v u:Value) (Q:VK),Inv X pins σ H s->RelV x v->RelV y u->r x y H Q->
  subscripted slice false v u=operate [v,u] (getItem v u)->wpAny (model X.prog X.w) X.A (subscriptTail value slice v u) (EP X pins σ Q) X.xe s
noncomputable def ME (X:Cx) (id:String) (r:V->List V->Hp->VK->Prop):Prop:=
 ∀(pins:List (Addr×Obj)) (s:Shared) (σ:St) (H:Hp) (x:V) (xs:List V) (v:Value) (us:List Value) (Q:VK),Inv X pins σ H s->RelV x v->ax xs us->r x xs H Q->
  wpAny (model X.prog X.w) X.A (call (.builtin id) (v::us)) (EP X pins σ Q) X.xe s
section
variable {X:Cx} {a b:Expr} {ta tb:TE} {pos:Pos}
theorem HG {r:R2} (hr:FV X r) (ha:PE X a ta) (hb:PE X b tb) (hs:nc b):PE X (.Subscript a b pos) (JL r ta tb):=by intro pins s σ H Q I h;exact Subscript_ (C6 ha hb I h λv u s2 x y H2 I2 rx ry q=>hr a b pins s2 σ H2 x y v u Q I2 rx ry q (hs _ _))
noncomputable def LZ (K:PySem.W.Frag):R2:=λx y H Q=>∃p xs i v,x= .ref p/\y= .int i/\dY K H p xs/\jE xs i=some v/\Q v H
noncomputable def L1 (K:PySem.W.Frag):R2:=λx y H Q=>∃p xs i v,x= .ref p/\y= .int i/\eL K H p xs/\jE xs i=some v/\Q v H
noncomputable def L0:R2:=λx y H Q=>∃z i c,x= .str z/\y= .int i/\z.length<=sizeLine/\jE z.cps.toList i=some c/\Q (.str ⟨#[c]⟩) H
theorem ue:FV X (LZ X.K):=by
 intro value slice pins s σ H x y v u Q I rx ry h hs;obtain⟨p,xs,i,z,rfl,rfl,hq,he,q⟩:=h;cases rx;obtain⟨t,rfl⟩:=ry;obtain⟨its,r,pl,hz⟩:=I.list hq;obtain⟨j,h1,h2,h3,h4,h5⟩:=nh he;obtain⟨w,ew,Mc⟩:=r.get h2;have hl:=r.length;have hn:=ja;have fin:EP X pins σ Q w s:=⟨z,H,I,Mc,q⟩;by_cases h0:0<=i
 ·have hj:i.toNat=j:=by rw[seqIndex_of h0 h5] at h1;exact Option.some.inj h1
  exact item_listR pl.isList h0 (by lia) (by rw[hj];simpa using ew) fin hs
 ·have hj:(i + (its.toArray.size:Int)).toNat=j:=by rw[seqIndex_neg (by lia) h4] at h1;rw[Ql,<-hl];exact Option.some.inj h1
  exact subscriptTail_builtinR (x:=w) pl.isList.typeIs slot_list_getitem.lookup
   (wpAny_getItem_list_neg (Q:=λr s'=>r=w/\EP X pins σ Q r s') pl.isList (by lia) (by rw[Ql] <;> lia) (by lia) (by rw[hj];simpa using ew) ⟨rfl,fin⟩) hs
theorem DQ:FV X (L1 X.K):=by
 intro value slice pins s σ H x y v u Q I rx ry h hs;obtain⟨p,xs,i,z,rfl,rfl,hq,he,q⟩:=h;cases rx;obtain⟨t,rfl⟩:=ry;obtain⟨its,r,pl,hz⟩:=I.tuple hq;obtain⟨j,h1,h2,h3,h4,h5⟩:=nh he;obtain⟨w,ew,Mc⟩:=r.get h2;have hl:=r.length;have hn:=ja;have fin:EP X pins σ Q w s:=⟨z,H,I,Mc,q⟩;exact subscriptTail_builtinR (x:=w) pl.typeIs slot_tuple_getitem.lookup
  (getItem_tuple (j:=j) (Q:=λr s'=>r=w/\EP X pins σ Q r s') pl (by lia) (by lia) (by rw[Ql,<-hl];exact h1) (by simpa using ew) ⟨rfl,fin⟩) hs
theorem DP:FV X L0:=by
 intro value slice pins s σ H x y v u Q I rx ry h hs;obtain⟨z,i,c,rfl,rfl,hz,he,q⟩:=h;obtain⟨t,rfl⟩:=rx;obtain⟨t',rfl⟩:=ry;obtain⟨j,h1,h2,h3,h4,h5⟩:=nh he;have hl:z.cps.toList.length=z.length:=by simp[Str.length]
 rw[hl] at h1 h4 h5;have hn:=ja;exact tail_any (typeIs_str s z t) slot_str_getitem.lookup (getItem_str (c:=c) (by
  have e1:decide (i < -(2 ^ 63:Int))=false:=QK (by lia);have e2:decide (i>=2 ^ 63)=false:=QK (by lia);rw[e1,e2,Bool.or_false]) (by rw[h1];simpa using h2) ⟨.str ⟨#[c]⟩,H,I.tok _,⟨_,rfl⟩,q⟩) hs
theorem se (its:List Value) (n j:Nat) (u:Value):Obj.mapSeq (·.setIfInBounds j u) {cls:= .type "list",data:= .seq its.toArray n}={cls:= .type "list",data:= .seq (its.set j u).toArray n}:=by simp[Obj.mapSeq]
theorem Inv.lst {pins:List (Addr×Obj)} {σ:St} {H:Hp} {s:Shared} {p:Addr} {xs:List V} (I:Inv X pins σ H s) (h:H p=some (.lst xs)):
  ∃(its:List Value) (n:Nat),ax xs its/\s.heap.get? p=some {cls:= .type "list",data:= .seq its.toArray n}/\xs.length<=sizeLine:=by
 obtain⟨z,its,n,r,e⟩:=I.hok p _ h;exact⟨its,n,r,e,z⟩
theorem Inv.DZ {pins:List (Addr×Obj)} {σ:St} {H:Hp} {s:Shared} {p:Addr} {xs ys:List V} {its its':List Value} {n n':Nat} {f:Obj->Obj} (I:Inv X pins σ H s) (h:H p=some (.lst xs))
  (ho:s.heap.get? p=some {cls:= .type "list",data:= .seq its.toArray n}) (hf:f {cls:= .type "list",data:= .seq its.toArray n}={cls:= .type "list",data:= .seq its'.toArray n'}) (r:ax ys its') (hz:ys.length<=sizeLine) (t:Nat):
  Inv X pins σ (upd H p (.lst ys)) {s with heap:=s.heap.update p f,toks:=t}:=by
 have e:(s.heap.update p f).get? p=some {cls:= .type "list",data:= .seq its'.toArray n'}:=by rw[Heap.get?_update_self f ho (by rw[hf] <;> rfl),hf]
 refine I.write (x:=p) (e:=p) (by rw[h];trivial) (.inl rfl) (λb u hb q=>(QN _ _ (Ne.symm hb)).trans q) ⟨_,e⟩ ?_;exact⟨hz,its',n',r,e⟩
noncomputable def CF:V->V->V->Hp->(Hp->Prop)->Prop:=λo i v H Q=>∃p xs k j,o= .ref p/\i= .int k/\H p=some (.lst xs)/\mG xs.length k=some j/\Q (upd H p (.lst (xs.set j v)))
theorem set_list:FZ X CF:=by
 intro pins s σ H o i v ov iv u Q I ro ri rv h;obtain⟨p,xs,k,j,rfl,rfl,hp,hj,q⟩:=h;cases ro;obtain⟨t,rfl⟩:=ri;obtain⟨its,n,r,ho,hz⟩:=I.lst hp;obtain⟨h1,h2,h3,h4⟩:=uc hj;have hl:=r.length;have hn:=ja;have I':Inv X pins σ (upd H p (.lst (xs.set j v))) {s with heap:=s.heap.update p (Obj.mapSeq (·.setIfInBounds j u))}:=
  I.DZ hp ho (se its n j u) (r.set rv j) (by rw[List.length_set];exact hz) s.toks
 by_cases h0:0<=k
 ·have hk:k.toNat=j:=by rw[seqIndex_of h0 h4] at h1;exact Option.some.inj h1
  exact PySem.W.ki_setAt ho h0 (by lia) (by rw[Ql,<-hl];exact h4) (by rw[hk];exact⟨_,I',q⟩)
 ·have hk:(k + (its.toArray.size:Int)).toNat=j:=by rw[seqIndex_neg (by lia) h3] at h1;rw[Ql,<-hl];exact Option.some.inj h1
  exact PySem.W.ki_setBack ho (by lia) (by rw[Ql,<-hl];exact h3) (by lia) (by rw[hk];exact⟨_,I',q⟩)
theorem ox (lo hi:Option Int) (n:Nat):(sliceBounds lo hi none n).1=((HT.bU n 0 lo:Nat):Int)/\(sliceBounds lo hi none n).2.1=((HT.bU n n hi:Nat):Int)/\(sliceBounds lo hi none n).2.2=1:=by
 refine⟨?_,?_,rfl⟩
 ·cases lo with
  | none=>simp[sliceBounds,HT.bU]
  | some i=>
   simp only[sliceBounds,HT.bU,Option.getD_none,show (1:Int) > 0 by decide,if_true];by_cases h:i < 0
   ·simp only[h,if_true] <;> lia
   ·simp only[h,if_false] <;> lia
 ·cases hi with
  | none=>simp[sliceBounds,HT.bU]
  | some i=>
   simp only[sliceBounds,HT.bU,Option.getD_none,show (1:Int) > 0 by decide,if_true];by_cases h:i < 0
   ·simp only[h,if_true] <;> lia
   ·simp only[h,if_false] <;> lia
theorem lS (its:List Value) (lo hi:Option Int):slicePick its.toArray lo hi none=((its.drop (HT.bU its.length 0 lo)).take (HT.bU its.length its.length hi - HT.bU its.length 0 lo)).toArray:=by obtain⟨h1,h2,h3⟩:=ox lo hi its.toArray.size;unfold slicePick;rw[h1,h2,h3];simp only[sliceRange_one,pick_run,Ql] <;> rfl
noncomputable def L4 (K:PySem.W.Frag):V->Option Int->Option Int->Hp->VK->Prop:=λx lo hi H Q=>∃a xs,x= .ref a/\dY K H a xs/\∀p,H p=none->Q (.ref p) (upd H p (.lst (lL xs lo hi)))
theorem uQ:FA X (L4 X.K):=by intro pins s σ H x v vl vu lo hi sl Q I rx hs pl pu h;obtain⟨a,xs,rfl,hx,q⟩:=h;cases rx;obtain⟨its,r,ht,hz⟩:=I.list hx;have hlen:=r.length;refine⟨"list",_,slot_list_getitem.lookup,ht.isList.typeIs,?_⟩;refine wpAny_getItem_list_slice ht.isList hs pl pu .none (by simp) ?_ (by rw[Ql] <;> lia);rw[lS,<-hlen];refine⟨.ref s.heap.objs.size,_,I.laid (t':=s.toks) (o:= .lst (lL xs lo hi)) (λb ob q=>Qi _ q) (Qq _) ?_,rfl,q _ (I.hok.fresh (Qq _))⟩;exact⟨Qw (jq xs lo hi) hz,_,0,(r.drop (HT.bU xs.length 0 lo)).take (HT.bU xs.length xs.length hi - HT.bU xs.length 0 lo),Qs _ rfl⟩
theorem eO:gi X (.type "list") (λxs H Q=>∃p ys,xs=[.ref p]/\(dY X.K H p ys\/eL X.K H p ys)/\∀l,H l=none->Q (.ref l) (upd H l (.lst ys))):=by
 intro pins s σ H xs us Q I r h;obtain⟨p,ys,rfl,hq,q⟩:=h;obtain⟨u,rfl,rx⟩:=vals1 r;cases rx;have fin:∀(its:List Value),ax ys its->ys.length<=sizeLine->∀(h':Heap) (c':Nat),(∀b o',s.heap.get? b=some o'->h'.get? b=some o')->
   h'.get? s.heap.objs.size=some {cls:= .type "list",dict:=none,data:= .seq its.toArray c',slots:=#[]}->EP X pins σ Q (.ref s.heap.objs.size) {s with heap:=h'}:=λits r' hz h' c' kp e=>
  ⟨.ref s.heap.objs.size,_,I.laid (t':=s.toks) kp (Qq _) (show bV X.prog X.w _ h' _ (.lst ys) from⟨hz,its,c',r',e⟩),rfl,q _ (I.hok.fresh (Qq _))⟩
 rcases hq with hq | hq
 ·obtain⟨its,r',pl,hz⟩:=I.list hq;have hlen:=r'.length;obtain⟨o,ho,hc,n,hd⟩:=pl.isList;exact call_list_seq p (.inl rfl) ho hc hd (λh' c' kp e=>fin its r' hz h' c' kp e) (by simp only[Ql] <;> lia)
 ·obtain⟨its,r',pl,hz⟩:=I.tuple hq;have hlen:=r'.length;obtain⟨o,ho,hc,n,hd⟩:=pl;exact call_list_seq p (.inr rfl) ho hc hd (λh' c' kp e=>fin its r' hz h' c' kp e) (by simp only[Ql] <;> lia)
theorem gj:gi X (.type "tuple") (λxs H Q=>∃p ys,xs=[.ref p]/\((dY X.K H p ys/\∀l,H l=none->Q (.ref l) (upd H l (.tup ys)))\/(eL X.K H p ys/\Q (.ref p) H))):=by
 intro pins s σ H xs us Q I r h;obtain⟨p,ys,rfl,h⟩:=h;obtain⟨u,rfl,rx⟩:=vals1 r;cases rx;rcases h with ⟨hq,q⟩ | ⟨hq,q⟩
 ·obtain⟨its,r',pl,hz⟩:=I.list hq;have hlen:=r'.length;refine call_tuple_list pl.isList (λh' kp=>?_) (by simp only[Ql] <;> lia);have I1:Inv X pins σ H {s with heap:=h'}:=I.kept (t':=s.toks) kp;have I2:Inv X pins σ (upd H h'.objs.size (.tup ys)) {s with heap:=h'.push {cls:= .type "tuple",data:= .seq its.toArray}}:=
   I1.laid (t':=s.toks) (λb o e=>Qi _ e) (Qq _) (show bV X.prog X.w _ _ _ (.tup ys) from⟨hz,its,r',IsTup.new _ _⟩)
  exact⟨.ref h'.objs.size,_,I2,rfl,q _ (I1.hok.fresh (Qq _))⟩
 ·obtain⟨its,r',pl,hz⟩:=I.tuple hq;exact call_tuple_same pl ⟨.ref p,H,I,rfl,q⟩
noncomputable def MA (K:PySem.W.Frag) (T:String) (x:V) (H:Hp):Prop:=match x with
 | .str _=>T="str"
 | .int _=>T="int"
 | .ref p=>(T="list"/\∃xs,dY K H p xs)\/(T="tuple"/\∃o,K.lookup p=some o/\o.cls= .type "tuple"/\o.dict=none)\/
   (T="dict"/\((∃e9,H p=some (.dK e9))\/∃e9,H p=some (.dT e9)))\/(T="set"/\∃S n,H p=some (.set S n))
 | _=>False
theorem zw {pins:List (Addr×Obj)} {σ:St} {H:Hp} {s:Shared} {T:String} {x:V} {v:Value} (I:Inv X pins σ H s) (r:RelV x v) (ty:MA X.K T x H):
  s.TypeIs v T/\∀a,v= .ref a->∃ob,s.heap.get? a=some ob/\ob.dict=none:=by
 cases x with
 | str z=>obtain⟨t,rfl⟩:=r;cases (show T="str" from ty);exact⟨typeIs_str s z t,λ_ e=>nomatch e⟩
 | int i=>obtain⟨t,rfl⟩:=r;cases (show T="int" from ty);exact⟨typeIs_int s i t,λ_ e=>nomatch e⟩
 | ref p=>
  cases r;rcases ty with ⟨rfl,xs,hq⟩ | ⟨rfl,o,hk,hc,hd⟩ | ⟨rfl,hk⟩ | ⟨rfl,S,n,hk⟩
  ·obtain⟨its,_,pl,_⟩:=I.list hq;refine⟨pl.isList.typeIs,λa e=>?_⟩;cases e;obtain⟨o,n,e,c,hd,_⟩:=pl;exact⟨o,e,hd⟩
  ·refine⟨⟨o,I.pR p o hk,hc⟩,λa e=>?_⟩;cases e;exact⟨o,I.pR _ o hk,hd⟩
  ·have z:∃o,s.heap.get? p=some o/\o.ExactDict:=by
    rcases hk with ⟨e9,hk⟩ | ⟨e9,hk⟩
    ·obtain⟨_,_,_,_,o,_,_,e,ex,_⟩:=I.hok p _ hk;exact⟨o,e,ex⟩
    ·obtain⟨_,_,_,_,o,_,_,e,ex,_⟩:=I.hok p _ hk;exact⟨o,e,ex⟩
   obtain⟨o,e,ex⟩:=z;refine⟨⟨o,e,ex.1⟩,λa e2=>?_⟩;cases e2;exact⟨o,e,ex.2.1⟩
  ·obtain⟨o,_,_,_,e,ex,_⟩:=I.hok p _ hk;refine⟨⟨o,e,ex.1⟩,λa e2=>?_⟩;cases e2;exact⟨o,e,ex.2.1⟩
 | _=>exact False.elim ty
noncomputable def Iw (K:PySem.W.Frag) (T:String) (r:V->List V->Hp->VK->Prop) (to:TE):TE:=λσ H Q=>to σ H λx H1=>MA K T x H1/\r x [] H1 Q
noncomputable def Mn (K:PySem.W.Frag) (T:String) (r:V->List V->Hp->VK->Prop) (to:TE) (t:TA):TE:=λσ H Q=>to σ H λx H1=>MA K T x H1/\t σ H1 λxs H2=>r x xs H2 Q
variable {o e:Expr} {es:List Expr} {to:TE} {t:TA} {name:Str} {apos fA:Pos} {T id:String} {r:V->List V->Hp->VK->Prop}
theorem En (pa:PlainAttrs T) (slot:Slot T name id) (Ln:typeOf (.builtin id)=pure (.type "method_descriptor")) (hm:ME X id r) (ho:PE X o to)
  (xY:attributeBase o name X.env (eval o X.env)=eval o X.env:=by rfl) (yk:(apos.endLine==fA.line)=true:=by rfl):PE X (.Call (.Attribute o name apos) [] [] fA) (Iw X.K T r to):=by
 intro pins s σ H Q I h;refine wpAny_Call_method0_late xY yk (bN (ho pins s σ H _ I h) λv s1 ⟨x,H1,I1,r1,ty,q1⟩=>?_);obtain⟨h1,h2⟩:=zw I1 r1 ty;exact⟨T,id,pa,slot,Ln,h1,h2,Calls.callWith_builtin rfl (PySem.evalArgs_none (hm pins s1 σ H1 x [] v [] Q I1 r1 .nil q1))⟩
theorem CB (pa:PlainAttrs T) (slot:Slot T name id) (Ln:typeOf (.builtin id)=pure (.type "method_descriptor")) (hm:ME X id r) (ho:PE X o to) (ha:PA X (e::es) t)
  (xY:attributeBase o name X.env (eval o X.env)=eval o X.env:=by rfl)
  (K3:((backTo fA (starEach (e::es) X.env)).all (λx=> !x.1)&&(backToKw fA (keywordEach [] X.env)).all (λx=>x.1.isSome)
   &&decide ((e::es).length + ([]:List Keyword).length + (if ([]:List Keyword).isEmpty then 0 else 1) < 30))=true:=by rfl)
  (yk:(apos.endLine==fA.line)=true:=by rfl) (hs:starEach (e::es) X.env=(false,eval e X.env)::starEach es X.env:=by rfl) (DI:(backTo fA (starEach es X.env)).any (·.1)=false:=by rfl):
  PE X (.Call (.Attribute o name apos) (e::es) [] fA) (Mn X.K T r to t):=by
 intro pins s σ H Q I h;refine wpAny_Call_method_late xY K3 yk rfl (bN (ho pins s σ H _ I h) λv s1 ⟨x,H1,I1,r1,ty,q1⟩=>?_);obtain⟨h1,h2⟩:=zw I1 r1 ty;refine⟨T,id,pa,slot,Ln,h1,h2,?_⟩;have hA:=ha fA pins s1 σ H1 _ I1 q1;rw[hs] at hA ⊢;refine Calls.callWith_builtin (by show (false||(backTo fA (starEach es X.env)).any (·.1))=false;rw[DI] <;> rfl) (Calls.evalArgs_plain ?_);exact bN hA λus s2 ⟨vs,H2,I2,r2,q2⟩=>hm pins s2 σ H2 x vs v us Q I2 r1 r2 q2
end
end L2
namespace L2
open PySem PySem.Spec PyProof.Rows
noncomputable def Ja (X:Cx) (id:String) (r:V->List V->Hp->VK->Prop):Prop:=
 ∀(pins:List (Addr×Obj)) (s:Shared) (σ:St) (H:Hp) (x:V) (xs:List V) (v:Value) (us:List Value) (Q:VK),Inv X pins σ H s->RelV x v->ax xs us->r x xs H Q->
  wpAny (model X.prog X.w) X.A (call (.builtin id) (v::us)) (EP X pins σ Q) X.xe s
theorem ax.cons_inv {x:V} {xs:List V} {us:List Value} (h:ax (x::xs) us):∃u ut,us=u::ut/\RelV x u/\ax xs ut:=by
 cases h with
 | cons r t=>exact⟨_,_,rfl,r,t⟩
theorem ax.one {x:V} {us:List Value} (h:ax [x] us):∃u,us=[u]/\RelV x u:=
 have ⟨u,ut,e,r,t⟩:=h.cons_inv
 ⟨u,by cases t;exact e,r⟩
theorem ax.two {x y:V} {us:List Value} (h:ax [x,y] us):∃u v,us=[u,v]/\RelV x u/\RelV y v:=
 have ⟨u,ut,e,r,t⟩:=h.cons_inv;have ⟨v,e2,q⟩:=t.one
 ⟨u,v,e2▸e,r,q⟩
theorem ax.zero:∀{us:List Value},ax [] us->us=[]
 | _,.nil=>rfl
theorem ax.dropLast {xs:List V} {us:List Value} (h:ax xs us):ax xs.dropLast us.dropLast:=by
 induction h with
 | nil=>exact .nil
 | cons r t ih=>
  cases t with
  | nil=>exact .nil
  | cons q t'=>exact .cons r ih
theorem rm {α:Type} (l:List α):l.eraseIdx (l.length - 1)=l.dropLast:=by
 induction l with
 | nil=>rfl
 | cons a r ih=>
  cases r with
  | nil=>rfl
  | cons b r=>
   have e:(a::b::r).length - 1=((b::r).length - 1) + 1:=by
    have h1:(a::b::r).length=r.length + 2:=rfl;have h2:(b::r).length=r.length + 1:=rfl
    lia
   rw[e,List.eraseIdx_cons_succ,ih]
   all_goals rfl
section
variable {X:Cx} {pins:List (Addr×Obj)} {σ:St} {H:Hp} {s:Shared} {l b:Addr} {xs ys zs:List V}
theorem Inv.Bf {its its':List Value} {n:Nat} {f:Array Value->Array Value} {t':Nat} (I:Inv X pins σ H s) (hH:H l=some (.lst xs))
  (e:s.heap.get? l=some {cls:= .type "list",data:= .seq its.toArray n}) (hf:f its.toArray=its'.toArray) (hv:ax ys its') (hz:ys.length<=sizeLine):
  Inv X pins σ (upd H l (.lst ys)) {s with heap:=s.heap.update l (Obj.mapSeq f),toks:=t'}:=by
 have q:=PySem.IsL.update e f;rw[hf] at q;refine I.write (x:=l) (e:=l) (by rw[hH];exact trivial) (.inl rfl) (λb' u hb hu=>(QN s.heap (Obj.mapSeq f) (Ne.symm hb)).trans hu) ⟨_,q⟩ ?_;exact⟨hz,its',_,hv,q⟩
theorem Inv.Hk {its:List Value} {t':Nat} (I:Inv X pins σ H s) (hv:ax ys its) (hz:ys.length<=sizeLine):
  Inv X pins σ (upd H s.heap.objs.size (.lst ys)) {s with heap:=s.heap.push {cls:= .type "list",data:= .seq its.toArray},toks:=t'}:=
 I.laid (λ_ _ q=>Qi _ q) (Qq _) ⟨hz,its,0,hv,Qs _ rfl⟩
theorem Inv.fresh (I:Inv X pins σ H s):H s.heap.objs.size=none:=I.hok.fresh (Qq _)
theorem Inv.rZ (I:Inv X pins σ H s) (hH:H l=some (.lst xs)):xs.length<=sizeLine/\∃(its:List Value) (n:Nat),ax xs its/\xs.length=its.length/\s.heap.get? l=some {cls:= .type "list",data:= .seq its.toArray n}:=by obtain⟨z,its,n,r,e⟩:=I.hok l _ hH;exact⟨z,its,n,r,r.length,e⟩
theorem yI {n:Nat} (h:n<=sizeLine):Builtin.List.listTooLong n=false:=by unfold Builtin.List.listTooLong;exact QK (by lia)
end
section
variable {X:Cx}
noncomputable def uL:V->List V->Hp->VK->Prop:=λx vs H Q=>∃l xs y,x= .ref l/\vs=[y]/\H l=some (.lst xs)/\xs.length < sizeLine/\Q .bq (upd H l (.lst (xs++[y])))
theorem mM:Ja X "list.append" uL:=by
 intro pins s σ H x vs v us Q I rx rv h;obtain⟨l,xs,y,rfl,rfl,hH,hz,q⟩:=h;cases rx;obtain⟨u,rfl,ru⟩:=rv.one;obtain⟨z,its,n,r,hl,e⟩:=I.rZ hH;refine call_meets F.slot_list_append ⟨_,e,rfl⟩ F.entry_list_append (F.args_list_append_2 _ _) (PySem.list_append l its.toArray n u (by rw[Ql];lia)) ⟨e,?_⟩;refine⟨.bq,_,I.Bf (its':=its++[u]) hH e (by simp) (r.append (.cons ru .nil)) ?_,rfl,q⟩;rw[QB,List.length_singleton]
 lia
noncomputable def uM:V->List V->Hp->VK->Prop:=λx vs H Q=>∃l b xs zs,x= .ref l/\vs=[.ref b]/\H l=some (.lst xs)/\H b=some (.lst zs)/\xs.length + zs.length<=sizeLine/\Q .bq (upd H l (.lst (xs++zs)))
theorem vO:Ja X "list.extend" uM:=by
 intro pins s σ H x vs v us Q I rx rv h;obtain⟨l,b,xs,zs,rfl,rfl,hH,hB,hz,q⟩:=h;cases rx;obtain⟨u,rfl,ru⟩:=rv.one;cases ru;obtain⟨z,its,n,r,hl,e⟩:=I.rZ hH;obtain⟨z2,aM,n2,r2,dh,e2⟩:=I.rZ hB;have iy:its.toArray.size + aM.toArray.size<=sizeLine:=by rw[Ql,Ql];lia
 have GT:¬(!its.toArray.isEmpty&&Builtin.List.listTooLong (its.toArray.size + aM.toArray.size))=true:=by rw[yI iy,Bool.and_false];exact Bool.false_ne_true
 refine call_meets F.slot_list_extend ⟨_,e,rfl⟩ F.entry_list_extend (F.args_list_extend_2 _ _)
  (AutoSeq1.list_extend_list_list_0 l its.toArray n b aM.toArray n2 GT (by rw[Ql];lia) (by lia)) ⟨e,e2,?_⟩
 refine⟨.bq,_,I.Bf (its':=its++aM) hH e (by simp) (r.append r2) ?_,rfl,q⟩;rw[QB]
 lia
noncomputable def L3:V->List V->Hp->VK->Prop:=λx vs H Q=>∃l xs y,x= .ref l/\vs=[]/\H l=some (.lst xs)/\xs[xs.length - 1]?=some y/\Q y (upd H l (.lst xs.dropLast))
theorem LL:Ja X "list.pop" L3:=by
 intro pins s σ H x vs v us Q I rx rv h;obtain⟨l,xs,y,rfl,rfl,hH,hy,q⟩:=h;cases rx;have G9:=rv.zero;subst G9;obtain⟨z,its,n,r,hl,e⟩:=I.rZ hH;obtain⟨u,hu,ru⟩:=r.get hy;have Nu:its.toArray[its.toArray.size - 1]?=some u:=by show its.toArray[its.length - 1]?=some u;rw[<-Array.getElem?_toList,<-hl];exact hu
 refine call_meets F.slot_list_pop ⟨_,e,rfl⟩ F.entry_list_pop (F.args_list_pop_1 _) (MeetsSeq.list_pop_last l its.toArray n u Nu (by rw[Ql];lia)) ⟨e,?_⟩;refine⟨y,_,I.Bf (its':=its.dropLast) hH e ?_ r.dropLast ?_,ru,q⟩
 ·show its.toArray.eraseIdxIfInBounds (its.toArray.size - 1)=its.dropLast.toArray;rw[Ql,List.eraseIdxIfInBounds_toArray,rm]
 ·rw[List.length_dropLast]
  lia
noncomputable def y7:V->List V->Hp->VK->Prop:=λx vs H Q=>∃l xs,x= .ref l/\vs=[]/\H l=some (.lst xs)/\Q .bq (upd H l (.lst []))
theorem yF:Ja X "list.clear" y7:=by intro pins s σ H x vs v us Q I rx rv h;obtain⟨l,xs,rfl,rfl,hH,q⟩:=h;cases rx;have G9:=rv.zero;subst G9;obtain⟨z,its,n,r,hl,e⟩:=I.rZ hH;refine call_meets F.slot_list_clear ⟨_,e,rfl⟩ F.entry_list_clear (F.args_list_clear_1 _) (AutoSeq1.list_clear_list_0 l its.toArray n (by rw[Ql];lia)) ⟨e,?_⟩;exact⟨.bq,_,I.Bf (its':=[]) (ys:=[]) hH e rfl .nil (Nat.zero_le _),rfl,q⟩
noncomputable def LX:R2:=λx y H Q=>∃l b xs zs,x= .ref l/\y= .ref b/\H l=some (.lst xs)/\H b=some (.lst zs)/\xs.length + zs.length<=sizeLine/\∀p,H p=none->Q (.ref p) (upd H p (.lst (xs++zs)))
theorem fM:lF X (binaryOp .Add) LX:=by
 intro pins s σ H x y v u Q I rx ry h;obtain⟨l,b,xs,zs,rfl,rfl,hH,hB,hz,q⟩:=h;cases rx;cases ry;obtain⟨z,its,n,r,hl,e⟩:=I.rZ hH;obtain⟨z2,aM,n2,r2,dh,e2⟩:=I.rZ hB;refine PySem.P.add_list e e2 ?_ (by rw[Ql,Ql];lia);have ea:its.toArray++aM.toArray=(its++aM).toArray:=by simp
 rw[ea];exact⟨.ref _,_,I.Hk (t':=s.toks) (r.append r2) (by rw[QB];lia),rfl,q _ I.fresh⟩
end
end L2
namespace Att
open PySem PySem.W PySem.Calls PyProof.Rows
theorem jB {P:Params} {h:Heap}:∀(ns:List Int) (vs:List Value),WellAll P h vs (ns.map WData.int)->IntsAre vs ns:=by
 intro ns
 induction ns with
 | nil=>intro vs w;rw[List.map_nil] at w;cases w;exact .nil
 | cons n ns ih=>
  intro vs w;rw[Q2] at w;cases w with
  | cons a b=>cases a;exact .cons _ _ (ih _ b)
theorem vX {l:OpenLaw} {n:Nat} (hn:l.most=some n) {P:Params} {h:Heap} {args:List WData} {vals:List Value}
  (AZ:l.row.toRowW.claim.pre args=true) (Jy:WellAll P h vals args):
  ∃a vs ns,vals=[Value.ref a]/\args=[WData.list (ns.map WData.int)]/\h.get? a=some {cls:= .type "list",data:= .seq vs.toArray}/\IntsAre vs ns/\ns.length<=n:=by
 have OX:WShape.hasAll [] args [.list .int]=true:=(pre_splitW AZ).1;have hc:l.pre.holds [] {args:=args}=true:=(pre_splitW AZ).2;obtain⟨d,r,rfl,h1,h2⟩:=hasAllW_cons OX;obtain rfl:=hasAllW_nil h2;obtain⟨xs,rfl,h3⟩:=hasW_list h1;obtain⟨ns,rfl⟩:=items_int h3;have hlen:ns.length<=n:=by
  unfold OpenLaw.pre at hc;have h4:(WTm.not (.lt (.lit (.int (n:Int))) (.len (.arg 0)))).holds [] {args:=[.list (ns.map .int)]}=true:=by have h4:=(holds_andW hc).1;rw[hn] at h4;exact h4
  have h5:=condW_of h4 (w_not (w_lt w_lit (w_len_list (w_arg rfl))));rw[Qu] at h5;refine Nat.le_of_not_lt λq=>?_
  have q':(n:Int) < ((ns.length:Nat):Int):=by lia
  first
   | (rw[QO q'] at h5;exact absurd h5 (by decide))
   | (simp at h5;lia)
 cases Jy with
 | cons w1 w2=>
  cases w2;cases w1 with
  | list ho hall=>exact⟨_,_,ns,rfl,rfl,ho,jB ns _ hall,hlen⟩
theorem vT (l:OpenLaw) (args:List WData):l.row.toRowW.claim.post args (.bool true) args=true:=
 postW_of (r:=l.row.toRowW) (X:=(true==true))
  (show WShape.has [] (.bool true) .bool=true by first | rfl | decide | simp[WShape.has,WShape.arms,WShape.armsAll])
  (show (WTm.eq .res (.lit (.bool true))).value [] {args:=args,res:=some (.bool true),after:=args}=some (.bool (true==true)) from w_eq_bool (w_res rfl) w_lit) rfl
theorem pf {l:OpenLaw} {n:Nat} {q:Program} {loose:List Str} {XP:(Str->Option Value)->Heap->Prop} {YP:World->Heap->Prop} {d:DefRec}
  (hn:l.most=some n) (GK:d.params.defaults=[])
  (call:∀(w:World) (s₀ s₁:Shared) (mg mb:Str->Option Value) (fa:Addr) (o:Obj) (pm cd doc:Value) (a:Addr) (vs:List Value) (ns:List Int),
   Ground q loose [] XP w s₀ mg mb s₁.heap->YP w s₁.heap->
   s₁.heap.get? fa=some o->o.data= .func (docDef d.name d.params d.body d.scope pm cd doc)->s₁.heap.CodeRec cd d.name->mg d.name=some (.ref fa)->
   s₁.heap.get? a=some {cls:= .type "list",data:= .seq vs.toArray}->IntsAre vs ns->ns.length<=n->s₁.gens=#[]->
   codeAny (model l.prog w) callerA (.call (.ref fa) ⟨[.ref a],[]⟩) (λr s'=>r= .ok (.ret (.bool true))/\OldK s₁.heap s'.heap/\s'.os=s₁.os/\AllBare s'.gens) s₁):
  WalkO q loose XP YP l.row.toRowW d [] (λf vs=>PySem.call f vs):=by
 intro w s₀ s₁ mg mb G Y fa o pm cd doc dV kV ho hd zX hD hmg hg args vals as AZ hlay hrd Jy nO;obtain rfl:dV= .none:=Dflts.none hD GK;obtain rfl:kV= .none:=Dflts.noKw hD;obtain⟨a,vs,ns,rfl,rfl,DC,hints,hlen⟩:=vX hn AZ Jy;refine enter_call (codeAny_mono (call w s₀ s₁ mg mb fa o pm cd doc a vs ns G Y ho (fd_plain hd) zX hmg DC hints hlen hg) λr s' hq=>?_);obtain⟨rfl,h2,h3,h4⟩:=hq;exact⟨.inl ⟨.bool true,.bool true,[],rfl,λ_=>rfl,.bool true,vT l _,λ_=>⟨List.Pairwise.nil,λ_ hm=>(nomatch hm)⟩⟩,h2,h3,h4⟩
end Att
namespace L2
open PySem PySem.Spec PyProof.Rows
theorem mX:∀{vs:List Value} {ns:List Int},IntsAre vs ns->ax (ns.map V.int) vs
 | _,_,.nil=> .nil
 | _,_,.cons n t h=> .cons ⟨t,rfl⟩ (mX h)
noncomputable def CV (H:Hp):Prop:=∀b,H b=none\/∃o xs,H b=some (.tV o (.lst xs))
theorem yA {P:Program} {w:World} {K:PySem.W.Frag} {mg mb:Str->Option Value} {CX:j7} {k:Nat} {fa a:Addr} {fd:FuncData} {x:Str} {sp:Sp} {s₁:Shared} {vs:List Value} {ns:List Int}
  (KX:K.In s₁.heap) (FJ:s₁.heap.Ns mainGlobals mg) (hb:s₁.heap.Ns builtinsNs mb) (pI:∀x:Str,x≠"__name__"->mb x=bootBuiltins x) (cW:s₁.heap.NoLimit) (hg:s₁.gens=#[])
  (ha:s₁.heap.get? a=some {cls:= .type "list",data:= .seq vs.toArray}) (hi:IntsAre vs ns) (hl:ns.length<=sizeLine) (hr:gW k callerA)
  (F:∀base:Heap,K.In base->base.Ns mainGlobals mg->iU P w K mg base CX k fa fd [x] sp) (GF:∀(s:Shared) (u:Value),BindsTo s fd ⟨[u],[]⟩ [(x,u)])
  (mD:∀H:Hp,CV H->dY K H a (ns.map V.int)->sp [.ref a] H (λv _=>v= .bl true) λ_ _ _=>False)
  (KB:∀H e s',CX [] H s₁ (λ_ _ _=>False) e s'->False):
  codeAny (model P w) callerA (.call (.ref fa) ⟨[.ref a],[]⟩) (λr s'=>r= .ok (.ret (.bool true))/\OldK s₁.heap s'.heap/\s'.os=s₁.os/\AllBare s'.gens) s₁:=by
 have rv:=mX hi;have LF:=hi.length;have core:∀H:Hp,CV H->dY K H a (ns.map V.int)->eK P w H s₁.heap->(∀b,H b≠none->b=a)->(H a≠none->K.lookup a=none)->
   codeAny (model P w) callerA (.call (.ref fa) ⟨[.ref a],[]⟩) (λr s'=>r= .ok (.ret (.bool true))/\OldK s₁.heap s'.heap/\s'.os=s₁.os/\AllBare s'.gens) s₁:=by
  intro H hO hS hok hA hK;have tF:∀{b:Addr} {o:Obj},s₁.heap.get? b=some o->H b=none->(nN s₁.heap H).get? b=some o:=λe n=>ye e n
  have Ht:∀{b:Addr} {o:Obj} {es:Array DictEntry} {ep:Nat},s₁.heap.get? b=some o->o.data= .dict es ep->H b=none:=λ {b o es ep} e d=>by
   cases q:H b with
   | none=>rfl
   | some u=>have e':b=a:=hA b (by rw[q];simp);subst e';rw[ha] at e;cases e;have d':Data.seq vs.toArray _=Data.dict es ep:=d;cases d'
  have JH:∀{b:Addr} {m:Str->Option Value},s₁.heap.Ns b m->(nN s₁.heap H).Ns b m:=λ {b m} ⟨o,es,ep,e,d,r⟩=>⟨o,es,ep,tF e (Ht e d),d,r⟩
  have MY:K.In (nN s₁.heap H):=λb o e=>tF (KX b o e) (by
   cases q:H b with
   | none=>rfl
   | some u=>
    have e':b=a:=hA b (by rw[q];simp);subst e';rw[hK (by rw[q];simp)] at e;cases e)
  have hM:Mod K mg (nN s₁.heap H):=⟨MY,JH FJ,⟨mb,JH hb,pI⟩,let ⟨mc,h1,h2⟩:=cW;⟨mc,JH h1,h2⟩⟩;have e0:Aj P w K mg (nN s₁.heap H) callerA [] s₁ H:=⟨rfl,hM,λb o e=>Bn e,Nat.le_of_eq (vC _ _),trivial,λb hb=>absurd (show b∈([]:List Addr) from hb) (by simp),hok,.of_eq hg⟩;refine codeAny_mono ((F _ MY (JH FJ)).run callerA [] s₁ H ⟨[.ref a],[]⟩ [.ref a] [.ref a] _ _ hr e0 (GF s₁ (.ref a)) (.cons rfl .nil) (mD H hO hS)) λr s' h=>?_
  cases r with
  | error e=>exact(KB H e s' h).elim
  | ok fl=>
   cases fl with
   | next=>exact False.elim h
   | brk=>exact False.elim h
   | cont=>exact False.elim h
   | ret u=>
    obtain⟨v,H',os,bare,un,AY,r',q⟩:=h;have q':v= .bl true:=q;subst q';obtain rfl:u=Value.bool true:=r';refine⟨rfl,OldK.of_keep λb o e=>?_,os,bare⟩;cases q:H b with
    | none=>exact un.keep b o e q (by intro z;exact absurd (show b∈([]:List Addr) from z) (by simp)) (by simp)
    | some u=>
     rcases hO b with z | ⟨ob,xs,z⟩
     ·rw[q] at z;cases z
     ·have z2:=un.frzs b ob _ z;obtain⟨e1,_⟩:=hok b _ z;obtain⟨e2,_⟩:=AY b _ z2;rw[e] at e1;cases e1;exact e2
 cases hk:K.lookup a with
 | some o=>have e:=KX a o hk;rw[ha] at e;cases e;refine core (λ_=>none) (λ_=> .inl rfl) (.inr ⟨_,vs.toArray,_,hk,rfl,rfl,rfl,by rw[Ql,LF];exact hl,by simpa using rv⟩) (λb u z=>by have z':(none:Option HO)=some u:=z;cases z') (λb z=>absurd rfl z) λz=>absurd rfl z
 | none=>
  refine core (λb=>if b=a then some (.tV {cls:= .type "list",data:= .seq vs.toArray} (.lst (ns.map V.int))) else none) (λb=>?_) (.inl (.inr ⟨{cls:= .type "list",data:= .seq vs.toArray},if_pos rfl⟩)) (λb u z=>?_) (λb z=>?_) λ_=>hk
  ·by_cases hb:b=a
   ·exact .inr ⟨_,_,if_pos hb⟩
   ·exact .inl (if_neg hb)
  ·by_cases hb:b=a
   ·have z':=(if_pos hb).symm.trans z;cases z';subst hb;exact⟨ha,by rw[Qu];exact hl,vs,_,rv,ha⟩
   ·have z':=(if_neg hb).symm.trans z;cases z'
  ·by_cases hb:b=a
   ·exact hb
   ·exact absurd (if_neg hb) z
end L2
namespace L2
open PySem PySem.Spec PyProof.Rows
theorem B0 {l:PySem.W.OpenLaw} {n k:Nat} {q:Program} {loose:List Str} {XP:(Str->Option Value)->Heap->Prop} {YP:World->Heap->Prop} {d:DefRec} {K:Params->PySem.W.Frag} {CX:World->j7} {sp:World->Sp} {x:Str}
  (hn:l.most=some n) (DB:n<=sizeLine) (GK:d.params.defaults=[]) (hr:gW k callerA)
  (hY:∀(w:World) (h:Heap),YP w h->(K w.params).In h)
  (F:∀(w:World) (mg:Str->Option Value) (fa:Addr) (h:Heap),(K w.params).In h->h.Ns mainGlobals mg->mg d.name=some (.ref fa)->
   ∃fd:FuncData,(∀(s:Shared) (u:Value),BindsTo s fd ⟨[u],[]⟩ [(x,u)])/\
    ∀base:Heap,(K w.params).In base->base.Ns mainGlobals mg->iU l.prog w (K w.params) mg base (CX w) k fa fd [x] (sp w))
  (mD:∀(w:World) (H:Hp) (a:Addr) (ns:List Int),ns.length<=n->CV H->dY (K w.params) H a (ns.map V.int)->sp w [.ref a] H (λv _=>v= .bl true) λ_ _ _=>False)
  (KB:∀(w:World) (H:Hp) (s:Shared) (e:Value) (s':Shared),CX w [] H s (λ_ _ _=>False) e s'->False):
  PySem.W.WalkO q loose XP YP l.row.toRowW d [] (λf vs=>PySem.call f vs):=by
 refine Att.pf hn GK λw s₀ s₁ mg mb fa o pm cd doc a vs ns G Y ho hd zX hmg DC hints hlen hg=>?_
 have KX:=hY w _ Y;obtain⟨fd,hb,hF⟩:=F w mg fa _ KX G.T.g hmg;exact yA KX G.T.g G.T.b G.T.builtins G.T.nolimit hg DC hints (Qw hlen DB) hr hF hb (λH hO hS=>mD w H a ns hlen hO hS) λH e s'=>KB w H s₁ e s'
end L2
namespace L2
open PySem PySem.Spec PyProof.Rows
noncomputable def nE (s:Stmt):Arguments:=match s with
 | .FunctionDef _ a _ _ _ _ _ _ _ _=>a
 | _=>{posonlyargs:=[],args:=[],vararg:=none,kwonlyargs:=[],kw_defaults:=[],kwarg:=none,defaults:=[]}
noncomputable def ia (s:Stmt):List Stmt:=match s with
 | .FunctionDef _ _ b _ _ _ _ _ _ _=>b
 | _=>[]
noncomputable def bt (s:Stmt):Scope:=match s with
 | .FunctionDef _ _ _ _ _ _ sc _ _ _=>sc
 | _=>{kind:= .function,names:=[],isGenerator:=false,isCoroutine:=false}
theorem Hf {A B:Prop} (h:B):if false=true then A else B:=by rw[if_neg Bool.false_ne_true];exact h
theorem Hg {A B:Prop} (h:A):if true=true then A else B:=by rw[if_pos rfl];exact h
noncomputable def bE (H H':Hp):Prop:=∀b o,H b=some o->H' b=some o
theorem bE.refl (H:Hp):bE H H:=λ_ _ h=>h
theorem bE.trans {H H1 H2:Hp} (a:bE H H1) (b:bE H1 H2):bE H H2:=λc o h=>b c o (a c o h)
end L2
end
section
namespace Mx
open PySem PyProof.Rows
inductive D where
 | int (i:Int)
 | str (x:Str)
 | tup (ds:List D)
mutual
noncomputable def D.gp:D->D->Bool
 | .int i,.int j=>i==j
 | .str x,.str y=>x==y
 | .tup a,.tup b=>D.eqs a b
 | _,_=>false
noncomputable def D.eqs:List D->List D->Bool
 | [],[]=>true
 | x::xs,y::ys=>D.gp x y&&D.eqs xs ys
 | _,_=>false
end
mutual
noncomputable def D.lt:D->D->Bool
 | .int i,.int j=>decide (i < j)
 | .int _,_=>true
 | .str _,.int _=>false
 | .str x,.str y=>decide (x.cps.toList < y.cps.toList)
 | .str _,.tup _=>true
 | .tup a,.tup b=>D.fw a b
 | .tup _,_=>false
noncomputable def D.fw:List D->List D->Bool
 | [],[]=>false
 | [],_::_=>true
 | _::_,[]=>false
 | x::xs,y::ys=>if D.gp x y=true then D.fw xs ys else D.lt x y
end
mutual
theorem D.c7:∀a b:D,D.gp a b=true↔a=b
 | .int i,.int j=>by simp[D.gp]
 | .str x,.str y=>by simp[D.gp]
 | .tup a,.tup b=>by simp only[D.gp,D.tup.injEq];exact D.tQ a b
 | .int _,.str _=>by simp[D.gp]
 | .int _,.tup _=>by simp[D.gp]
 | .str _,.int _=>by simp[D.gp]
 | .str _,.tup _=>by simp[D.gp]
 | .tup _,.int _=>by simp[D.gp]
 | .tup _,.str _=>by simp[D.gp]
theorem D.tQ:∀a b:List D,D.eqs a b=true↔a=b
 | [],[]=>by simp[D.eqs]
 | [],_::_=>by simp[D.eqs]
 | _::_,[]=>by simp[D.eqs]
 | x::xs,y::ys=>by simp only[D.eqs,Qk,List.cons.injEq];rw[D.c7 x y,D.tQ xs ys]
end
noncomputable instance:DecidableEq D:=λa b=>if h:D.gp a b=true then isTrue ((D.c7 a b).mp h) else isFalse λe=>h ((D.c7 a b).mpr e)
theorem D.ie (a b:D):D.gp a b=decide (a=b):=by rw[Bool.eq_iff_iff,D.c7];simp
theorem D.eB (x y:D) (xs ys:List D):D.fw (x::xs) (y::ys)=if x=y then D.fw xs ys else D.lt x y:=by
 rw[D.fw];by_cases h:x=y
 ·rw[if_pos h,if_pos ((D.c7 x y).mpr h)]
 ·rw[if_neg h,if_neg λe=>h ((D.c7 x y).mp e)]
mutual
theorem D.lt_irrefl:∀a:D,D.lt a a=false
 | .int i=>by simp[D.lt]
 | .str x=>by simp only[D.lt];exact strKind.irrefl _
 | .tup a=>by simp only[D.lt];exact D.kO a
theorem D.kO:∀a:List D,D.fw a a=false
 | []=>by simp[D.fw]
 | x::xs=>by rw[D.eB,if_pos rfl];exact D.kO xs
end
mutual
theorem D.eA:∀a b:D,D.lt a b=false->D.lt b a=false->a=b
 | .int i,.int j,h1,h2=>by simp only[D.lt,decide_eq_false_iff_not] at h1 h2;congr 1;lia
 | .str x,.str y,h1,h2=>by simp only[D.lt] at h1 h2;have:=strKind.total _ _ h1 h2;congr 1;cases x;cases y;simp only at this;congr 1;exact Array.toList_inj.mp this
 | .tup a,.tup b,h1,h2=>by simp only[D.lt] at h1 h2;rw[D.mK a b h1 h2]
 | .int _,.str _,h1,_=>by simp[D.lt] at h1
 | .int _,.tup _,h1,_=>by simp[D.lt] at h1
 | .str _,.int _,_,h2=>by simp[D.lt] at h2
 | .str _,.tup _,h1,_=>by simp[D.lt] at h1
 | .tup _,.int _,_,h2=>by simp[D.lt] at h2
 | .tup _,.str _,_,h2=>by simp[D.lt] at h2
theorem D.mK:∀a b:List D,D.fw a b=false->D.fw b a=false->a=b
 | [],[],_,_=>rfl
 | [],_::_,h1,_=>by simp[D.fw] at h1
 | _::_,[],_,h2=>by simp[D.fw] at h2
 | x::xs,y::ys,h1,h2=>by
  rw[D.eB] at h1 h2;by_cases h:x=y
  ·subst h;rw[if_pos rfl] at h1 h2;rw[D.mK xs ys h1 h2]
  ·rw[if_neg h] at h1;rw[if_neg (Ne.symm h)] at h2;exact absurd (D.eA x y h1 h2) h
end
mutual
theorem D.lt_trans:∀a b c:D,D.lt a b=true->D.lt b c=true->D.lt a c=true
 | .int i,.int j,.int k,h1,h2=>by simp only[D.lt,decide_eq_true_eq] at *;lia
 | .int _,_,.str _,_,_=>by simp[D.lt]
 | .int _,_,.tup _,_,_=>by simp[D.lt]
 | .int _,.str _,.int _,_,h2=>by simp[D.lt] at h2
 | .int _,.tup _,.int _,_,h2=>by simp[D.lt] at h2
 | .str _,.int _,_,h1,_=>by simp[D.lt] at h1
 | .str x,.str y,.str z,h1,h2=>by simp only[D.lt] at *;exact strKind.trans _ _ _ h1 h2
 | .str _,.str _,.int _,_,h2=>by simp[D.lt] at h2
 | .str _,_,.tup _,_,_=>by simp[D.lt]
 | .str _,.tup _,.int _,_,h2=>by simp[D.lt] at h2
 | .str _,.tup _,.str _,_,h2=>by simp[D.lt] at h2
 | .tup _,.int _,_,h1,_=>by simp[D.lt] at h1
 | .tup _,.str _,_,h1,_=>by simp[D.lt] at h1
 | .tup _,.tup _,.int _,_,h2=>by simp[D.lt] at h2
 | .tup _,.tup _,.str _,_,h2=>by simp[D.lt] at h2
 | .tup a,.tup b,.tup c,h1,h2=>by simp only[D.lt] at *;exact D.mL a b c h1 h2
theorem D.mL:∀a b c:List D,D.fw a b=true->D.fw b c=true->D.fw a c=true
 | [],[],_,h1,_=>by simp[D.fw] at h1
 | [],_::_,[],_,h2=>by simp[D.fw] at h2
 | [],_::_,_::_,_,_=>by simp[D.fw]
 | _::_,[],_,h1,_=>by simp[D.fw] at h1
 | _::_,_::_,[],_,h2=>by simp[D.fw] at h2
 | x::xs,y::ys,z::zs,h1,h2=>by
  rw[D.eB] at h1 h2 ⊢;by_cases h:x=y
  ·subst h;rw[if_pos rfl] at h1;by_cases h':x=z
   ·rw[if_pos h'] at h2 ⊢;exact D.mL xs ys zs h1 h2
   ·rw[if_neg h'] at h2 ⊢;exact h2
  ·rw[if_neg h] at h1;by_cases h':y=z
   ·subst h';rw[if_neg h];exact h1
   ·rw[if_neg h'] at h2;have h3:=D.lt_trans x y z h1 h2;by_cases h'':x=z
    ·subst h'';rw[D.lt_irrefl] at h3;cases h3
    ·rw[if_neg h''];exact h3
end
@[reducible] noncomputable def Gi:KeyOrd where
 α:=D
 blt:=D.lt
 irrefl:=D.lt_irrefl
 trans:=D.lt_trans
 negTrans:=λa b c h=>by
  cases h1:D.lt a b with
  | true=>exact .inl rfl
  | false=>
   right;cases h2:D.lt b a with
   | true=>exact D.lt_trans b a c h2 h
   | false=>rw[D.eA a b h1 h2] at h;exact h
 total:=D.eA
end Mx
end
section
namespace MxSort
open PySem PySem.W PyProof.Rows
section
variable {O:KeyOrd} {key:Nat->O.α}
noncomputable def rQ (key:Nat->O.α) (p:Array Nat) (i:Nat):O.α:=key (p.getD i 0)
noncomputable def Up (key:Nat->O.α) (p:Array Nat) (n:Nat):Prop:=∀i j,i<=j->j < n->O.kle (rQ key p i) (rQ key p j)
noncomputable def Dn (key:Nat->O.α) (p:Array Nat) (n:Nat):Prop:=∀i j,i<=j->j < n->O.kle (rQ key p j) (rQ key p i)
theorem tW {p q:Array Nat} {i j:Nat} (h:p[i]?=q[j]?):p.getD i 0=q.getD j 0:=by
 have e1:∀(p:Array Nat) (i:Nat),p.getD i 0=(p[i]?).getD 0:=λp i=>by simp[Array.getD_eq_getD_getElem?]
 rw[e1,e1,h]
theorem uf {p:Array Nat} {i j:Nat} (hj:j<=p.size) (k:Nat):rQ key (kas_rev p i j) k=if i<=k/\k < j then rQ key p (i + j - 1 - k) else rQ key p k:=by
 have e:=getElem?_mirror_all (i:=i) hj k;unfold kas_rev rQ;by_cases h1:i<=k/\k < j
 ·rw[if_pos h1] at e ⊢;exact congrArg key (tW e)
 ·rw[if_neg h1] at e ⊢;exact congrArg key (tW e)
noncomputable def Ord (N:Nat) (p:Array Nat):Prop:=p.toList.Perm (List.range N)
theorem Ord.size {N:Nat} {p:Array Nat} (h:Ord N p):p.size=N:=by have:=h.length_eq;rw[List.length_range] at this;rw[<-this];simp
variable {cmp:Nat->Nat->(Bool->Shared->Prop)->Shared->Prop} {s:Shared} {N:Nat}
noncomputable def Tells (O:KeyOrd) (key:Nat->O.α) (cmp:Nat->Nat->(Bool->Shared->Prop)->Shared->Prop) (N:Nat) (s:Shared):Prop:=
 ∀i j,i < N->j < N->∀C:Bool->Shared->Prop,C (O.blt (key i) (key j)) s->cmp i j C s
theorem Up.succ {p:Array Nat} {n:Nat} (h:Up key p n) (h1:1<=n) (h2:O.kle (rQ key p (n - 1)) (rQ key p n)):Up key p (n + 1):=λi j fV hj=>by
 by_cases e:j=n
 ·subst e;by_cases e2:i=j
  ·subst e2;exact KeyOrd.kle_refl _
  ·exact QM (h i (j - 1) (by lia) (by lia)) h2
 ·exact h i j fV (by lia)
theorem Dn.succ {p:Array Nat} {n:Nat} (h:Dn key p n) (h1:1<=n) (h2:O.kle (rQ key p n) (rQ key p (n - 1))):Dn key p (n + 1):=λi j fV hj=>by
 by_cases e:j=n
 ·subst e;by_cases e2:i=j
  ·subst e2;exact KeyOrd.kle_refl _
  ·exact QM h2 (h i (j - 1) (by lia) (by lia))
 ·exact h i j fV (by lia)
theorem Dn.of {p q:Array Nat} {n:Nat} (e:∀k,rQ key q k=rQ key p k) (h:Dn key p n):Dn key q n:=λi j a b=>by rw[e,e];exact h i j a b
theorem zy {p:Array Nat} {n:Nat} (hn:n<=p.size) (h:Dn key p n):Up key (kas_rev p 0 n) n:=λi j fV hj=>by rw[uf hn,uf hn,if_pos (by lia),if_pos (by lia)];exact h _ _ (by lia) (by lia)
end
end MxSort
end
section
namespace Mx
open PySem PySem.Spec PyProof.Rows L2 PySem.SeqAt
mutual
noncomputable def D.dep:D->Nat
 | .int _=>0
 | .str _=>0
 | .tup ds=>D.bX ds + 1
noncomputable def D.bX:List D->Nat
 | []=>0
 | d::ds=>max (D.dep d) (D.bX ds)
end
mutual
noncomputable def DV (H:Hp):V->D->Prop
 | x,.int i=>x= .int i
 | x,.str z=>x= .str z
 | x,.tup ds=>∃a xs,x= .ref a/\H a=some (.tup xs)/\aY H xs ds
noncomputable def aY (H:Hp):List V->List D->Prop
 | [],[]=>True
 | x::xs,d::ds=>DV H x d/\aY H xs ds
 | [],_::_=>False
 | _::_,[]=>False
end
theorem aY.nil {H:Hp}:aY H [] []:=by unfold aY;trivial
theorem aY.cons {H:Hp} {x:V} {xs:List V} {d:D} {ds:List D} (h:DV H x d) (t:aY H xs ds):aY H (x::xs) (d::ds):=by unfold aY;exact⟨h,t⟩
theorem DV.int {H:Hp} {i:Int}:DV H (.int i) (.int i):=by unfold DV;rfl
theorem DV.str {H:Hp} {x:Str}:DV H (.str x) (.str x):=by unfold DV;rfl
theorem DV.tup {H:Hp} {a:Addr} {xs:List V} {ds:List D} (h:H a=some (.tup xs)) (t:aY H xs ds):DV H (.ref a) (.tup ds):=by unfold DV;exact⟨a,xs,rfl,h,t⟩
theorem DV.ah {H:Hp} {x:V} {ds:List D} (h:DV H x (.tup ds)):∃a xs,x= .ref a/\H a=some (.tup xs)/\aY H xs ds:=by unfold DV at h;exact h
theorem DV.int_inv {H:Hp} {x:V} {i:Int} (h:DV H x (.int i)):x= .int i:=by unfold DV at h;exact h
theorem DV.str_inv {H:Hp} {x:V} {i:Str} (h:DV H x (.str i)):x= .str i:=by unfold DV at h;exact h
theorem aY.cons_inv {H:Hp} {xs:List V} {d:D} {ds:List D} (h:aY H xs (d::ds)):∃x r,xs=x::r/\DV H x d/\aY H r ds:=by
 cases xs with
 | nil=>unfold aY at h;exact h.elim
 | cons x r=>unfold aY at h;exact⟨x,r,rfl,h⟩
theorem aY.length {H:Hp}:∀{xs:List V} {ds:List D},aY H xs ds->xs.length=ds.length
 | [],[],_=>rfl
 | [],_::_,h=>by unfold aY at h;exact h.elim
 | _::_,[],h=>by unfold aY at h;exact h.elim
 | _::xs,_::ds,h=>by unfold aY at h;simp[aY.length h.2]
theorem aY.get {H:Hp}:∀{xs:List V} {ds:List D} {i:Nat} {x:V},aY H xs ds->xs[i]?=some x->∃d,ds[i]?=some d/\DV H x d
 | [],_,_,_,_,e=>by simp at e
 | _::_,[],_,_,h,_=>by unfold aY at h;exact h.elim
 | _::_,_::_,0,_,h,e=>by unfold aY at h;simp at e;subst e;exact⟨_,rfl,h.1⟩
 | _::xs,_::ds,i + 1,x,h,e=>by unfold aY at h;obtain⟨d,e1,e2⟩:=aY.get (i:=i) h.2 (by simpa using e);exact⟨d,by simpa using e1,e2⟩
theorem aY.append {H:Hp}:∀{xs ys:List V} {ds es:List D},aY H xs ds->aY H ys es->aY H (xs++ys) (ds++es)
 | [],_,[],_,_,h=>h
 | [],_,_::_,_,h,_=>by unfold aY at h;exact h.elim
 | _::_,_,[],_,h,_=>by unfold aY at h;exact h.elim
 | _::xs,ys,_::ds,es,h,h'=>by unfold aY at h;exact aY.cons h.1 (aY.append h.2 h')
noncomputable def An (H H':Hp):Prop:=∀a xs,H a=some (.tup xs)->H' a=some (.tup xs)
mutual
theorem DV.mono {H H':Hp} (t:An H H'):∀{x:V} {d:D},DV H x d->DV H' x d
 | x,.int i,h=>by unfold DV at h ⊢;exact h
 | x,.str z,h=>by unfold DV at h ⊢;exact h
 | x,.tup ds,h=>by obtain⟨a,xs,e,e1,e2⟩:=h.ah;subst e;exact DV.tup (t a xs e1) (aY.mono t e2)
theorem aY.mono {H H':Hp} (t:An H H'):∀{xs:List V} {ds:List D},aY H xs ds->aY H' xs ds
 | [],[],_=>aY.nil
 | [],_::_,h=>by unfold aY at h;exact h.elim
 | _::_,[],h=>by unfold aY at h;exact h.elim
 | _::xs,_::ds,h=>by unfold aY at h;exact aY.cons (DV.mono t h.1) (aY.mono t h.2)
end
mutual
theorem DV.inj {H:Hp}:∀{x:V} {d e:D},DV H x d->DV H x e->d=e
 | x,.int i,e,h1,h2=>by
  have:=h1.int_inv;subst this;cases e with
  | int j=>have:=h2.int_inv;injection this with q;rw[q]
  | str j=>have:=h2.str_inv;cases this
  | tup j=>obtain⟨_,_,q,_⟩:=h2.ah;cases q
 | x,.str i,e,h1,h2=>by
  have:=h1.str_inv;subst this;cases e with
  | int j=>have:=h2.int_inv;cases this
  | str j=>have:=h2.str_inv;injection this with q;rw[q]
  | tup j=>obtain⟨_,_,q,_⟩:=h2.ah;cases q
 | x,.tup ds,e,h1,h2=>by
  obtain⟨a,xs,q,e1,e2⟩:=h1.ah;subst q;cases e with
  | int j=>have:=h2.int_inv;cases this
  | str j=>have:=h2.str_inv;cases this
  | tup j=>obtain⟨b,ys,q,f1,f2⟩:=h2.ah;cases q;rw[e1] at f1;cases f1;rw[aY.inj e2 f2]
theorem aY.inj {H:Hp}:∀{xs:List V} {ds es:List D},aY H xs ds->aY H xs es->ds=es
 | [],[],[],_,_=>rfl
 | [],[],_::_,_,h=>by unfold aY at h;exact h.elim
 | [],_::_,_,h,_=>by unfold aY at h;exact h.elim
 | _::_,[],_,h,_=>by unfold aY at h;exact h.elim
 | _::_,_::_,[],_,h=>by unfold aY at h;exact h.elim
 | _::xs,_::ds,_::es,h1,h2=>by unfold aY at h1 h2;rw[DV.inj h1.1 h2.1,aY.inj h1.2 h2.2]
end
noncomputable def Jd (ds es:List D) (j:Nat):Bool:=match ds[j]?,es[j]? with
 | some d,some e=>D.gp d e
 | _,_=>true
theorem tm:∀ds es:List D,((List.range (min ds.length es.length)).all (Jd ds es)&&ds.length==es.length)=D.eqs ds es
 | [],[]=>by simp[D.eqs]
 | [],_::_=>by simp[D.eqs]
 | _::_,[]=>by simp[D.eqs]
 | d::ds,e::es=>by
  have ih:=tm ds es;have hm:min (d::ds).length (e::es).length=min ds.length es.length + 1:=by simp only[QD];lia
  have e1:((d::ds).length==(e::es).length)=(ds.length==es.length):=by rw[Bool.eq_iff_iff];simp
  rw[hm,List.range_succ_eq_map,List.all_cons,List.all_map,e1,D.eqs,<-ih,Bool.and_assoc];rfl
theorem nF {d:D}:∀{ds:List D} {j:Nat},ds[j]?=some d->D.dep d<=D.bX ds
 | [],_,h=>by simp at h
 | d'::ds,0,h=>by simp at h;subst h;unfold D.bX;lia
 | d'::ds,j + 1,h=>by have:=nF (ds:=ds) (j:=j) (by simpa using h);unfold D.bX;lia
section
variable {P:Program} {w:World} {H:Hp} {s:Shared}
theorem ay (hok:eK P w H s.heap) {a:Addr} {xs:List V} (h:H a=some (.tup xs)):∃its:List Value,ax xs its/\s.heap.IsTuple a its.toArray:=by obtain⟨_,its,r,t⟩:=hok a _ h;exact⟨its,r,t⟩
theorem eq_data (hok:eK P w H s.heap):∀(n:Nat) (d e:D) (x y:V) (u v:Value) (A:Around),D.dep d<=n->A.units + n < cLine->DV H x d->DV H y e->RelV x u->RelV y v->EqAt A s u v (D.gp d e):=by
 intro n
 induction n with
 | zero=>
  intro d e x y u v A hd hu hx hy rx ry;cases d with
  | int i=>
   have:=hx.int_inv;subst this;obtain⟨t,rfl⟩:=rx;cases e with
   | int j=>have:=hy.int_inv;subst this;obtain⟨t',rfl⟩:=ry;exact EqAt.int_int i t j t'
   | str j=>have:=hy.str_inv;subst this;obtain⟨t',rfl⟩:=ry;exact EqAt.int_str i t j t'
   | tup j=>obtain⟨b,ys,q,f1,f2⟩:=hy.ah;subst q;cases ry;obtain⟨its,_,ht⟩:=ay hok f1;exact EqAt.int_tuple i t ht (by lia)
  | str i=>
   have:=hx.str_inv;subst this;obtain⟨t,rfl⟩:=rx;cases e with
   | int j=>have:=hy.int_inv;subst this;obtain⟨t',rfl⟩:=ry;exact EqAt.str_int i t j t'
   | str j=>have:=hy.str_inv;subst this;obtain⟨t',rfl⟩:=ry;exact EqAt.str_str i t j t'
   | tup j=>obtain⟨b,ys,q,f1,f2⟩:=hy.ah;subst q;cases ry;obtain⟨its,_,ht⟩:=ay hok f1;exact EqAt.str_tuple i t ht (by lia)
  | tup ds=>unfold D.dep at hd;lia
 | succ n ih=>
  intro d e x y u v A hd hu hx hy rx ry;cases d with
  | int i=>exact ih (.int i) e x y u v A (by unfold D.dep;lia) (by lia) hx hy rx ry
  | str i=>exact ih (.str i) e x y u v A (by unfold D.dep;lia) (by lia) hx hy rx ry
  | tup ds=>
   obtain⟨a,xs,q,e1,e2⟩:=hx.ah;subst q;cases rx;obtain⟨its,r1,ht⟩:=ay hok e1;cases e with
   | int j=>have:=hy.int_inv;subst this;obtain⟨t',rfl⟩:=ry;exact EqAt.tuple_int j t' ht (by lia)
   | str j=>have:=hy.str_inv;subst this;obtain⟨t',rfl⟩:=ry;exact EqAt.tuple_str j t' ht (by lia)
   | tup es=>
    obtain⟨b,ys,q,f1,f2⟩:=hy.ah;subst q;cases ry;obtain⟨aM,r2,cq⟩:=ay hok f1;by_cases gD:a=b
    ·subst gD;rw[e1] at f1;cases f1;have:=aY.inj e2 f2;subst this;have q:D.gp (.tup ds) (.tup ds)=true:=(D.c7 _ _).mpr rfl;rw[q];exact EqAt.same _
    ·have l1:its.toArray.size=ds.length:=by rw[Ql,<-r1.length,e2.length]
     have l2:aM.toArray.size=es.length:=by rw[Ql,<-r2.length,f2.length]
     have key:=RcAt.tuples (A:=A) (e:=Jd ds es) ht cq (by lia) (λj h1 h2=>?_)
     ·have q:=tm ds es;rw[<-l1,<-l2] at q;rw[q] at key;exact EqAt.of_refs gD key
     ·have gT:j < xs.length:=by rw[e2.length,<-l1];exact h1
      have mB:j < ys.length:=by rw[f2.length,<-l2];exact h2
      obtain⟨d,g1,g2⟩:=e2.get (i:=j) (x:=xs[j]) (by simp[gT]);obtain⟨e,k1,k2⟩:=f2.get (i:=j) (x:=ys[j]) (by simp[mB]);obtain⟨u,ua,ru⟩:=r1.get (i:=j) (x:=xs[j]) (by simp[gT]);obtain⟨v,A2,rv⟩:=r2.get (i:=j) (x:=ys[j]) (by simp[mB]);have eu:its.toArray[j]=u:=by have:its[j]?=some u:=ua;simp only[List.getElem_toArray];have q:=Qn.mp this;exact q.2
      have ev:aM.toArray[j]=v:=by have:aM[j]?=some v:=A2;simp only[List.getElem_toArray];have q:=Qn.mp this;exact q.2
      rw[eu,ev];have ee:Jd ds es j=D.gp d e:=by unfold Jd;rw[g1,k1]
      rw[ee];refine ih d e xs[j] ys[j] u v A.in1 ?_ (by show A.units + 1 + n < cLine;lia) g2 k2 ru rv;have:=nF g1;unfold D.dep at hd
      lia
end
mutual
noncomputable def D.eS:D->D->Prop
 | .int _,.int _=>True
 | .str _,.str _=>True
 | .tup a,.tup b=>D.gu a b
 | _,_=>False
noncomputable def D.gu:List D->List D->Prop
 | x::xs,y::ys=>D.eS x y/\D.gu xs ys
 | _,_=>True
end
noncomputable def CS (A:Around) (s:Shared) (u v:Value) (b:Bool):Prop:=
 ∀(prog:Program) (w:World) (E:Value->Shared->Prop) (Q:Value->Shared->Prop),Q (.bool b) s->wpAny (model prog w) A (richCompare .Lt u v) Q E s
inductive Zp (A:Around) (s:Shared):List Value->List Value->List D->List D->Prop
 | nil {ws:List Value} {es:List D}:ws.length=es.length->Zp A s [] ws [] es
 | Bl {vs:List Value} {ds:List D}:vs.length=ds.length->Zp A s vs [] ds []
 | cons {v w:Value} {d e:D} {vs ws:List Value} {ds es:List D}:EqAt A s v w (D.gp d e)->(d≠e->CS A s v w (D.lt d e))->Zp A s vs ws ds es->Zp A s (v::vs) (w::ws) (d::ds) (e::es)
section
open PySem.AutoSeq1 (wpAny_loadPart')
open PySem.MeetsSeq PySem.MeetsSeq2 PySem.MeetsSeq3
theorem lW (l b:Addr) (items fK:Array Value) (n n2:Nat) (dd zU:Option Addr) (sl wB:Array (Option Value)) (ds es:List D) (z1:items.size=ds.length) (z2:fK.size=es.length):
  Meets (Builtin.«tuple.__lt__» ⟨[.ref l,.ref b],[]⟩)
   (λA R s=>s.heap.get? l=some {cls:= .type "tuple",dict:=dd,data:= .seq items n,slots:=sl}/\s.heap.get? b=some {cls:= .type "tuple",dict:=zU,data:= .seq fK n2,slots:=wB}/\
    Zp A.in1 s items.toList fK.toList ds es/\R (.ok (.ret (.bool (D.fw ds es)))) s):=
 .of_wp λprog w A R s h=>by
  obtain⟨hp,g,d,tk,os⟩:=s;obtain⟨hl,hb,O7,h⟩:=h;have f2:=AutoSeq1.sub_tuple_tuple
  wp_walk using wpAny_loadPart' hl,wpAny_loadPart' hb,wpAny_forIn_list _ (λrest b s'=>b.1=none/\s'=⟨hp,g,d,tk,os⟩/\∃(vs ws:List Value) (wy df:List D),rest=vs.zip ws/\
   Zp A.in1 ⟨hp,g,d,tk,os⟩ vs ws wy df/\wy.length + fK.size=df.length + items.size/\R (.ok (.ret (.bool (D.fw wy df)))) ⟨hp,g,d,tk,os⟩) _
  case turn=>
   rintro⟨y,x⟩ rest b s' ⟨jK,rfl,vs,ws,wy,df,hz,Lw,hlen,hR⟩;cases Lw with
   | nil _=>rw[List.zip_nil_left] at hz;cases hz
   | Bl _=>rw[List.zip_nil_right] at hz;cases hz
   | cons he hl Hc=>
    rename_i v wv d0 e0 wC ws' ds'' es'';rw[List.zip_cons_cons] at hz;injection hz with hyx G4;injection hyx with hy hx;subst hy hx;rw[D.eB] at hR;simp only[QD] at hlen;refine Qg (he prog w _ _ ?_);by_cases hde:d0=e0
    ·rw[if_pos hde] at hR;rw[(D.c7 d0 e0).mpr hde]
     wp_walk
     exact⟨rfl,rfl,_,_,_,_,G4,Hc,by lia,hR⟩
    ·rw[if_neg hde] at hR;have NW:D.gp d0 e0=false:=by rw[D.ie];exact QK hde
     rw[NW];have OT:=hl hde prog w
     wp_walk using OT
     exact⟨_,rfl,by simpa using hR⟩
  case fin=>
   rintro⟨b1,b2⟩ s' ⟨jK,rfl,vs,ws,wy,df,hz,Lw,hlen,hR⟩;simp only at jK;subst jK;have hv:D.fw wy df=decide (items.size < fK.size):=by
    cases Lw with
    | nil _=>
     cases df with
     | nil=>simp only[List.length_nil] at hlen;rw[D.fw];exact(QK (by lia)).symm
     | cons c u=>simp only[List.length_nil,QD] at hlen;rw[D.fw];exact(QO (by lia)).symm
    | Bl _=>
     cases wy with
     | nil=>simp only[List.length_nil] at hlen;rw[D.fw];exact(QK (by lia)).symm
     | cons c u=>simp only[List.length_nil,QD] at hlen;rw[D.fw];exact(QK (by lia)).symm
    | cons he hl Hc=>rw[List.zip_cons_cons] at hz;cases hz
   rw[hv] at hR
   wp_walk
   exact⟨_,rfl,by simpa [Builtin.Tuple.tupleCompareSizes] using hR⟩
  case h=>exact⟨rfl,rfl,items.toList,fK.toList,ds,es,rfl,O7,by lia,h⟩
end
section
variable {P:Program} {w:World} {H:Hp} {s:Shared}
theorem zR (hok:eK P w H s.heap) {A:Around} {n:Nat} (hu:A.units + n < cLine) (ih:∀(d e:D) (x y:V) (u v:Value),D.dep d<=n->D.eS d e->DV H x d->DV H y e->RelV x u->RelV y v->CS A s u v (D.lt d e)):
  ∀{xs ys:List V} {us vs:List Value} {ds es:List D},D.bX ds<=n->D.gu ds es->aY H xs ds->aY H ys es->ax xs us->ax ys vs->Zp A s us vs ds es
 | [],ys,us,vs,[],es,_,_,_,h2,r1,r2=>by cases r1;exact .nil (by rw[<-r2.length,h2.length])
 | x::xs,[],us,vs,ds,[],_,_,h1,_,r1,r2=>by cases r2;exact .Bl (by rw[<-r1.length,h1.length])
 | [],_,_,_,_::_,_,_,_,h,_,_,_=>by unfold aY at h;exact h.elim
 | _::_,_,_,_,[],_,_,_,h,_,_,_=>by unfold aY at h;exact h.elim
 | _::_,[],_,_,_::_,_::_,_,_,_,h,_,_=>by unfold aY at h;exact h.elim
 | _::_,_::_,_,_,_::_,[],_,_,_,h,_,_=>by unfold aY at h;exact h.elim
 | x::xs,y::ys,us,vs,d::ds,e::es,hd,hl,h1,h2,r1,r2=>by
  unfold aY at h1 h2;unfold D.gu at hl;unfold D.bX at hd;cases r1 with
  | cons r1 t1=>
   cases r2 with
   | cons r2 t2=>exact .cons (eq_data hok n d e x y _ _ A (by lia) hu h1.1 h2.1 r1 r2) (λ_=>ih d e x y _ _ (by lia) hl.1 h1.1 h2.1 r1 r2) (zR hok hu ih (by lia) hl.2 h1.2 h2.2 t1 t2)
theorem Bg (hok:eK P w H s.heap):∀(n:Nat) (d e:D) (x y:V) (u v:Value) (A:Around),D.dep d<=n->A.units + n < cLine->D.eS d e->DV H x d->DV H y e->RelV x u->RelV y v->CS A s u v (D.lt d e):=by
 intro n
 induction n with
 | zero=>
  intro d e x y u v A hd hu hl hx hy rx ry;cases d with
  | int i=>
   have:=hx.int_inv;subst this;obtain⟨t,rfl⟩:=rx;cases e with
   | int j=>have:=hy.int_inv;subst this;obtain⟨t',rfl⟩:=ry;intro prog wd E Q q;exact(PyProof.Rows.lt_int q:wpAny (model prog wd) A (compareOp .Lt (.int i t) (.int j t')) Q E s)
   | str j=>unfold D.eS at hl;exact hl.elim
   | tup j=>unfold D.eS at hl;exact hl.elim
  | str i=>
   have:=hx.str_inv;subst this;obtain⟨t,rfl⟩:=rx;cases e with
   | int j=>unfold D.eS at hl;exact hl.elim
   | str j=>have:=hy.str_inv;subst this;obtain⟨t',rfl⟩:=ry;intro prog wd E Q q;exact(PySem.P.lt_str q:wpAny (model prog wd) A (compareOp .Lt (.str i t) (.str j t')) Q E s)
   | tup j=>unfold D.eS at hl;exact hl.elim
  | tup ds=>unfold D.dep at hd;lia
 | succ n ih=>
  intro d e x y u v A hd hu hl hx hy rx ry;cases d with
  | int i=>exact ih (.int i) e x y u v A (by unfold D.dep;lia) (by lia) hl hx hy rx ry
  | str i=>exact ih (.str i) e x y u v A (by unfold D.dep;lia) (by lia) hl hx hy rx ry
  | tup ds=>
   obtain⟨a,xs,q,e1,e2⟩:=hx.ah;subst q;cases rx;cases e with
   | int j=>unfold D.eS at hl;exact hl.elim
   | str j=>unfold D.eS at hl;exact hl.elim
   | tup es=>
    obtain⟨b,ys,q,f1,f2⟩:=hy.ah;subst q;cases ry;obtain⟨its,r1,ht⟩:=ay hok e1;obtain⟨aM,r2,cq⟩:=ay hok f1;have l1:its.toArray.size=ds.length:=by rw[Ql,<-r1.length,e2.length]
    have l2:aM.toArray.size=es.length:=by rw[Ql,<-r2.length,f2.length]
    have rG:D.bX ds<=n:=by unfold D.dep at hd;lia
    have AW:D.gu ds es:=by unfold D.eS at hl;exact hl
    have zz:Zp A.in1 s its aM ds es:=zR hok (n:=n) (by show A.units + 1 + n < cLine;lia) (λd e x y u v hd2 dh A4 hy2 rx2 ry2=>ih d e x y u v A.in1 hd2 (by show A.units + 1 + n < cLine;lia) dh A4 hy2 rx2 ry2) rG AW e2 f2 r1 r2;intro prog wd E Q q;obtain⟨⟨cls,dd,data,sl⟩,ho,hc,k,AU⟩:=id ht;obtain⟨⟨Gg,zU,data2,wB⟩,oR,vx,k2,rH⟩:=id cq;simp only at hc AU vx rH;subst hc AU vx rH;have q':Q (.bool (D.fw ds es)) s:=by have z:=q;unfold D.lt at z;exact z
    exact richCompare_meets_room (op:= .Lt) ⟨_,ho,rfl⟩ ⟨_,oR,rfl⟩ PySem.F.slot_tuple_lt PySem.F.entry_tuple_lt (PySem.F.args_tuple_lt_2 _ _) (lW a b its.toArray aM.toArray k k2 dd zU sl wB ds es l1 l2)
     ⟨ho,oR,zz,show Value.bool (D.fw ds es)≠Value.notImplemented/\Q (.bool (D.fw ds es)) s from⟨(λx=>nomatch x),q'⟩⟩ (by lia)
end
end Mx
end
section
namespace Mx
open PySem PySem.W PySem.Spec PyProof.Rows L2 PySem.SeqAt MxSort
section
variable {P:Program} {w:World} {H:Hp} {prog:Program} {s:Shared} {A:Around}
theorem Ba {b:Bool} {n m:Nat} {Q:Bool->Shared->Prop} {us vs:List Value} {ds es:List D} (z:Zp A s us vs ds es):∀(i:Nat),1<=i->ds.length + m=es.length + n->Q (D.fw ds es) s->KatLex prog w A b (decide (n < m)) Q (us.zip vs) i s:=by
 induction z with
 | nil hl=>
  intro i hi hlen q;rw[List.zip_nil_left];refine kat_nil ?_;rename_i ws es;cases es with
  | nil=>simp only[List.length_nil] at hlen;rw[D.fw] at q;rw[QK (by lia)];exact q
  | cons c u=>simp only[List.length_nil,QD] at hlen;rw[D.fw] at q;rw[QO (by lia)];exact q
 | Bl hl=>
  intro i hi hlen q;rw[List.zip_nil_right];refine kat_nil ?_;rename_i vs ds;cases ds with
  | nil=>simp only[List.length_nil] at hlen;rw[D.fw] at q;rw[QK (by lia)];exact q
  | cons c u=>simp only[List.length_nil,QD] at hlen;rw[D.fw] at q;rw[QK (by lia)];exact q
 | cons he hl z' ih=>
  intro i hi hlen q;rename_i v wv d e wC ws' wy df;rw[List.zip_cons_cons];simp only[QD] at hlen;rw[D.eB] at q;refine kat_cons (he prog w _ _ ?_);by_cases hde:d=e
  ·rw[(D.c7 d e).mpr hde];rw[if_pos hde] at q;exact kat_yes (ih (i + 1) (by lia) (by lia) q)
  ·rw[show D.gp d e=false by rw[D.ie];exact QK hde];rw[if_neg hde] at q;refine kat_no ?_;rw[show (b&&i==0)=false by rw[show (i==0)=false by simp;lia];simp];exact kat_one v wv (hl hde prog w _ _ q)
end
noncomputable def gX (ds es:List D):Prop:=es.Perm ds/\es.Pairwise λa b=>D.lt b a=false
theorem aY.map {H:Hp} {xs:List V} {ds:List D} (h:aY H xs ds):∀{p:List Nat},(∀i∈p,i < xs.length)->aY H (p.map λi=>xs.getD i .bq) (p.map λi=>ds.getD i (.int 0))
 | [],_=>aY.nil
 | i::p,hp=>by have hi:=hp i Qr;obtain⟨d,e1,e2⟩:=h.get (i:=i) (x:=xs[i]) (by simp[hi]);refine aY.cons ?_ (aY.map h λj hj=>hp j (Qo _ hj));dsimp only;rw[show xs.getD i .bq=xs[i] by simp[hi],show ds.getD i (.int 0)=d by simp[e1]];exact e2
theorem qF {xs:List V} {us:List Value} (h:ax xs us):∀{p:List Nat},(∀i∈p,i < xs.length)->ax (p.map λi=>xs.getD i .bq) (p.map λi=>us.getD i .none)
 | [],_=> .nil
 | i::p,hp=>by have hi:=hp i Qr;obtain⟨u,e1,e2⟩:=h.get (i:=i) (x:=xs[i]) (by simp[hi]);refine .cons ?_ (qF h λj hj=>hp j (Qo _ hj));dsimp only;rw[show xs.getD i .bq=xs[i] by simp[hi],show us.getD i .none=u by simp[e1]];exact e2
theorem kQ {α:Type} (l:List α) (d:α):(List.range l.length).map (λi=>l.getD i d)=l:=by
 refine List.ext_getElem (by simp) λi h1 h2=>?_
 simp at h1;simp[h1]
end Mx
end
section
namespace L2
open PySem PySem.Spec PyProof.Rows
noncomputable def nz (env:Env):List (Str×NameKind)->List (Str×Addr)->List (Str×Addr)
 | [],cs=>cs
 | (n,k)::r,cs=>nz env r (if k== .free then(n,(env.cells.lookup n).getD 0)::cs else cs)
noncomputable def fh (scope:Scope) (env:Env):List (Str×Addr):=nz env scope.names []
theorem kD {env:Env}:∀(l:List (Str×NameKind)) (cs:List (Str×Addr)),(∀y∈l,y.2= .free->∃c,env.cells.lookup y.1=some c)->
  (forIn l cs (λx r=>do
   if x.2==NameKind.free then do let a<-cellOf env x.1;pure (ForInStep.yield ((x.1,a)::r)) else pure (ForInStep.yield r)):Sem (List (Str×Addr)))=pure (nz env l cs)
 | [],cs,_=>rfl
 | (n,k)::r,cs,h=>by
  rw[List.forIn_cons];have ih:=λcs=>kD r cs λy hy=>h y (Qo _ hy)
  cases hk:(k==NameKind.free) with
  | false=>simp only[hk,Bool.false_eq_true,if_false,nz,pure_bind];exact ih cs
  | true=>
   obtain⟨c,hc⟩:=h (n,k) Qr (by simpa using hk);have nM:env.cells.lookup n=some c:=hc;have e:cellOf env n=pure c:=by unfold cellOf;rw[nM]
   simp only[hk,if_true,nz,e,pure_bind,nM,Option.getD_some];exact ih _
theorem gk {scope:Scope} {env:Env} (h:∀y∈scope.names,y.2= .free->∃c,env.cells.lookup y.1=some c):closureFor scope env=pure (fh scope env):=by have q:=kD (env:=env) scope.names [] h;unfold closureFor fh;rw[<-q];simp only[bind_pure]
theorem jn {env:Env} {x:Str} {c:Addr}:∀(l:List (Str×NameKind)) (cs:List (Str×Addr)),(∀y∈l,y.2= .free->∃c,env.cells.lookup y.1=some c)->
  (∀c,cs.lookup x=some c->env.cells.lookup x=some c)->(nz env l cs).lookup x=some c->env.cells.lookup x=some c
 | [],cs,_,h2,h=>h2 c h
 | (n,k)::r,cs,h1,h2,h=>by
  refine jn r _ (λy hy=>h1 y (Qo _ hy)) (λc' nM=>?_) h;by_cases hk:(k==NameKind.free)=true
  ·rw[if_pos hk] at nM;rw[QL] at nM;by_cases hx:(x==n)=true
   ·rw[hx] at nM;have pN:x=n:=by simpa using hx
    subst pN;obtain⟨c₁,e⟩:=h1 (x,k) Qr (by simpa using hk);have e':env.cells.lookup x=some c₁:=e;rw[e'] at nM ⊢;simpa using nM
   ·rw[Bool.not_eq_true] at hx;rw[hx] at nM;exact h2 c' nM
  ·rw[if_neg hk] at nM;exact h2 c' nM
theorem km {env:Env} {x:Str}:∀(l:List (Str×NameKind)) (cs:List (Str×Addr)),(((x,NameKind.free)∈l)\/∃c,cs.lookup x=some c)->∃c,(nz env l cs).lookup x=some c
 | [],cs,h=>by
  rcases h with h | h
  ·cases h
  ·exact h
 | (n,k)::r,cs,h=>by
  refine km r _ ?_;by_cases hk:(k==NameKind.free)=true
  ·rw[if_pos hk];by_cases hx:(x==n)=true
   ·exact .inr ⟨_,by rw[QL,hx]⟩
   ·rw[Bool.not_eq_true] at hx;rcases h with h | h
    ·rcases Qx.mp h with e | h
     ·injection e with e1 e2;subst e1;simp at hx
     ·exact .inl h
    ·exact .inr (by obtain⟨c,e⟩:=h;exact⟨c,by rw[QL,hx];exact e⟩)
  ·rw[if_neg hk];rcases h with h | h
   ·rcases Qx.mp h with e | h
    ·injection e with e1 e2;subst e2;exact absurd rfl hk
    ·exact .inl h
   ·exact .inr h
theorem aU {env:Env} {x:Str}:∀{names:List (Str×NameKind)} {k:NameKind},names.lookup x=some k->
  (names.map λ(n,k)=>if (k==NameKind.free&&env.scope.kind== .function&&env.kindOf n==some .cell) then(n,NameKind.cell) else(n,k)).lookup x=
   some (if (k==NameKind.free&&env.scope.kind== .function&&env.kindOf x==some .cell) then NameKind.cell else k)
 | [],_,h=>by simp at h
 | (n,k')::r,k,h=>by
  have ih:=@aU env x r k;show List.lookup x ((if (k'==NameKind.free&&env.scope.kind== .function&&env.kindOf n==some .cell)=true then(n,NameKind.cell) else(n,k'))::_)=_;cases hx:x==n with
  | true=>
   have pN:x=n:=by simpa using hx
   subst pN;simp only[QL,hx] at h;cases h;by_cases hc:(k'==NameKind.free&&env.scope.kind== .function&&env.kindOf x==some .cell)=true
   ·simp only[hc,if_true,QL,hx]
   ·rw[if_neg hc,if_neg hc];simp only[QL,hx]
  | false=>
   simp only[QL,hx] at h;by_cases hc:(k'==NameKind.free&&env.scope.kind== .function&&env.kindOf n==some .cell)=true
   ·rw[if_pos hc];simp only[QL,hx];exact ih h
   ·rw[if_neg hc];simp only[QL,hx];exact ih h
theorem bR {env:Env} {x:Str}:∀{names:List (Str×NameKind)},names.lookup x=none->
  (names.map λ(n,k)=>if (k==NameKind.free&&env.scope.kind== .function&&env.kindOf n==some .cell) then(n,NameKind.cell) else(n,k)).lookup x=none
 | [],h=>rfl
 | (n,k')::r,h=>by
  show List.lookup x ((if (k'==NameKind.free&&env.scope.kind== .function&&env.kindOf n==some .cell)=true then(n,NameKind.cell) else(n,k'))::_)=_;cases hx:x==n with
  | true=>simp only[QL,hx] at h;cases h
  | false=>
   simp only[QL,hx] at h;by_cases hc:(k'==NameKind.free&&env.scope.kind== .function&&env.kindOf n==some .cell)=true
   ·rw[if_pos hc];simp only[QL,hx];exact bR h
   ·rw[if_neg hc];simp only[QL,hx];exact bR h
noncomputable def dc (cv:List (Option Nat)) (σ:St):St:=cv.map λo=>o.bind λi=>(σ[i]?).join
noncomputable def B3 (X:Cx) (ifs:List Expr) (t:TT):Prop:=
 ∀(pins:List (Addr×Obj)) (s:Shared) (σ:St) (H:Hp) (Q:Bool->Hp->Prop),Inv X pins σ H s->t σ H Q->
  wpAny (model X.prog X.w) X.A (forIn ifs true λc r=>if r=true then do let ok<-isTrue c X.env (eval c X.env);pure (ForInStep.yield ok) else pure (ForInStep.yield r)) (TP X pins σ Q) X.xe s
noncomputable def Mt:TT:=λ_ H Q=>Q true H
theorem BF {X:Cx}:B3 X [] Mt:=λ_ _ _ H _ I h=>wpAny_tests_nil ⟨H,I,h⟩
theorem BG {X:Cx} {c:Expr} {t:TT} (h:PT X c t):B3 X [c] t:=λpins s σ H Q I hw=>wpAny_tests_one (h pins s σ H Q I hw)
noncomputable def FS (J:It) (g:TG) (tt:TT) (te:TE) (σ0:St) (D:Addr) (F:Hp->Prop) (H1:Hp):Prop:=
 ∃W:Nat->Nat->List V->Hp->Prop,(∃m,W 0 m [] (upd H1 D (.lst [])))/\∀i m acc H,W i m acc H->
  (J.stop i H/\F H)\/(J.go i H/\∀x H',J.yld i H x H'->g x σ0 H' λσ2 H2=>tt σ2 H2 λb H3=>if b=true then te σ2 H3 λv H4=>∃dZ,H4 D=some (.lst dZ)/\dZ.length < sizeLine/\
   ∃m',m' < m/\W (i + 1) m' (dZ++[v]) (upd H4 D (.lst (dZ++[v]))) else∃m',m' < m/\W (i + 1) m' acc H3)
end L2
end
section
namespace Mx
open PySem PySem.W PySem.Spec PyProof.Rows L2 PySem.SeqAt
section
variable {X:Cx}
noncomputable def L5:V->Option Int->Option Int->Hp->VK->Prop:=λx lo hi H Q=>∃z,x= .str z/\z.length<=sizeLine/\Q (.str (PySem.Txt.slice z lo hi)) H
theorem E4:FA X L5:=by
 intro pins s σ H x v vl vu lo hi sl Q I rx hs pl pu h;obtain⟨z,rfl,hz,q⟩:=h;obtain⟨t,rfl⟩:=rx;refine⟨"str",_,PySem.F.slot_str_getitem.lookup,typeIs_str _ _ _,?_⟩;have fin:∀(t':Tok) (k:Nat),EP X pins σ Q (.str (PySem.Txt.slice z lo hi) t') {s with toks:=k}:=λt' k=>⟨.str _,H,I.tok k,⟨t',rfl⟩,q⟩
 have hlen:=Qw (PySem.Txt.slice_le z lo hi) hz;obtain⟨o,ho,hc,hd⟩:=hs;cases pl with
 | none=>
  cases pu with
  | none=>exact wpAny_getItem_str_slice (l:=none) (u:=none) (st:=none) ⟨o,ho,hc,hd⟩ rfl (post_val_or_str ⟨hlen,fin⟩)
  | int j tj=>exact wpAny_getItem_str_slice (l:=none) (u:=some (j,tj)) (st:=none) ⟨o,ho,hc,hd⟩ rfl (post_val_or_str ⟨hlen,fin⟩)
 | int i ti=>
  cases pu with
  | none=>exact wpAny_getItem_str_slice (l:=some (i,ti)) (u:=none) (st:=none) ⟨o,ho,hc,hd⟩ rfl (post_val_or_str ⟨hlen,fin⟩)
  | int j tj=>exact wpAny_getItem_str_slice (l:=some (i,ti)) (u:=some (j,tj)) (st:=none) ⟨o,ho,hc,hd⟩ rfl (post_val_or_str ⟨hlen,fin⟩)
noncomputable def LY (K:PySem.W.Frag):List V->Hp->VK->Prop:=λxs H Q=>∃x T t b,xs=[x,.ty T]/\gZ K H x t/\PySem.W.kitOne K t (.type T)=some b/\Q (.bl b) H
theorem xi:gi X (.builtin "isinstance") (LY X.K):=by intro pins s σ H xs us Q I r h;obtain⟨x,T,t,b,rfl,ty,hk,q⟩:=h;obtain⟨u,v,rfl,r1,r2⟩:=r.two;cases r2;exact vH I r1 ty hk λtk=>⟨.bl b,H,I.tok tk,rfl,q⟩
end
end Mx
end
section
namespace Mx
open PySem PySem.W PySem.Spec PyProof.Rows L2
structure g0 (z TI TO i1 i2:Addr):Prop where
 TIz:TI≠z
 TOz:TO≠z
 i1z:i1≠z
 i2z:i2≠z
 TITO:TI≠TO
 TIi1:TI≠i1
 TIi2:TI≠i2
 TOi1:TO≠i1
 TOi2:TO≠i2
 i12:i1≠i2
theorem cJ {H:Hp} {p:Addr} (h:H p=none) (o:HO):bE H (upd H p o):=λb u q=>by rw[aq (aw q h)];exact q
theorem mQ {H H':Hp} (h:bE H H'):An H H':=λa xs q=>h a _ q
theorem ze {H1 H:Hp} {D:Addr} {o:HO} (h:bE H1 H) (hD:H1 D=none):bE H1 (upd H D o):=λb u q=>by rw[aq (aw q hD)];exact h b u q
theorem lA {H:Hp} {D:Addr} {xs ys:List V} (hD:H D=some (.lst xs)):An H (upd H D (.lst ys)):=λb zs q=>by
 by_cases e:b=D
 ·subst e;rw[hD] at q;cases q
 ·rw[aq e];exact q
theorem Kc {α:Type} {x:α} {r:List α}:jE (x::r) 0=some x:=eN (j:=0) rfl
theorem zT {α:Type} {x y:α} {r:List α}:jE (x::y::r) 1=some y:=eN (j:=1) rfl
theorem at2 {α:Type} {x y z:α} {r:List α}:jE (x::y::z::r) 2=some z:=eN (j:=2) rfl
section
variable {K:PySem.W.Frag} {g:TG} {tt:TT} {te:TE} {σ0:L2.St} {D:Addr} {F:Hp->Prop} {H1:Hp}
theorem pA {J:It} {n:Nat} (hD:H1 D=none) (E:Nat->List Mx.D) (hE:E 0=[]) (hn:n < sizeLine) (go:∀i H,i < n->bE H1 H->J.go i H) (stop:∀H,bE H1 H->J.stop n H)
  (hs:∀i x H H',i < n->bE H1 H->J.yld i H x H'->bE H H'/\∀(N:V->Hp->Prop) (M:Hp->Prop),(∀v H4 e,bE H' H4->DV H4 v e->E (i + 1)=E i++[e]->N v H4)->(∀H3,bE H' H3->E (i + 1)=E i->M H3)->
   g x σ0 H' λσ2 H2=>tt σ2 H2 λb H3=>if b=true then te σ2 H3 N else M H3)
  (hd:∀H acc,bE H1 H->H D=some (.lst acc)->aY H acc (E n)->F H):FS J g tt te σ0 D F H1:=by
 refine⟨λi m acc H=>m=n - i/\i<=n/\bE H1 H/\H D=some (.lst acc)/\aY H acc (E i)/\acc.length<=i,⟨n,by simp,Nat.zero_le _,cJ hD _,aB,by rw[hE];exact aY.nil,Qq _⟩,?_⟩;rintro i m acc H ⟨rfl,hi,hS,KD,oP,tZ⟩;by_cases cC:i < n
 ·refine .inr ⟨go i H cC hS,λx H' y=>?_⟩;obtain⟨s1,st⟩:=hs i x H H' cC hS y;refine st _ _ (λv H4 e s4 he e4=>?_) (λH3 s3 e3=>?_)
  ·have Me:=s1.trans s4;have Gx:=Me _ _ KD;refine⟨acc,Gx,by lia,n - (i + 1),by lia,rfl,cC,ze (hS.trans Me) hD,aB,?_,by simp;lia⟩;rw[e4];exact(aY.append (oP.mono (mQ Me)) (aY.cons he aY.nil)).mono (lA Gx)
  ·have Md:=s1.trans s3;exact⟨n - (i + 1),by lia,rfl,cC,hS.trans Md,Md _ _ KD,by rw[e3];exact oP.mono (mQ Md),by lia⟩
 ·have e:i=n:=by lia
  subst e;exact .inl ⟨stop H hS,hd H acc hS KD oP⟩
end
noncomputable def a8:Bool->Heap->Addr->Addr->Nat->Prop
 | false,h,i,l,k=>h.IsListIter i l k
 | true,h,i,l,k=>h.IsTupleIter i l k
noncomputable def cu:Bool->Heap->Addr->Array Value->Prop
 | false,h,l,xs=>h.IsList l xs
 | true,h,l,xs=>h.IsTuple l xs
theorem a8.at:∀{b:Bool} {h h':Heap} {i l:Addr} {k:Nat},a8 b h i l k->(∀o,h.get? i=some o->h'.get? i=some o)->a8 b h' i l k
 | false,_,_,_,_,_,x,e=>Heap.IsListIter.at x e
 | true,_,_,_,_,_,x,e=>Heap.IsTupleIter.at x e
theorem cu.at:∀{b:Bool} {h h':Heap} {l:Addr} {xs:Array Value},cu b h l xs->(∀o,h.get? l=some o->h'.get? l=some o)->cu b h' l xs
 | false,_,_,_,_,x,e=>let ⟨o,ho,r⟩:=x;⟨o,e o ho,r⟩
 | true,_,_,_,_,x,e=>let ⟨o,ho,r⟩:=x;⟨o,e o ho,r⟩
theorem a8.obj:∀{b:Bool} {h:Heap} {i l:Addr} {k:Nat},a8 b h i l k->∃o,h.get? i=some o/\∀v,o.data≠ .cell v
 | false,_,_,_,_,x=>by obtain⟨o,e,c,d⟩:=x;exact⟨o,e,λv q=>by rw[d] at q;cases q⟩
 | true,_,_,_,_,x=>by obtain⟨o,e,c,d⟩:=x;exact⟨o,e,λv q=>by rw[d] at q;cases q⟩
section
variable {prog:Program} {w:World} {A:Around} {E:Value->Shared->Prop} {s:Shared}
theorem sP {it t:Addr} {i:Nat} {items:Array Value} {x:Value} {Q:Value->Shared->Prop} (hit:s.heap.IsTupleIter it t i) (ht:s.heap.IsTuple t items) (hx:items[i]?=some x)
  (hQ:∀h',h'.IsTupleIter it t (i + 1)->Heap.SameBut it s.heap h'->Q x {s with heap:=h'}):wpAny (model prog w) A (Builtin.SmallTypes.nextOf (.ref it)) Q E s:=by
 obtain⟨o,ho,hc,hd⟩:=id hit;obtain⟨ol,DE,_,nl,yb⟩:=ht;unfold Builtin.SmallTypes.nextOf;refine Qg (wpAny_callSpecial?_slot (name:=Str.ofString "__next__") hit.typeIs F.slot_tuple_iterator_next (wpAny_call_entry F.slot_tuple_iterator_next hit.typeIs F.entry_tuple_iterator_next (show wpAny _ _ (field (.ref it) 0 >>=_) _ _ s from Qg (wpAny_field ho hd (x:= .ref t) rfl ?_)) (F.args_tuple_iterator_next_1 _)));show wpAny _ _ (if (Value.ref t==Value.none)=true then _ else _) _ _ s;rw[if_neg (show¬((Value.ref t==Value.none)=true) from Bool.false_ne_true)];refine(show wpAny _ _ (field (.ref it) 1 >>=_) _ _ s from Qg (wpAny_field ho hd (x:= .int i 0) rfl (show wpAny _ _ (seqItems? (.ref t) >>=_) _ _ s from Qg (wpAny_seqItems DE yb ?_))));simp only[Int.toNat_natCast,hx];refine Qg (wpAny_setField ho hd (by simp) (Qj ⟨x,rfl,Qj (hQ _ ⟨_,Heap.get?_update_self _ ho (Obj.isFreed_of_fields (Obj.data_mapFields hd _)),(Obj.cls_mapFields ..).trans hc,?_⟩ (Heap.SameBut.update ..))⟩));rw[Obj.data_mapFields hd];simp[rawInt]
theorem wc {it t:Addr} {i:Nat} {items:Array Value} {Q:Value->Shared->Prop} (hh:A.handled=none) (hit:s.heap.IsTupleIter it t i) (ht:s.heap.IsTuple t items) (hx:items[i]?=none)
  (hE:∀h' e,Heap.ExtBut it s.heap h'->(∃o,h'.get? e=some o/\o.cls= .type "StopIteration")->E (.ref e) {s with heap:=h'}):wpAny (model prog w) A (Builtin.SmallTypes.nextOf (.ref it)) Q E s:=by
 obtain⟨o,ho,hc,hd⟩:=id hit;obtain⟨ol,DE,_,nl,yb⟩:=ht;unfold Builtin.SmallTypes.nextOf;refine Qg (wpAny_callSpecial?_slot (name:=Str.ofString "__next__") hit.typeIs F.slot_tuple_iterator_next (wpAny_call_entry F.slot_tuple_iterator_next hit.typeIs F.entry_tuple_iterator_next (show wpAny _ _ (field (.ref it) 0 >>=_) _ _ s from Qg (wpAny_field ho hd (x:= .ref t) rfl ?_)) (F.args_tuple_iterator_next_1 _)));show wpAny _ _ (if (Value.ref t==Value.none)=true then _ else _) _ _ s;rw[if_neg (show¬((Value.ref t==Value.none)=true) from Bool.false_ne_true)];refine(show wpAny _ _ (field (.ref it) 1 >>=_) _ _ s from Qg (wpAny_field ho hd (x:= .int i 0) rfl (show wpAny _ _ (seqItems? (.ref t) >>=_) _ _ s from Qg (wpAny_seqItems DE yb ?_))));simp only[Int.toNat_natCast,hx];refine Qg (wpAny_rule (Qg (wpAny_setField ho hd (by simp) (show wpAny _ _ (newExc (.type "StopIteration") [] >>=_) _ _ _ from Qg ?_))));simp only[newExc,newTuple];refine Qg (wpAny_newObj_type (Qg (m:=firstArgMember _ _) (wpAny_of_eq (a:=Value.none) (by first | rfl | (simp only[firstArgMember];rfl)) (wpAny_newObj_type ?_ (by size_fits)))) (by size_fits));simp only[raiseNew];refine Qg (wpAny_handled ?_)
 first | rw[show A.in1.handled=none from hh] | rw[hh]
 exact Qg (Qj (wpAny_throw (hE _ _ (((Heap.SameBut.update ..).extBut.push _).push _) ⟨_,Qs _ rfl,rfl⟩)))
theorem ck {b:Bool} {it l:Addr} {i:Nat} {items:Array Value} {x:Value} {Q:Value->Shared->Prop} (hit:a8 b s.heap it l i) (hl:cu b s.heap l items) (hx:items[i]?=some x)
  (hQ:∀h',a8 b h' it l (i + 1)->Heap.SameBut it s.heap h'->Q x {s with heap:=h'}):wpAny (model prog w) A (Builtin.SmallTypes.nextOf (.ref it)) Q E s:=by
 cases b with
 | false=>exact wpAny_nextOf_list_item hit hl hx hQ
 | true=>exact sP hit hl hx hQ
theorem ez {b:Bool} {it l:Addr} {i:Nat} {items:Array Value} {Q:Value->Shared->Prop} (hh:A.handled=none) (hit:a8 b s.heap it l i) (hl:cu b s.heap l items) (hx:items[i]?=none)
  (hE:∀h' e,Heap.ExtBut it s.heap h'->(∃o,h'.get? e=some o/\o.cls= .type "StopIteration")->E (.ref e) {s with heap:=h'}):wpAny (model prog w) A (Builtin.SmallTypes.nextOf (.ref it)) Q E s:=by
 cases b with
 | false=>exact wpAny_nextOf_list_end hh hit hl hx hE
 | true=>exact wc hh hit hl hx hE
end
structure bP (z TO i1 i2 l:Addr):Prop where
 z:l≠z
 o:l≠TO
 a:l≠i1
 b:l≠i2
section
variable {prog:Program} {w:World} {A:Around} {E:Value->Shared->Prop} {s:Shared}
theorem mZ {b1 b2:Bool} {z TI TO i1 i2 l1 l2:Addr} {k1 k2:Nat} {xs ys:Array Value} {x y a b:Value} {Q:Option Value->Shared->Prop} (D:g0 z TI TO i1 i2) (O1:bP z TO i1 i2 l1) (O2:bP z TO i1 i2 l2)
  (hz:IsZip s.heap z TI TO .none) (Dy:IsPair s.heap TI (.ref i1) (.ref i2)) (KN:IsPair s.heap TO a b) (h1:a8 b1 s.heap i1 l1 k1) (h2:a8 b2 s.heap i2 l2 k2) (cP:cu b1 s.heap l1 xs) (dh:cu b2 s.heap l2 ys) (hx:xs[k1]?=some x) (hy:ys[k2]?=some y)
  (hQ:∀h',IsZip h' z TI TO (rawInt s.heap.objs.size)->IsPair h' TO x y->a8 b1 h' i1 l1 (k1 + 1)->a8 b2 h' i2 l2 (k2 + 1)->IsPair h' s.heap.objs.size x y->
   (∀c o,c≠z->c≠TO->c≠i1->c≠i2->s.heap.get? c=some o->h'.get? c=some o)->Q (some (.ref s.heap.objs.size)) {s with heap:=h'}):wpAny (model prog w) A (pyNext (.ref z)) Q E s:=by
 have hT:s.TypeIs (.ref z) "zip":=⟨_,hz,rfl⟩;unfold pyNext;refine Qg (wpAny_attempt (wpAny_callSpecial?_slot (name:=Str.ofString "__next__") hT F.slot_zip_next (wpAny_call_entry F.slot_zip_next hT F.entry_zip_next ?_ (F.args_zip_next_1 _))));refine(show wpAny _ _ (field (.ref z) 2 >>=_) _ _ _ from Qg (wpAny_field hz rfl (x:= .bool false) rfl (show wpAny _ _ (field (.ref z) 3 >>=_) _ _ _ from Qg (wpAny_field hz rfl (x:= .ref TI) rfl (Qg (wpAny_seqItems Dy rfl (show wpAny _ _ (Builtin.SmallTypes.ownedTupleIsFree (.ref z) >>=_) _ _ _ from Qg ?_)))))));unfold Builtin.SmallTypes.ownedTupleIsFree;refine Qg (wpAny_field hz rfl (x:= .none) rfl (Qj ?_));simp only[if_true];refine Qg (wpAny_rule (Qg (wpAny_field hz rfl (x:= .ref TO) rfl (Qg (QS hz (by simp) λg1 z1 e1=>Qg ?_)))))
 replace z1:IsZip g1 z TI TO .ellipsis:=z1
 simp only[List.zipIdx_cons,List.zipIdx_nil,List.forIn_cons,List.forIn_nil];refine Qg (Qg (wpAny_onRaise (show wpAny _ _ (Builtin.SmallTypes.nextOf (.ref i1) >>=_) _ _ _ from Qg (ck (h1.at λo q=>e1.extBut _ o D.i1z q) (cP.at λo q=>e1.extBut _ o O1.z q) hx λg2 j1 e2=>Qj ?_))));have t2:IsPair g2 TO a b:=e2.extBut _ _ D.TOi1 (e1.extBut _ _ D.TOz KN);refine Qg (wpAny_seqItems t2 rfl (Qg (wpAny_updateSeq_pair t2 λg3 t3 e3=>Qg (wpAny_letGo (Qj ?_)))))
 replace t3:IsPair g3 TO x b:=t3
 refine Qg (Qg (wpAny_onRaise (show wpAny _ _ (Builtin.SmallTypes.nextOf (.ref i2) >>=_) _ _ _ from Qg (ck (h2.at λo q=>e3.extBut _ o D.TOi2.symm (e2.extBut _ o D.i12.symm (e1.extBut _ o D.i2z q))) (dh.at λo q=>e3.extBut _ o O2.o (e2.extBut _ o O2.a (e1.extBut _ o O2.z q))) hy λg4 j2 e4=>Qj ?_))));have t4:IsPair g4 TO x b:=e4.extBut _ _ D.TOi2 t3;refine Qg (wpAny_seqItems t4 rfl (Qg (wpAny_updateSeq_pair t4 λg5 t5 e5=>Qg (wpAny_letGo (Qj (Qj ?_))))))
 replace t5:IsPair g5 TO x y:=t5
 refine Qg (wpAny_seqItems t5 rfl (Qg (wpAny_newTuple ?_)));have sz:g5.objs.size=s.heap.objs.size:=by rw[e5.1,e4.1,e3.1,e2.1,e1.1]
 have z5:IsZip g5 z TI TO .ellipsis:=e5.extBut _ _ D.TOz.symm (e4.extBut _ _ D.i2z.symm (e3.extBut _ _ D.TOz.symm (e2.extBut _ _ D.i1z.symm z1)));have old:∀c o,c≠z->c≠TO->c≠i1->c≠i2->s.heap.get? c=some o->g5.get? c=some o:=λc o c1 c2 c3 c4 q=>e5.extBut _ _ c2 (e4.extBut _ _ c4 (e3.extBut _ _ c2 (e2.extBut _ _ c3 (e1.extBut _ _ c1 q))))
 have n1:a8 b1 g5 i1 l1 (k1 + 1):=j1.at λo q=>e5.extBut _ o D.TOi1.symm (e4.extBut _ o D.i12 (e3.extBut _ o D.TOi1.symm q))
 have n2:a8 b2 g5 i2 l2 (k2 + 1):=j2.at λo q=>e5.extBut _ o D.TOi2.symm q
 have NL:z < g5.objs.size:=Qv z5;refine(show wpAny _ _ (Builtin.SmallTypes.ownedTupleHandOut (.ref z) (.ref g5.objs.size) >>=_) _ _ _ from Qg ?_);unfold Builtin.SmallTypes.ownedTupleHandOut;have z6:IsZip (g5.push {cls:= .type "tuple",data:= .seq #[x,y]}) z TI TO .ellipsis:=Qi _ z5;refine Qg (QS z6 (by simp) λg7 z7 e7=>?_)
 replace z7:IsZip g7 z TI TO (rawInt g5.objs.size):=z7
 refine QS z7 (by simp) λg8 z8 e8=>?_
 replace z8:IsZip g8 z TI TO (rawInt g5.objs.size):=z8
 have up:∀c o,c≠z->g5.get? c=some o->g8.get? c=some o:=λc o c1 q=>e8.extBut _ _ c1 (e7.extBut _ _ c1 (Qi _ q))
 have t8:IsPair g8 g5.objs.size x y:=e8.extBut _ _ (Nat.ne_of_gt NL) (e7.extBut _ _ (Nat.ne_of_gt NL) (Qs _ rfl));rw[sz] at z8 t8;refine Qj ⟨_,rfl,Qj ?_⟩;show Q (some (.ref g5.objs.size)) _;rw[sz];exact hQ g8 z8 (up _ _ D.TOz t5) (n1.at λo q=>up _ o D.i1z q) (n2.at λo q=>up _ o D.i2z q) t8 λc o c1 c2 c3 c4 q=>up c o c1 (old c o c1 c2 c3 c4 q)
theorem qK {b1 b2:Bool} {z TI TO i1 i2 l1 l2:Addr} {k1 k2:Nat} {xs ys:Array Value} {a b:Value} {Q:Option Value->Shared->Prop} (hh:A.handled=none) (D:g0 z TI TO i1 i2) (O1:bP z TO i1 i2 l1) (O2:bP z TO i1 i2 l2)
  (hz:IsZip s.heap z TI TO .none) (Dy:IsPair s.heap TI (.ref i1) (.ref i2)) (KN:IsPair s.heap TO a b) (h1:a8 b1 s.heap i1 l1 k1) (h2:a8 b2 s.heap i2 l2 k2) (cP:cu b1 s.heap l1 xs) (dh:cu b2 s.heap l2 ys) (pK:xs[k1]?=none\/ys[k2]?=none)
  (hQ:∀h',(∀c o,c≠z->c≠TO->c≠i1->c≠i2->s.heap.get? c=some o->h'.get? c=some o)->Q none {s with heap:=h'}):wpAny (model prog w) A (pyNext (.ref z)) Q E s:=by
 have hT:s.TypeIs (.ref z) "zip":=⟨_,hz,rfl⟩;unfold pyNext;refine Qg (wpAny_attempt (wpAny_callSpecial?_slot (name:=Str.ofString "__next__") hT F.slot_zip_next (wpAny_call_entry F.slot_zip_next hT F.entry_zip_next ?_ (F.args_zip_next_1 _))));have stop:∀(h':Heap) (e:Addr),(∀c o,c≠z->c≠TO->c≠i1->c≠i2->s.heap.get? c=some o->h'.get? c=some o)->(∃o,h'.get? e=some o/\o.cls= .type "StopIteration")->wpAny (model prog w) A (isInstance (.ref e) (.type "StopIteration")) (λr s'=>r=true/\Q none s') E {s with heap:=h'}:=λh' e kk he=>by obtain⟨o,ho,hc⟩:=he;exact wpAny_isInstance (T:="StopIteration") (b:=true) ⟨o,ho,hc⟩ isSubtype_stop ⟨rfl,hQ _ kk⟩
 refine(show wpAny _ _ (field (.ref z) 2 >>=_) _ _ _ from Qg (wpAny_field hz rfl (x:= .bool false) rfl (show wpAny _ _ (field (.ref z) 3 >>=_) _ _ _ from Qg (wpAny_field hz rfl (x:= .ref TI) rfl (Qg (wpAny_seqItems Dy rfl (show wpAny _ _ (Builtin.SmallTypes.ownedTupleIsFree (.ref z) >>=_) _ _ _ from Qg ?_)))))));unfold Builtin.SmallTypes.ownedTupleIsFree;refine Qg (wpAny_field hz rfl (x:= .none) rfl (Qj ?_));simp only[if_true];refine Qg (wpAny_rule (Qg (wpAny_field hz rfl (x:= .ref TO) rfl (Qg (QS hz (by simp) λg1 z1 e1=>Qg ?_)))))
 replace z1:IsZip g1 z TI TO .ellipsis:=z1
 simp only[List.zipIdx_cons,List.zipIdx_nil,List.forIn_cons,List.forIn_nil];refine Qg (Qg (wpAny_onRaise ?_));show wpAny _ _ (Builtin.SmallTypes.nextOf (.ref i1) >>=_) _ _ _;cases hx:xs[k1]? with
 | none=>
  refine Qg (ez hh (h1.at λo q=>e1.extBut _ o D.i1z q) (cP.at λo q=>e1.extBut _ o O1.z q) hx λg2 e e2 he=>?_);obtain⟨oe,DD,Cn⟩:=he;have z2:IsZip g2 z TI TO .ellipsis:=e2 _ _ D.i1z.symm z1;have K2:e≠z:=λx=>by subst x;rw[z2] at DD;cases DD;simp at Cn
  refine QS z2 (by simp) λg3 _ e3=>?_
  refine Qg (wpAny_mono (stop g3 e (λc o c1 _ c3 _ x=>e3.extBut _ _ c1 (e2 _ _ c3 (e1.extBut _ _ c1 x))) ⟨oe,e3.extBut _ _ K2 DD,Cn⟩) (λr s' q=>?_) λ_ _ q=>q);obtain⟨rfl,q⟩:=q;exact Qj q
 | some x=>
  have hy:ys[k2]?=none:=by rcases pK with h | h;rw[hx] at h;cases h;exact h
  refine Qg (ck (h1.at λo q=>e1.extBut _ o D.i1z q) (cP.at λo q=>e1.extBut _ o O1.z q) hx λg2 j1 e2=>Qj ?_);have t2:IsPair g2 TO a b:=e2.extBut _ _ D.TOi1 (e1.extBut _ _ D.TOz KN);refine Qg (wpAny_seqItems t2 rfl (Qg (wpAny_updateSeq_pair t2 λg3 t3 e3=>Qg (wpAny_letGo (Qj ?_)))));refine Qg (Qg (wpAny_onRaise (show wpAny _ _ (Builtin.SmallTypes.nextOf (.ref i2) >>=_) _ _ _ from Qg (ez hh (h2.at λo q=>e3.extBut _ o D.TOi2.symm (e2.extBut _ o D.i12.symm (e1.extBut _ o D.i2z q))) (dh.at λo q=>e3.extBut _ o O2.o (e2.extBut _ o O2.a (e1.extBut _ o O2.z q))) hy λg4 e e4 he=>?_))));obtain⟨oe,DD,Cn⟩:=he;have z4:IsZip g4 z TI TO .ellipsis:=e4 _ _ D.i2z.symm (e3.extBut _ _ D.TOz.symm (e2.extBut _ _ D.i1z.symm z1));have K2:e≠z:=λx=>by subst x;rw[z4] at DD;cases DD;simp at Cn
  refine QS z4 (by simp) λg5 _ e5=>?_
  refine Qg (wpAny_mono (stop g5 e (λc o c1 c2 c3 c4 x=>e5.extBut _ _ c1 (e4 _ _ c4 (e3.extBut _ _ c2 (e2.extBut _ _ c3 (e1.extBut _ _ c1 x))))) ⟨oe,e5.extBut _ _ K2 DD,Cn⟩) (λr s' q=>?_) λ_ _ q=>q);obtain⟨rfl,q⟩:=q;exact Qj q
end
noncomputable def gr:Bool->Addr->Obj
 | false,l=>{cls:= .type "list_iterator",data:= .fields #[.ref l,.int 0 0]}
 | true,l=>{cls:= .type "tuple_iterator",data:= .fields #[.ref l,.int 0 0]}
theorem kK:∀{b:Bool} {h:Heap} {i l:Addr},h.get? i=some (gr b l)->a8 b h i l 0
 | false,_,_,_,e=>⟨_,e,rfl,rfl⟩
 | true,_,_,_,e=>⟨_,e,rfl,rfl⟩
theorem i8 (b:Bool) (l:Addr):(gr b l).isFreed=false:=by cases b <;> rfl
noncomputable abbrev JP (h:Heap) (b1:Bool) (l1:Addr):Heap:=h.push (gr b1 l1)
noncomputable abbrev JQ (h:Heap) (b1 b2:Bool) (l1 l2:Addr):Heap:=(JP h b1 l1).push (gr b2 l2)
noncomputable abbrev JR (h:Heap) (b1 b2:Bool) (l1 l2:Addr):Heap:=(JQ h b1 b2 l1 l2).push {cls:= .type "tuple",data:= .seq #[.ref h.objs.size,.ref (JP h b1 l1).objs.size]}
noncomputable abbrev JS (h:Heap) (b1 b2:Bool) (l1 l2:Addr):Heap:=(JR h b1 b2 l1 l2).push {cls:= .type "tuple",data:= .seq #[.none,.none]}
noncomputable abbrev FR (h:Heap) (b1 b2:Bool) (l1 l2:Addr):Heap:=(JS h b1 b2 l1 l2).push {cls:= .type "zip",data:= .fields #[.none,.bool false,.bool false,.ref (JQ h b1 b2 l1 l2).objs.size,.ref (JR h b1 b2 l1 l2).objs.size]}
theorem cu.push {b:Bool} {h:Heap} {l:Addr} {xs:Array Value} (x:cu b h l xs) (o:Obj):cu b (h.push o) l xs:=x.at λ_ e=>Qi _ e
theorem zP (b1 b2:Bool) (l1 l2:Addr) (xs ys:Array Value):
  Meets (Builtin.«zip.__new__» ⟨[.type "zip",.ref l1,.ref l2],[]⟩) (λ_ R s=>cu b1 s.heap l1 xs/\cu b2 s.heap l2 ys/\R (.ok (.ret (.ref (JS s.heap b1 b2 l1 l2).objs.size))) {s with heap:=FR s.heap b1 b2 l1 l2}):=
 .of_wp λprog w A R s h=>by
  obtain⟨hp,g,d,tk,os⟩:=s;obtain⟨cP,dh,h⟩:=h;have vE:=sub_zip;have Jm:=dh.push (gr b1 l1);cases b1 <;> cases b2
  ·have k1:Heap.IsList (Shared.heap ⟨hp,g,d,tk,os⟩) l1 xs:=cP;have k2:Heap.IsList (Shared.heap ⟨hp.push {cls:= .type "list_iterator",data:= .fields #[.ref l1,.int 0 0]},g,d,tk,os⟩) l2 ys:=Jm
   wp_walk using wpAny_pyIter_list k1,wpAny_pyIter_list k2
   exact⟨_,rfl,h⟩
  ·have k1:Heap.IsList (Shared.heap ⟨hp,g,d,tk,os⟩) l1 xs:=cP;have k2:Heap.IsTuple (Shared.heap ⟨hp.push {cls:= .type "list_iterator",data:= .fields #[.ref l1,.int 0 0]},g,d,tk,os⟩) l2 ys:=Jm
   wp_walk using wpAny_pyIter_list k1,wpAny_pyIter_tuple k2
   exact⟨_,rfl,h⟩
  ·have k1:Heap.IsTuple (Shared.heap ⟨hp,g,d,tk,os⟩) l1 xs:=cP;have k2:Heap.IsList (Shared.heap ⟨hp.push {cls:= .type "tuple_iterator",data:= .fields #[.ref l1,.int 0 0]},g,d,tk,os⟩) l2 ys:=Jm
   wp_walk using wpAny_pyIter_tuple k1,wpAny_pyIter_list k2
   exact⟨_,rfl,h⟩
  ·have k1:Heap.IsTuple (Shared.heap ⟨hp,g,d,tk,os⟩) l1 xs:=cP;have k2:Heap.IsTuple (Shared.heap ⟨hp.push {cls:= .type "tuple_iterator",data:= .fields #[.ref l1,.int 0 0]},g,d,tk,os⟩) l2 ys:=Jm
   wp_walk using wpAny_pyIter_tuple k1,wpAny_pyIter_tuple k2
   exact⟨_,rfl,h⟩
section
variable {prog:Program} {w:World} {A:Around} {E:Value->Shared->Prop} {s:Shared}
theorem mh {b1 b2:Bool} {l1 l2:Addr} {xs ys:Array Value} {Q:Value->Shared->Prop} (cP:cu b1 s.heap l1 xs) (dh:cu b2 s.heap l2 ys)
  (h:∀h',IsZip h' (s.heap.objs.size + 4) (s.heap.objs.size + 2) (s.heap.objs.size + 3) .none->IsPair h' (s.heap.objs.size + 2) (.ref s.heap.objs.size) (.ref (s.heap.objs.size + 1))->IsPair h' (s.heap.objs.size + 3) .none .none->
   a8 b1 h' s.heap.objs.size l1 0->a8 b2 h' (s.heap.objs.size + 1) l2 0->(∀c o,s.heap.get? c=some o->h'.get? c=some o)->Q (.ref (s.heap.objs.size + 4)) {s with heap:=h'}):wpAny (model prog w) A (call (.type "zip") [.ref l1,.ref l2]) Q E s:=by
 refine callType_new F.called_zip (by decide) (F.typeCall_zip_2 _ _) (F.newCall_zip_2 _ _) (λobj=>F.args_object_init_3 obj _ _) F.entry_zip_new (zP b1 b2 l1 l2 xs ys) ⟨cP,dh,?_⟩;have y1:(JP s.heap b1 l1).objs.size=s.heap.objs.size + 1:=QP ..;have y2:(JQ s.heap b1 b2 l1 l2).objs.size=s.heap.objs.size + 2:=by rw[QP,y1]
 have y3:(JR s.heap b1 b2 l1 l2).objs.size=s.heap.objs.size + 3:=by rw[QP,y2]
 have y4:(JS s.heap b1 b2 l1 l2).objs.size=s.heap.objs.size + 4:=by rw[QP,y3]
 have g5:(FR s.heap b1 b2 l1 l2).get? (JS s.heap b1 b2 l1 l2).objs.size=some _:=Qs _ rfl;have g4:(FR s.heap b1 b2 l1 l2).get? (JR s.heap b1 b2 l1 l2).objs.size=some _:=Qi _ (Qs _ rfl);have g3:(FR s.heap b1 b2 l1 l2).get? (JQ s.heap b1 b2 l1 l2).objs.size=some _:=Qi _ (Qi _ (Qs _ rfl));have g2:(FR s.heap b1 b2 l1 l2).get? (JP s.heap b1 l1).objs.size=some _:=Qi _ (Qi _ (Qi _ (Qs _ (i8 b2 l2))));have g1:(FR s.heap b1 b2 l1 l2).get? s.heap.objs.size=some _:=Qi _ (Qi _ (Qi _ (Qi _ (Qs _ (i8 b1 l1)))));show _/\_;rw[y2,y3,y4] at g5;rw[y1,y2] at g3;rw[y3] at g4;rw[y1] at g2;rw[y4];exact⟨⟨_,g5,rfl⟩,h _ g5 g3 g4 (kK g1) (kK g2) λc o x=>Qi _ (Qi _ (Qi _ (Qi _ (Qi _ x))))⟩
end
noncomputable def iw:Bool->List V->HO
 | false,xs=> .lst xs
 | true,xs=> .tup xs
theorem nP {b:Bool} {xs ys:List V} (h:iw b xs=iw b ys):xs=ys:=by
 cases b with
 | false=>injection h
 | true=>injection h
noncomputable def JZ (b1 b2:Bool) (l1 l2:Addr):It where
 go:=λi H=>∃xs ys x y,H l1=some (iw b1 xs)/\H l2=some (iw b2 ys)/\xs[i]?=some x/\ys[i]?=some y
 yld:=λi H v H'=>∃p x y,v= .ref p/\H p=none/\H'=upd H p (.tup [x,y])/\∀xs ys,H l1=some (iw b1 xs)->H l2=some (iw b2 ys)->xs[i]?=some x/\ys[i]?=some y
 stop:=λi H=>∃xs ys,H l1=some (iw b1 xs)/\H l2=some (iw b2 ys)/\(xs.length<=i\/ys.length<=i)
theorem bp {X:Cx} {pins:List (Addr×Obj)} {s:Shared} {σ:L2.St} {H:Hp} (I:Inv X pins σ H s) {b:Bool} {l:Addr} {xs:List V} (h:H l=some (iw b xs)):∃its:List Value,ax xs its/\cu b s.heap l its.toArray:=by
 cases b with
 | false=>obtain⟨its,r,p,_⟩:=I.list (.inl (.inl h));exact⟨its,r,p.isList⟩
 | true=>obtain⟨its,r,p,_⟩:=I.tuple (.inl (.inl h));exact⟨its,r,p⟩
noncomputable def PF (b1 b2:Bool) (z TI TO i1 i2 l1 l2:Addr) (i:Nat) (h:Heap):Prop:=IsZip h z TI TO .none/\IsPair h TI (.ref i1) (.ref i2)/\(∃a b,IsPair h TO a b)/\a8 b1 h i1 l1 i/\a8 b2 h i2 l2 i
theorem wj {P:Program} {w:World} {K:PySem.W.Frag} {es:List Expr} {k:Nat} {tp:Pos} {b1 b2:Bool} {z TI TO i1 i2 l1 l2:Addr} (ap:g0 z TI TO i1 i2):
  Turn P w K (.Tuple es k tp) (JZ b1 b2 l1 l2) [z,TI,TO,i1,i2] z (PF b1 b2 z TI TO i1 i2 l1 l2) where
 mem:=by simp
 obj:=λi h st b hb=>by
  obtain⟨s1,s2,⟨a,b',s3⟩,s4,s5⟩:=st;simp only[Qx,Qy,or_false] at hb;rcases hb with rfl | rfl | rfl | rfl | rfl
  ·exact⟨_,s1,λv q=>by cases q⟩
  ·exact⟨_,s2,λv q=>by cases q⟩
  ·exact⟨_,s3,λv q=>by cases q⟩
  ·exact s4.obj
  ·exact s5.obj
 keep:=λi h h' st kk=>by obtain⟨s1,s2,⟨a,b',s3⟩,s4,s5⟩:=st;exact⟨kk z (by simp) _ s1,kk TI (by simp) _ s2,⟨a,b',kk TO (by simp) _ s3⟩,s4.at λo e=>kk i1 (by simp) o e,s5.at λo e=>kk i2 (by simp) o e⟩
 item:=by
  intro X hP hw hK hc i pins s σ H E I hf st hg;subst hP hw hK;obtain⟨xs,ys,x,y,cP,dh,hx,hy⟩:=hg;obtain⟨s1,s2,⟨a,b',s3⟩,s4,s5⟩:=st;obtain⟨cY,r1,p1⟩:=bp I cP;obtain⟨aM,r2,p2⟩:=bp I dh;obtain⟨u1,ua,HR⟩:=r1.get hx;obtain⟨u2,Lp,L9⟩:=r2.get hy;have ne:∀{l:Addr} {o:HO},H l=some o->∀b∈[z,TI,TO,i1,i2],l≠b:=λ {l o} hl b hb e=>by subst e;rw[(hf l hb).1] at hl;cases hl
  have off:∀{l:Addr} {o:HO},H l=some o->bP z TO i1 i2 l:=λ {l o} hl=>⟨ne hl z (by simp),ne hl TO (by simp),ne hl i1 (by simp),ne hl i2 (by simp)⟩
  refine mZ ap (off cP) (off dh) s1 s2 s3 s4 s5 p1 p2 (by simpa using ua) (by simpa using Lp) λh' a1 a2 a3 a4 a5 a7=>⟨_,rfl,?_⟩
  refine wpAny_letOwnedTupleGo_zip (s:={s with heap:=h'}) a1 λh2 c1 c2=>?_
  have KR:s.heap.objs.size≠z:=λe=>by have:=Qv s1;rw[<-e] at this;exact Nat.lt_irrefl _ this
  have KM:IsPair h2 TI (.ref i1) (.ref i2):=(c2.2 TI ap.TIz).trans (a7 TI _ ap.TIz ap.TITO ap.TIi1 ap.TIi2 s2);have GB:h2.get? s.heap.objs.size=some {cls:= .type "tuple",data:= .seq #[u1,u2]}:=(c2.2 _ KR).trans a5;have kk:∀b o,b∉[z,TI,TO,i1,i2]->s.heap.get? b=some o->h2.get? b=some o:=λb o hb e=>by simp only[Qx,Qy,or_false,not_or] at hb;exact(c2.2 b hb.1).trans (a7 b o hb.1 hb.2.2.1 hb.2.2.2.1 hb.2.2.2.2 e)
  have lt:∀{b:Addr} {o:Obj},s.heap.get? b=some o->b≠s.heap.objs.size:=λe=>QQ (Qv e)
  have oW:∀b u,H b=some u->b∉[z,TI,TO,i1,i2]:=λb u e hb=>by rw[(hf b hb).1] at e;cases e
  have kG:H s.heap.objs.size=none:=I.fresh;have I2:Inv X pins σ (upd H s.heap.objs.size (.tup [x,y])) {s with heap:=h2,toks:=s.toks}:=by
   refine I.step (g':=s.gens) (d':=s.drawn) (ch:=[z,TI,TO,i1,i2]) (λb hb=>⟨(hf b hb).2.2.2.1,(hf b hb).2.1,(hf b hb).2.2.2.2.1,(hf b hb).2.2.2.2.2⟩) (λb o _ _ hb e _=>kk b o hb e) (λb o _ _ hb e _=>⟨o.slots,kk b o hb e⟩)
    (λb o hb e n=>by rw[aq (lt e)];exact n) (λb o hb e=>⟨o,kk b o hb e⟩) (λb zs e=>by rw[aq (aw e kG)];exact e) (λb o u e=>by rw[aq (aw e kG)];exact e)
    (λb ps e=>⟨#[],by rw[aq (aw e kG),e];simp⟩) (λm hm=>?_) (λb u e=>?_) I.bare
   ·obtain⟨o,df,ep,ho,rr⟩:=hm;exact⟨o,df,ep,kk _ o (λhb=>(hf _ hb).2.1 rfl) ho,rr⟩
   ·by_cases hb:b=s.heap.objs.size
    ·subst hb;rw[aB] at e;cases e;exact⟨by show 2<=sizeLine;decide,[u1,u2],.cons HR (.cons L9 .nil),_,GB,rfl,0,rfl⟩
    ·rw[aq hb] at e;refine(I.hok b u e).ji (λc v hc q=>kk c v ?_ q) (λc q=>by rw[aq (aw q kG)];exact q) λc zs q=>by rw[aq (aw q kG)];exact q
     rcases hc with rfl | hc
     ·exact oW c u e
     ·exact oW c _ hc
  refine⟨.ref s.heap.objs.size,_,I2,rfl,⟨s.heap.objs.size,x,y,rfl,kG,rfl,λoN JO q1 q2=>?_⟩,⟨c1,KM,⟨u1,u2,(c2.2 TO ap.TOz).trans a2⟩,a3.at λo e=>(c2.2 i1 ap.i1z).trans e,a4.at λo e=>(c2.2 i2 ap.i2z).trans e⟩,λb hb=>?_⟩
  ·rw[cP] at q1;rw[dh] at q2;rw[nP (Option.some.inj q1).symm,nP (Option.some.inj q2).symm];exact⟨hx,hy⟩
  ·rw[aq (λe=>?_)]
   ·exact(hf b hb).1
   ·have q:∃o,s.heap.get? b=some o:=by
     simp only[Qx,Qy,or_false] at hb;rcases hb with rfl | rfl | rfl | rfl | rfl
     ·exact⟨_,s1⟩
     ·exact⟨_,s2⟩
     ·exact⟨_,s3⟩
     ·obtain⟨o,e,_⟩:=s4.obj;exact⟨o,e⟩
     ·obtain⟨o,e,_⟩:=s5.obj;exact⟨o,e⟩
    obtain⟨o,q⟩:=q;exact lt q e
 done:=by
  intro X hP hw hK hc i pins s σ H E I hf st hg;subst hP hw hK;obtain⟨xs,ys,cP,dh,pK⟩:=hg;obtain⟨s1,s2,⟨a,b',s3⟩,s4,s5⟩:=st;obtain⟨cY,r1,p1⟩:=bp I cP;obtain⟨aM,r2,p2⟩:=bp I dh;have ne:∀{l:Addr} {o:HO},H l=some o->∀b∈[z,TI,TO,i1,i2],l≠b:=λ {l o} hl b hb e=>by subst e;rw[(hf l hb).1] at hl;cases hl
  have off:∀{l:Addr} {o:HO},H l=some o->bP z TO i1 i2 l:=λ {l o} hl=>⟨ne hl z (by simp),ne hl TO (by simp),ne hl i1 (by simp),ne hl i2 (by simp)⟩
  have e1:=r1.length;have e2:=r2.length;refine qK (I.ok.hd hc) ap (off cP) (off dh) s1 s2 s3 s4 s5 p1 p2 (by simp;lia) λh' kk=>⟨rfl,?_⟩
  have oW:∀b u,H b=some u->b∉[z,TI,TO,i1,i2]:=λb u e hb=>by rw[(hf b hb).1] at e;cases e
  have jO:∀b o,b∉[z,TI,TO,i1,i2]->s.heap.get? b=some o->h'.get? b=some o:=λb o hb e=>by simp only[Qx,Qy,or_false,not_or] at hb;exact kk b o hb.1 hb.2.2.1 hb.2.2.2.1 hb.2.2.2.2 e
  refine I.step (g':=s.gens) (d':=s.drawn) (t':=s.toks) (h':=h') (ch:=[z,TI,TO,i1,i2]) (λb hb=>⟨(hf b hb).2.2.2.1,(hf b hb).2.1,(hf b hb).2.2.2.2.1,(hf b hb).2.2.2.2.2⟩) (λb o _ _ hb e _=>jO b o hb e) (λb o _ _ hb e _=>⟨o.slots,jO b o hb e⟩)
   (λb o hb e n=>n) (λb o hb e=>⟨o,jO b o hb e⟩) (λb zs e=>e) (λb o u e=>e) (λb ps e=>⟨#[],by rw[e];simp⟩) (λm hm=>?_) (λb u e=>?_) I.bare
  ·obtain⟨o,df,ep,ho,rr⟩:=hm;exact⟨o,df,ep,jO _ o (λhb=>(hf _ hb).2.1 rfl) ho,rr⟩
  ·refine(I.hok b u e).ji (λc v hc q=>jO c v ?_ q) (λc q=>q) λc zs q=>q
   rcases hc with rfl | hc
   ·exact oW c u e
   ·exact oW c _ hc
 self:=λ_ _ _ _ _ st h=>wpAny_pyIter_zip st.1 h
noncomputable def He (ta:TA):TI:=λσ H R=>ta σ H λvs H1=>∃b1 b2 l1 l2 xs ys,vs=[.ref l1,.ref l2]/\H1 l1=some (iw b1 xs)/\H1 l2=some (iw b2 ys)/\R (JZ b1 b2 l1 l2) H1
theorem Bz {X:Cx} {es:List Expr} {k:Nat} {tp:Pos} {a b:Expr} {ta:TA} {p pos:Pos} (hg:Gl X "zip") (hm:X.mg "zip"=none) (ha:PA X [a,b] ta) (hs:starEach [a,b] X.env=[(false,eval a X.env),(false,eval b X.env)]:=by rfl) (rJ:starEach [b] X.env=[(false,eval b X.env)]:=by rfl):
  PI X (.Tuple es k tp) (.Call (.Name "zip" p) [a,b] [] pos) (He ta):=by
 intro pins s σ H R I h;refine Call_ (d7 I hg hm boot_zip (PyProof.Rows.callWith_type1 (bN (ha pos pins s σ H _ I h) λus s1 ⟨vs,H1,I1,r1,q1⟩=>?_) (by rw[hs,rJ]) (by rw[rJ];rfl)));obtain⟨b1,b2,l1,l2,xs,ys,e,e1,e2,q⟩:=q1;subst e;obtain⟨u,v,rfl,ru,rv⟩:=r1.two;cases ru;cases rv;obtain⟨cY,_,p1⟩:=bp I1 e1;obtain⟨aM,_,p2⟩:=bp I1 e2;refine mh p1 p2 λh' g1 g2 g3 g4 g5 kk=>?_
 refine wpAny_pyIter_zip (s:={s1 with heap:=h'}) g1 ?_;have I2:Inv X pins σ H1 {s1 with heap:=h'}:=I1.kept (t':=s1.toks) kk;refine⟨s1.heap.objs.size + 4,[s1.heap.objs.size + 4,s1.heap.objs.size + 2,s1.heap.objs.size + 3,s1.heap.objs.size,s1.heap.objs.size + 1],_,_,H1,rfl,I2,wj (l1:=l1) (l2:=l2) ⟨?_,?_,?_,?_,?_,?_,?_,?_,?_,?_⟩,⟨g1,g2,⟨_,_,g3⟩,g4,g5⟩,λb hb=>?_,q⟩
 iterate 10 (first | (apply QQ;lia) | (apply Nat.ne_of_gt;lia))
 have iT:s1.heap.objs.size<=b:=by simp only[Qx,Qy,or_false] at hb;rcases hb with h | h | h | h | h <;> (rw[h];first | exact Nat.le_add_right _ _ | exact Qq _)
 exact I1.pF iT (I1.hok.fresh iT)
open AutoSeq1 (wpAny_loadPart')
theorem xy {prog:Program} {w:World} {A:Around} (hh:A.handled=none) (b:Bool) (it l:Addr) (lN:l≠it) (items:Array Value):
  Draws prog w A it [it,l] items.size (λi v=>items[i]?=some v) (λi h=>a8 b h it l i/\cu b h l items) where
 live:=λ_ _ st=>let ⟨o,ho,_⟩:=st.1.obj;⟨o,ho⟩
 frame:=λ_ _ _ st hk=>⟨st.1.at λo e=>hk it (by simp) o e,st.2.at λo e=>hk l (by simp) o e⟩
 item:=λi s Q E hi st hQ=>by
  refine ck st.1 st.2 (x:=items[i]) (by simp[hi]) λh' K7 FK=>?_
  exact hQ _ h' s.toks (by simp[hi]) ⟨K7,st.2.at λo e=>FK.extBut _ o lN e⟩ FK
 done:=λs Q E st hE=>ez hh st.1 st.2 (by simp) hE
theorem vo (b:Bool) (l:Addr) (xs:Array Value):
  Meets (Builtin.«enumerate.__new__» ⟨[.type "enumerate",.ref l],[]⟩) (λ_ R s=>cu b s.heap l xs/\
   R (.ok (.ret (.ref (s.heap.push (gr b l)).objs.size)))
    {s with heap:=(s.heap.push (gr b l)).push {cls:= .type "enumerate",data:= .fields #[.none,.bool false,.ref s.heap.objs.size,rawInt 0,.none,.none]}}):=
 .of_wp λprog w A R s h=>by
  obtain⟨hp,g,d,tk,os⟩:=s;obtain⟨hl,h⟩:=h;have vE:=sub_enumerate;cases b
  ·have hL:Heap.IsList (Shared.heap ⟨hp,g,d,tk,os⟩) l xs:=hl
   wp_walk
   refine wpAny_stack_any λst=>Qj ?_
   split
   ·rename_i c _ _ _ _ _;cases (c==Value.type "enumerate")
    ·wp_walk using wpAny_pyIter_list hL
     exact⟨_,rfl,h⟩
    ·wp_walk using wpAny_pyIter_list hL
     exact⟨_,rfl,h⟩
   ·wp_walk using wpAny_pyIter_list hL
    exact⟨_,rfl,h⟩
  ·have hL:Heap.IsTuple (Shared.heap ⟨hp,g,d,tk,os⟩) l xs:=hl
   wp_walk
   refine wpAny_stack_any λst=>Qj ?_
   split
   ·rename_i c _ _ _ _ _;cases (c==Value.type "enumerate")
    ·wp_walk using wpAny_pyIter_tuple hL
     exact⟨_,rfl,h⟩
    ·wp_walk using wpAny_pyIter_tuple hL
     exact⟨_,rfl,h⟩
   ·wp_walk using wpAny_pyIter_tuple hL
    exact⟨_,rfl,h⟩
section
variable {prog:Program} {w:World} {A:Around} {E:Value->Shared->Prop} {s:Shared}
theorem rb {b:Bool} {l:Addr} {xs:Array Value} {Q:Value->Shared->Prop} (hl:cu b s.heap l xs)
  (h:∀h',IsEnum h' (s.heap.objs.size + 1) s.heap.objs.size 0 .none->a8 b h' s.heap.objs.size l 0->(∀c o,s.heap.get? c=some o->h'.get? c=some o)->Q (.ref (s.heap.objs.size + 1)) {s with heap:=h'}):
  wpAny (model prog w) A (call (.type "enumerate") [.ref l]) Q E s:=by
 refine callType_new F.called_enumerate (by decide) (F.typeCall_enumerate_1 _) (F.newCall_enumerate_1 _) (λobj=>F.args_object_init_2 obj _) F.entry_enumerate_new
  (vo b l xs) ⟨hl,?_⟩
 have hz:(s.heap.push (gr b l)).objs.size=s.heap.objs.size + 1:=QP ..;have he:IsEnum ((s.heap.push (gr b l)).push {cls:= .type "enumerate",data:= .fields #[.none,.bool false,.ref s.heap.objs.size,rawInt 0,.none,.none]}) (s.heap.push (gr b l)).objs.size s.heap.objs.size 0 .none:=Qs _ rfl;have g1:=Qi {cls:= .type "enumerate",data:= .fields #[.none,.bool false,.ref s.heap.objs.size,rawInt 0,.none,.none]} (Qs s.heap (i8 b l));show _/\_;rw[hz] at he;rw[hz];exact⟨⟨_,he,rfl⟩,h _ he (kK g1) λc o x=>Qi _ (Qi _ x)⟩
end
noncomputable def JY (b:Bool) (l:Addr):It where
 go:=λi H=>∃xs x,H l=some (iw b xs)/\xs[i]?=some x
 yld:=λi H v H'=>∃p x,v= .ref p/\H p=none/\H'=upd H p (.tup [.int i,x])/\∀xs,H l=some (iw b xs)->xs[i]?=some x
 stop:=λi H=>∃xs,H l=some (iw b xs)/\xs.length=i
noncomputable def eT (b:Bool) (e it l:Addr) (i:Nat) (h:Heap):Prop:=(∃old,IsEnum h e it i old)/\a8 b h it l i
theorem sQ {P:Program} {w:World} {K:PySem.W.Frag} {es:List Expr} {k:Nat} {tp:Pos} {b:Bool} {e it l:Addr} (ap:e≠it):
  Turn P w K (.Tuple es k tp) (JY b l) [e,it] e (eT b e it l) where
 mem:=by simp
 obj:=λi h st c hb=>by
  obtain⟨⟨old,s1⟩,s4⟩:=st;simp only[Qx,Qy,or_false] at hb;rcases hb with rfl | rfl
  ·exact⟨_,s1,λv q=>by cases q⟩
  ·exact s4.obj
 keep:=λi h h' st kk=>by obtain⟨⟨old,s1⟩,s4⟩:=st;exact⟨⟨old,kk e (by simp) _ s1⟩,s4.at λo q=>kk it (by simp) o q⟩
 item:=by
  intro X hP hw hK hc i pins s σ H E I hf st hg;subst hP hw hK;obtain⟨xs,x,cP,hx⟩:=hg;obtain⟨⟨old,s1⟩,s4⟩:=st;obtain⟨cY,r1,p1⟩:=bp I cP;obtain⟨u1,ua,HR⟩:=r1.get hx;have ne:∀{l:Addr} {o:HO},H l=some o->∀c∈[e,it],l≠c:=λ {l o} hl c hb q=>by subst q;rw[(hf l hb).1] at hl;cases hl
  have cC:i < cY.toArray.size:=by have:=(Qn.mp ua).1;simpa using this
  refine wpAny_pyNext_enum_itemD (xy (A:=X.A.in1) (I.ok.hd hc) b it l (ne cP it (by simp)) cY.toArray) s1 ⟨s4,p1⟩ cC ap (λhm=>?_) λy h' tk hy a1 a2 a3 a4 a5=>⟨_,rfl,?_⟩
  ·rcases Qx.mp hm with q | hm
   ·exact ap q
   ·exact ne cP e (by simp) (QT.mp hm).symm
  have O6:y=u1:=by
   have q:cY.toArray[i]?=some u1:=by simpa using ua
   rw[q] at hy;exact(Option.some.inj hy).symm
  subst O6;refine wpAny_letOwnedTupleGo_enum (s:={s with heap:=h',toks:=tk + 1}) a1 λh2 c1 c2=>?_
  have KR:s.heap.objs.size≠e:=λq=>by have:=Qv s1;rw[<-q] at this;exact Nat.lt_irrefl _ this
  have GB:h2.get? s.heap.objs.size=some {cls:= .type "tuple",data:= .seq #[.int i tk,y]}:=(c2.2 _ KR).trans a3;have kk:∀b o,b∉[e,it]->s.heap.get? b=some o->h2.get? b=some o:=λb o hb q=>by simp only[Qx,Qy,or_false,not_or] at hb;exact(c2.2 b hb.1).trans (a5 b o hb.1 hb.2 q)
  have lt:∀{b:Addr} {o:Obj},s.heap.get? b=some o->b≠s.heap.objs.size:=λe=>QQ (Qv e)
  have oW:∀b u,H b=some u->b∉[e,it]:=λb u q hb=>by rw[(hf b hb).1] at q;cases q
  have kG:H s.heap.objs.size=none:=I.fresh;have I2:Inv X pins σ (upd H s.heap.objs.size (.tup [.int i,x])) {s with heap:=h2,toks:=tk + 1}:=by
   refine I.step (g':=s.gens) (d':=s.drawn) (ch:=[e,it]) (λb hb=>⟨(hf b hb).2.2.2.1,(hf b hb).2.1,(hf b hb).2.2.2.2.1,(hf b hb).2.2.2.2.2⟩) (λb o _ _ hb e _=>kk b o hb e) (λb o _ _ hb e _=>⟨o.slots,kk b o hb e⟩)
    (λb o hb e n=>by rw[aq (lt e)];exact n) (λb o hb e=>⟨o,kk b o hb e⟩) (λb zs e=>by rw[aq (aw e kG)];exact e) (λb o u e=>by rw[aq (aw e kG)];exact e)
    (λb ps e=>⟨#[],by rw[aq (aw e kG),e];simp⟩) (λm hm=>?_) (λb u q=>?_) I.bare
   ·obtain⟨o,df,ep,ho,rr⟩:=hm;exact⟨o,df,ep,kk _ o (λhb=>(hf _ hb).2.1 rfl) ho,rr⟩
   ·by_cases hb:b=s.heap.objs.size
    ·subst hb;rw[aB] at q;cases q;exact⟨by show 2<=sizeLine;decide,[.int i tk,y],.cons ⟨_,rfl⟩ (.cons HR .nil),_,GB,rfl,0,rfl⟩
    ·rw[aq hb] at q;refine(I.hok b u q).ji (λc v hc z=>kk c v ?_ z) (λc z=>by rw[aq (aw z kG)];exact z) λc zs z=>by rw[aq (aw z kG)];exact z
     rcases hc with rfl | hc
     ·exact oW c u q
     ·exact oW c _ hc
  refine⟨.ref s.heap.objs.size,_,I2,rfl,⟨s.heap.objs.size,x,rfl,kG,rfl,λoN q1=>?_⟩,⟨⟨_,by simpa using c1⟩,a2.1.at λo q=>(c2.2 it ap.symm).trans q⟩,λb hb=>?_⟩
  ·rw[cP] at q1;rw[nP (Option.some.inj q1).symm];exact hx
  ·rw[aq (λq=>?_)]
   ·exact(hf b hb).1
   ·have z:∃o,s.heap.get? b=some o:=by
     simp only[Qx,Qy,or_false] at hb;rcases hb with rfl | rfl
     ·exact⟨_,s1⟩
     ·obtain⟨o,e,_⟩:=s4.obj;exact⟨o,e⟩
    obtain⟨o,z⟩:=z;exact lt z q
 done:=by
  intro X hP hw hK hc i pins s σ H E I hf st hg;subst hP hw hK;obtain⟨xs,cP,pK⟩:=hg;obtain⟨⟨old,s1⟩,s4⟩:=st;obtain⟨cY,r1,p1⟩:=bp I cP;have ne:∀{l:Addr} {o:HO},H l=some o->∀c∈[e,it],l≠c:=λ {l o} hl c hb q=>by subst q;rw[(hf l hb).1] at hl;cases hl
  have e1:=r1.length;have hn:cY.toArray.size=i:=by simp;lia
  refine wpAny_pyNext_enum_endD (xy (A:=X.A.in1) (I.ok.hd hc) b it l (ne cP it (by simp)) cY.toArray) s1 (by rw[hn];exact⟨s4,p1⟩) λh' kk=>⟨rfl,?_⟩
  have oW:∀b u,H b=some u->b∉[e,it]:=λb u q hb=>by rw[(hf b hb).1] at q;cases q
  have jO:∀b o,b∉[e,it]->s.heap.get? b=some o->h'.get? b=some o:=λb o hb q=>by simp only[Qx,Qy,or_false,not_or] at hb;exact kk b o hb.2 q
  refine I.step (g':=s.gens) (d':=s.drawn) (t':=s.toks) (h':=h') (ch:=[e,it]) (λb hb=>⟨(hf b hb).2.2.2.1,(hf b hb).2.1,(hf b hb).2.2.2.2.1,(hf b hb).2.2.2.2.2⟩) (λb o _ _ hb e _=>jO b o hb e) (λb o _ _ hb e _=>⟨o.slots,jO b o hb e⟩)
   (λb o hb e n=>n) (λb o hb e=>⟨o,jO b o hb e⟩) (λb zs e=>e) (λb o u e=>e) (λb ps e=>⟨#[],by rw[e];simp⟩) (λm hm=>?_) (λb u q=>?_) I.bare
  ·obtain⟨o,df,ep,ho,rr⟩:=hm;exact⟨o,df,ep,jO _ o (λhb=>(hf _ hb).2.1 rfl) ho,rr⟩
  ·refine(I.hok b u q).ji (λc v hc z=>jO c v ?_ z) (λc z=>z) λc zs z=>z
   rcases hc with rfl | hc
   ·exact oW c u q
   ·exact oW c _ hc
 self:=λ_ _ _ _ _ st h=>by obtain⟨⟨old,s1⟩,_⟩:=st;exact wpAny_pyIter_enum s1 h
noncomputable def DL (ta:TA):TI:=λσ H R=>ta σ H λvs H1=>∃b l xs,vs=[.ref l]/\H1 l=some (iw b xs)/\R (JY b l) H1
theorem yS {X:Cx} {es:List Expr} {k:Nat} {tp:Pos} {a:Expr} {ta:TA} {p pos:Pos} (hg:Gl X "enumerate") (hm:X.mg "enumerate"=none) (ha:PA X [a] ta) (hs:starEach [a] X.env=[(false,eval a X.env)]:=by rfl):
  PI X (.Tuple es k tp) (.Call (.Name "enumerate" p) [a] [] pos) (DL ta):=by
 intro pins s σ H R I h;refine Call_ (d7 I hg hm boot_enumerate (PyProof.Rows.callWith_type1 (bN (ha pos pins s σ H _ I h) λus s1 ⟨vs,H1,I1,r1,q1⟩=>?_) (by rw[hs];rfl) rfl));obtain⟨b,l,xs,e,e1,q⟩:=q1;subst e;obtain⟨u,rfl,ru⟩:=r1.one;cases ru;obtain⟨cY,_,p1⟩:=bp I1 e1;refine rb p1 λh' g1 g2 kk=>?_
 refine wpAny_pyIter_enum (s:={s1 with heap:=h'}) g1 ?_;have I2:Inv X pins σ H1 {s1 with heap:=h'}:=I1.kept (t':=s1.toks) kk;refine⟨s1.heap.objs.size + 1,[s1.heap.objs.size + 1,s1.heap.objs.size],_,_,H1,rfl,I2,sQ (l:=l) (Nat.succ_ne_self _),⟨⟨_,g1⟩,g2⟩,λc hb=>?_,q⟩;have iT:s1.heap.objs.size<=c:=by simp only[Qx,Qy,or_false] at hb;rcases hb with h | h <;> (rw[h];first | exact Nat.le_add_right _ _ | exact Qq _)
 exact I1.pF iT (I1.hok.fresh iT)
theorem oM {M:Model} {A:Around} {E:Value->Shared->Prop} {s:Shared} {src:Source} {n:Nat} {Q:Nat->Shared->Prop} (hn:n≠0) (h:∀i d,i < n->Q i {s with drawn:=d}):wpAny M A (choose src n) Q E s:=
 λ_ _ _=>⟨hn,h _ _ (Nat.mod_lt _ (Nat.pos_of_ne_zero hn))⟩
noncomputable def xf (w:World):Bool:=w.params.followText "set-order"
section
variable {prog:Program} {w:World} {A:Around} {E:Value->Shared->Prop} {s:Shared}
theorem dF {Q:Bool->Shared->Prop} (h:Q (xf w) s):wpAny (model prog w) A setsByText Q E s:=by unfold setsByText;exact Qg (wpAny_askSetting (Qj h))
theorem lQ (t:SetTable) (n:Nat):(t.orStandIn n).led=t.led:=by unfold SetTable.orStandIn;split <;> rfl
theorem rV (t:SetTable) (es:Array (Int×Value)) (h:Int) (x:Value):(layNew t es h x).2.1.led=t.led:=by
 unfold layNew;split
 ·dsimp only;rw[lQ];rfl
 ·rfl
theorem oo (t:SetTable) (es:Array (Int×Value)) (n:Nat):(relayAll t es n).2.1.led=t.led:=by
 unfold relayAll;split
 ·rename_i t' order h;unfold SetTable.relaid SetTable.laid at h;obtain⟨o,_,h⟩:=Qh.mp h;cases h;dsimp only;split <;> rfl
 ·rfl
theorem kZ (t:SetTable) (es:Array (Int×Value)) (n:Nat) (hp:t.plain=false):(relayAll t es n).2.1.plain=false:=by
 unfold relayAll;split
 ·rename_i t' order h;unfold SetTable.relaid SetTable.laid at h;obtain⟨o,_,h⟩:=Qh.mp h;cases h;dsimp only;split
  ·exact hp
  ·rfl
 ·rfl
variable (prog w) in
noncomputable def cQ (h:Heap) (a:Addr) (ks:List Str):Prop:=
 ∃(es:Array (Int×Value)) (ep:Nat) (t:SetTable),h.get? a=some {cls:= .type "set",dict:=none,data:= .set es ep t,slots:=#[]}/\ks.Nodup/\ax (ks.map V.str) (es.toList.map (·.2))/\ElemsOf (strKind prog w) es.toList/\
  es.size < scanBound/\t.fits es.size=true/\t.led= !xf w/\(es.size≠0->t.plain=false)
theorem cQ.at {h h':Heap} {a:Addr} {ks:List Str} (x:cQ prog w h a ks) (hk:∀o,h.get? a=some o->h'.get? a=some o):cQ prog w h' a ks:=by obtain⟨es,ep,t,h1,r⟩:=x;exact⟨es,ep,t,hk _ h1,r⟩
theorem jm {l l':List (Int×Value)} (p:l'.Perm l):∀{ks:List Str},ax (ks.map V.str) (l.map (·.2))->∃dz:List Str,dz.Perm ks/\ax (dz.map V.str) (l'.map (·.2)):=by
 have hh:=p.symm;clear p
 induction hh with
 | nil=>intro ks h;exact⟨ks,List.Perm.refl _,h⟩
 | cons x h ih=>
  intro ks r;cases ks with
  | nil=>cases r
  | cons k ks=>
   rw[Q2,Q2] at r;cases r with
   | cons r0 rr=>obtain⟨dz,p1,p2⟩:=ih rr;exact⟨k::dz,p1.cons k,by rw[Q2,Q2];exact .cons r0 p2⟩
 | swap x y l=>
  intro ks r;cases ks with
  | nil=>cases r
  | cons k ks=>
   cases ks with
   | nil=>cases r with | cons _ rr=>cases rr
   | cons k2 ks=>
    simp only[Q2] at r;cases r with
    | cons r0 rr=>
     cases rr with
     | cons r1 rr=>exact⟨k2::k::ks,List.Perm.swap k k2 ks,by simp only[Q2];exact .cons r1 (.cons r0 rr)⟩
 | trans h1 h2 ih1 ih2=>intro ks r;obtain⟨JC,p1,r1⟩:=ih1 r;obtain⟨LC,p2,r2⟩:=ih2 r1;exact⟨LC,p2.trans p1,r2⟩
theorem qG {es:List (Int×Value)} {ks:List Str} (r:ax (ks.map V.str) (es.map (·.2))) (k:Str):(∃e∈es,(strKind prog w).is k e.2=true)↔k∈ks:=by
 induction es generalizing ks with
 | nil=>
  cases ks with
  | nil=>simp
  | cons k ks=>cases r
 | cons e es ih=>
  cases ks with
  | nil=>cases r
  | cons k0 ks=>
   simp only[Q2] at r;cases r with
   | cons r0 rr=>
    obtain⟨t,e0⟩:=r0;have:(strKind prog w).is k e.2=true↔k=k0:=by rw[e0];show Value.isStrOf k (.str k0 t)=true↔_;unfold Value.isStrOf;simp;exact eq_comm
    rw[Qx,<-ih rr,<-this];constructor
    ·rintro⟨x,hx,q⟩;rcases Qx.mp hx with rfl | hx
     ·exact .inl q
     ·exact .inr ⟨x,hx,q⟩
    ·rintro(q | ⟨x,hx,q⟩)
     ·exact⟨e,by simp,q⟩
     ·exact⟨x,Qo _ hx,q⟩
theorem qE {a:Addr} {es:Array (Int×Value)} {ep:Nat} {t:SetTable} (h:Heap) (ho:h.get? a=some {cls:= .type "set",dict:=none,data:= .set es ep t,slots:=#[]}) (df:Array (Int×Value)) (t':SetTable):
  (h.update a (Obj.putSet df t')).get? a=some {cls:= .type "set",dict:=none,data:= .set df (ep + 1) t',slots:=#[]}:=by
 have:=Heap.get?_update_self (Obj.putSet df t') ho (by rw[putSet_of df t' rfl];rfl);rw[putSet_of df t' rfl] at this;exact this
theorem u4 {g:Bool->Sem Unit} (hg:∀(b:Bool) {s₁:Shared} {Q':Unit->Shared->Prop},Q' () s₁->wpAny (model prog w) A (g b) Q' E s₁) {a:Addr} {es:Array (Int×Value)} {ep:Nat} {t:SetTable}
  (ho:s.heap.get? a=some {cls:= .type "set",dict:=none,data:= .set es ep t,slots:=#[]}) {ij:Array (Int×Value)} {t2:SetTable} {ks:List Str} (fW:ks.Nodup) (hv:ax (ks.map V.str) (ij.toList.map (·.2))) (Cp:ElemsOf (strKind prog w) ij.toList)
  (hb:ij.size < scanBound) (hf:t2.fits ij.size=true) (hl:t2.led= !xf w) (hp:t2.plain=false) {qH:Bool} {R:Option Bool->Shared->Prop}
  (h:∀h' dz,Heap.SameBut a s.heap h'->dz.Perm ks->cQ prog w h' a dz->R (some true) {s with heap:=h'}):
  wpAny (model prog w) A (do
    storeSet a ij t2
    if (!qH&&t2.tooFull)=true then do
      g (relayAll t2 ij (SetTable.grown ij.size)).2.2
      storeSet a (relayAll t2 ij (SetTable.grown ij.size)).1 (relayAll t2 ij (SetTable.grown ij.size)).2.1
      pure (some true)
     else pure (some true)) R E s:=by
 refine Qg (wpAny_storeSet_of ho rfl ?_ (fits_of_scanBound hb));have Ab:=qE s.heap ho ij t2;have G5:=Heap.SameBut.update s.heap a (Obj.putSet ij t2);split
 ·have G3:=relayAll_perm t2 ij (SetTable.grown ij.size);have vA:=relayAll_fits t2 ij (SetTable.grown ij.size);have K9:=oo t2 ij (SetTable.grown ij.size);have Lh:=kZ t2 ij (SetTable.grown ij.size) hp;generalize hRl:relayAll t2 ij (SetTable.grown ij.size)=Rl at G3 vA K9 Lh ⊢;obtain⟨rA,t3,MS⟩:=Rl;dsimp only at G3 vA K9 Lh ⊢;obtain⟨LC,p2,OZ⟩:=jm G3 hv;have iy:rA.size=ij.size:=by rw[<-QF,G3.length_eq,QF]
  refine Qg (hg _ ?_);refine Qg (wpAny_storeSet_of Ab rfl ?_ (fits_of_scanBound (by lia)));exact Qj (h _ LC (G5.trans (Heap.SameBut.update _ a _)) p2 ⟨rA,ep + 2,t3,qE _ Ab rA t3,p2.nodup_iff.mpr fW,OZ,Cp.perm G3,by lia,vA,K9.trans hl,λ_=>Lh⟩)
 ·exact Qj (h _ ks G5 (List.Perm.refl _) ⟨ij,ep + 1,t2,Ab,fW,hv,Cp,hb,hf,hl,λ_=>hp⟩)
theorem wm {a:Addr} {ks:List Str} {k:Str} {tk:Tok} {Q:Bool->Shared->Prop} (hS:cQ prog w s.heap a ks) (Np:ks.length + 1 < scanBound)
  (h:∀b h' dz,Heap.SameBut a s.heap h'->cQ prog w h' a dz->(∀y,y∈dz↔y∈ks\/y=k)->dz.length<=ks.length + 1->Q b {s with heap:=h'}):
  wpAny (model prog w) A (setAddHashed a (.str k tk) ((strKind prog w).hash k)) Q E s:=by
 obtain⟨es,ep,t,ho,fW,hv,Cp,hb,hf,yj,gG⟩:=hS;have AV:(strKind prog w).is k (.str k tk)=true:=strKind_is _ _ _ _;have G6:(Value.str k tk).scannable=true:=rfl;have Nf:es.size=ks.length:=by have:=hv.length;rw[Qu,Qu,QF] at this;exact this.symm
 unfold setAddHashed setAddHashedIn;refine wpAny_holding (Qg (wpAny_setState_of ho rfl hf ?_));dsimp only;rw[byScan_of G6 hb Cp];simp only[↓reduceIte];unfold setAddByScan;refine Qg (Qg (wpAny_rule (Qg (wpAny_setScan_of AV ho rfl hf Cp ?_))));cases hr:List.findIdx? (λe=>(strKind prog w).is k e.2) es.toList with
 | some j=>
  dsimp only;obtain⟨hj,G2,_⟩:=List.findIdx?_eq_some_iff_getElem.mp hr;have hk:k∈ks:=(qG (prog:=prog) (w:=w) hv k).mp ⟨es.toList[j],List.getElem_mem hj,G2⟩;refine Qj (Qj ?_);have e:s={s with heap:=s.heap}:=by cases s;rfl
  rw[e];exact h _ _ ks (Heap.SameBut.refl a s.heap) ⟨es,ep,t,ho,fW,hv,Cp,hb,hf,yj,gG⟩ (λy=>⟨.inl,λz=>z.elim id λq=>q▸hk⟩) (by lia)
 | none=>
  dsimp only;have hk:k∉ks:=λhk=>by obtain⟨e,he,hp⟩:=(qG (prog:=prog) (w:=w) hv k).mpr hk;have:=List.findIdx?_eq_none_iff.mp hr e he;rw[hp] at this;exact Bool.noConfusion this
  have K5:∀(b:Bool) {s₁:Shared} {Q':Unit->Shared->Prop},Q' () s₁->wpAny (model prog w) A (match b with | true=>rule "set.scan.the-table-gave-way" | false=>pure ()) Q' E s₁:=
   λb s₁ Q' hq=>by cases b <;> first | exact Qj hq | exact wpAny_rule hq
  have mC:=layNew_perm t es ((strKind prog w).hash k) (.str k tk);have tY:=layNew_fits t es ((strKind prog w).hash k) (.str k tk);have cP:=rV t es ((strKind prog w).hash k) (.str k tk);generalize hL:layNew t es ((strKind prog w).hash k) (.str k tk)=L at mC tY cP ⊢;obtain⟨ij,t1,qH,N4⟩:=L;dsimp only at mC tY cP ⊢;rw[Array.toList_push] at mC;have GN:ElemsOf (strKind prog w) ij.toList:=(Cp.push AV G6).perm mC;have A2:ax ((ks++[k]).map V.str) ((es.toList++[((strKind prog w).hash k,Value.str k tk)]).map (·.2)):=by rw[Q3,Q3];exact hv.append (.cons ⟨tk,rfl⟩ .nil)
  obtain⟨JC,p1,Ha⟩:=jm mC A2;have OY:ij.size=es.size + 1:=by rw[<-QF,mC.length_eq,QB,QF];rfl
  have xX:ij.size < scanBound:=by lia
  have GV:JC.Nodup:=p1.nodup_iff.mpr (by
   rw[List.nodup_append];exact⟨fW,by simp,λx hx y hy=>by rw[QT] at hy;subst hy;exact λe=>hk (e▸hx)⟩)
  have Lc:∀y,y∈JC↔y∈ks\/y=k:=λy=>by rw[p1.mem_iff,QH,QT]
  have Ct:JC.length<=ks.length + 1:=by rw[p1.length_eq,QB];simp
  refine Qg (K5 _ ?_);split
  ·refine Qg ?_;rw[hashByValue_scannable 8 G6];refine Qj ?_;exact u4 K5 ho GV Ha GN xX (t2:=if plainKind (Value.str k tk)=true then t1 else{t1 with plain:=false}) (by
     rw[if_neg (by show¬(false=true);simp)];exact SetTable.fits_plain_off tY) (by rw[if_neg (by show¬(false=true);simp)];exact cP.trans yj) (by rw[if_neg (by show¬(false=true);simp)]) λh' dz sb pm x=>Qj (h _ h' dz sb x (λy=>pm.mem_iff.trans (Lc y)) (by rw[pm.length_eq];exact Ct))
  ·refine Qg (Qj ?_);simp only[↓reduceIte];exact u4 K5 ho GV Ha GN xX tY (cP.trans yj) (by rename_i q;simpa using q) λh' dz sb pm x=>Qj (h _ h' dz sb x (λy=>pm.mem_iff.trans (Lc y)) (by rw[pm.length_eq];exact Ct))
end
section
variable {prog:Program} {w:World} {A:Around} {R:Result->Shared->Prop} {I:Addr} {fp wr:List Addr} {G:Array GenState->Array GenState->Prop} {n:Nat} {P:Nat->Value->Prop} {St:Nat->Shared->Prop}
theorem u3 (W:WalksS prog w A.in1 I fp wr G n P St) (S:Addr) (Ci:S∉fp) (xs:List Str) (Qb:xs.length=n) (A3:∀i v,P i v->∃x t,xs[i]?=some x/\v= .str x t) (hb:n + 1 < scanBound):
  ∀(k i:Nat) (s:Shared) (ks:List Str),n - i=k->i<=n->St i s->cQ prog w s.heap S ks->(∀y,y∈ks↔y∈xs.take i)->ks.length<=i->
   (∀s' dz,Moved (S::wr) G s s'->cQ prog w s'.heap S dz->(∀y,y∈dz↔y∈xs)->R (.ok (.ret .none)) s')->
   codeAny (model prog w) A (.builtin "set.update.loop" ⟨[.ref S,.ref I],[]⟩) R s:=by
 have M4:S∉wr:=λh=>Ci (W.sub _ h)
 have vE:∀b∈wr,b∈S::wr:=λb hb=>Qo _ hb
 intro k
 induction k with
 | zero=>
  intro i s ks hk hi lH hS hm hl hR;have FH:i=n:=by lia
  subst FH;refine codeAny_builtin F.entry_set_update_loop ?_;rw[Around.under_plainId F.plain_set_update_loop _];show wpAny _ A.in1 (pyNext (.ref I) >>=_) _ _ s;refine Qg (W.done s _ _ lH λs' hm'=>?_);show wpAny _ A.in1 (ret Value.none) _ _ s';exact Qj (hR s' ks (hm'.mono vE) (hS.at λo e=>hm'.heap S o M4 e) λy=>by rw[hm y,List.take_of_length_le (by lia)])
 | succ k ih=>
  intro i s ks hk hi lH hS hm hl hR;have cC:i < n:=by lia
  refine codeAny_builtin F.entry_set_update_loop ?_;rw[Around.under_plainId F.plain_set_update_loop _];show wpAny _ A.in1 (pyNext (.ref I) >>=_) _ _ s;refine Qg (W.item i s _ _ cC lH λv s' hP hst' hm'=>?_);obtain⟨x,t,hx,rfl⟩:=A3 i v hP;have qN:cQ prog w s'.heap S ks:=hS.at λo e=>hm'.heap S o M4 e
  show wpAny _ A.in1 (holding [Value.str x t] (setAdd S (.str x t)) >>=_) _ _ s';refine Qg (wpAny_holding ?_);unfold setAdd;refine wpAny_holding ?_;refine Qg ((strKind prog w).pyHash (k:=x) (strKind_is _ _ _ _) ?_);refine wm (s:={s' with toks:=s'.toks + 1}) qN (by lia) λb h' dz rK Jn Aa dh=>?_
  refine Qj ⟨plainId_quiet F.plain_set_update_loop _,ih (i + 1) _ dz (by lia) cC (W.frame _ s' _ _ hst' (Nat.le_succ _) λb hb o e=>?_) Jn (λy=>?_) (by lia) λs'' ks'' hm'' hS'' ym=>?_⟩
  ·rw[rK.2 b (λh:b=S=>Ci (by rw[<-h];exact hb))];exact e
  ·rw[Aa y,hm y,List.take_succ,hx];simp
  ·refine hR s'' ks'' (Moved.trans W.gtrans ((hm'.mono vE).then_heap (Nat.le_succ _) λb o hb e=>?_) hm'') hS'' ym;rw[rK.2 b (λh:b=S=>hb (by rw[h];exact Qr))];exact e
end
namespace F
theorem sub_tuple_set:isSubtype (.type "tuple") (.type "set")=pure false:=by rw[isSubtype_type];kernel_rfl
theorem sub_tuple_frozenset:isSubtype (.type "tuple") (.type "frozenset")=pure false:=by rw[isSubtype_type];kernel_rfl
end F
noncomputable def cL (w:World):Obj:={cls:= .type "set",dict:=none,data:= .set #[] 0 (.fresh 0 0 (!xf w))}
section
variable {prog:Program} {w:World} {A:Around} {E:Value->Shared->Prop} {s:Shared}
theorem zv:cQ prog w (s.heap.push (cL w)) s.heap.objs.size []:=
 ⟨#[],0,_,Qs _ rfl,List.nodup_nil,.nil,λe he=>by simp at he,by decide,by rfl,rfl,λz=>(z rfl).elim⟩
theorem code_set_new (a:Value) {Q₁:Value->Shared->Prop} (h:Q₁ (.ref s.heap.objs.size) {s with heap:=s.heap.push (cL w)}):
  codeAny (model prog w) A (.call (.builtin "set.__new__") ⟨[.type "set",a],[]⟩) (wants Q₁ E) s:=by
 refine codeAny_of_tree ?_;show wpAny _ A.in1 (do checkBuiltinCall "set.__new__" ⟨[.type "set",a],[]⟩;again (.builtin "set.__new__" ⟨[.type "set",a],[]⟩)) _ _ s;refine Qg (wpAny_of_eq (F.newCall_set_1 a) (Qj ⟨plainId_quiet F.plain_set_new _,codeAny_builtin F.entry_set_new ?_⟩));rw[Around.under_plainId F.plain_set_new _];unfold Builtin.«set.__new__» Builtin.Frozenset.newClass;have vE:=sub_set_self;obtain⟨hp,g,d,tk,os⟩:=s;dsimp only
 wp_walk
 refine wpAny_askSetting (Qj ?_);dsimp only;simp only[newObj];refine Qg (wpAny_alloc (Qj ?_));exact Qj h
theorem zg {b:Bool} {h:Heap} {l:Addr} {xs:Array Value} (x:cu b h l xs):∃o,h.get? l=some o:=by
 cases b with
 | false=>obtain⟨o,ho,_⟩:=x;exact⟨o,ho⟩
 | true=>obtain⟨o,ho,_⟩:=x;exact⟨o,ho⟩
set_option maxHeartbeats 8000000 in
theorem nr {b:Bool} {l:Addr} {items:Array Value} {xs:List Str} {Q:Value->Shared->Prop}
  (hh:A.handled=none) (hl:cu b s.heap l items) (hi:ax (xs.map V.str) items.toList) (hb:items.size + 1 < scanBound)
  (h:∀(h':Heap) (tk:Nat) (ks:List Str),cQ prog w h' s.heap.objs.size ks->(∀y,y∈ks↔y∈xs)->
   (∀b o,s.heap.get? b=some o->h'.get? b=some o)->Q (.ref s.heap.objs.size) {s with heap:=h',toks:=tk}):
  wpAny (model prog w) A (call (.type "set") [.ref l]) Q E s:=by
 obtain⟨c,tl,OK⟩:=F.called_set.mro;have Ng:=F.called_set.made;have vE:=F.called_set.sub;refine wpAny_call (codeAny_of_tree ?_);show wpAny _ _ (callAny (.type "set") _) _ _ _;refine Qj ⟨Code.quiet_builtin _ (by decide +kernel),codeAny_builtin F.entry_type_call ?_⟩;rw[Around.under_plain (weight_type_call_type "set" [.ref l] []) rfl];have h1:=F.called_set.notType;have h2:=F.called_set.canCreate;have PX:=F.typeCall_set_1 (.ref l)
 repeat (any_goals (first | assumption | wp_step))
 refine codeAny_mono (code_set_new (.ref l) (E:=E) (Q₁:=λobj s₁=>obj= .ref s.heap.objs.size/\s₁={s with heap:=s.heap.push (cL w)}) ⟨rfl,rfl⟩) λr s₁ hr=>?_
 cases r with
 | error e=>exact hr
 | ok fl=>
  cases fl with
  | ret obj=>
   obtain⟨rfl,rfl⟩:=hr;have hT:Shared.TypeIs {s with heap:=s.heap.push (cL w)} (.ref s.heap.objs.size) "set":=⟨_,Qs _ rfl,rfl⟩;have P1:=F.called_set.init.lookup;have M6:=F.called_set.init.bind (.ref s.heap.objs.size)
   repeat (any_goals (first | assumption | wp_step))
   refine codeAny_mono (codeAny_call_builtin (R:=wants (λr s₂=>r= .none/\∃h' tk ks,s₂={s with heap:=h',toks:=tk}/\cQ prog w h' s.heap.objs.size ks/\(∀y,y∈ks↔y∈xs)/\
     (∀b o,s.heap.get? b=some o->h'.get? b=some o)) E) F.called_set.init.plain F.entry_set_init (check_set_init_1 hT ?_)) λr₂ s₂ hr₂=>?_
   ·have P0:=hl;obtain⟨ob,OP⟩:=zg hl;have FI:l < s.heap.objs.size:=Qv OP;have Jr:A.in1.in1.in1.handled=none:=by simp[hh]
    have hz:(s.heap.push (cL w)).objs.size=s.heap.objs.size + 1:=QP ..;have GW:l≠(s.heap.push (cL w)).objs.size:=by rw[hz];exact QQ (Nat.lt_succ_of_lt FI)
    have Ci:s.heap.objs.size∉[(s.heap.push (cL w)).objs.size,l]:=by rw[hz];simp only[Qx,QT,Qy,or_false,not_or];exact⟨QQ (Nat.lt_succ_self _),Nat.ne_of_gt FI⟩
    have hlen:xs.length=items.size:=by have:=hi.length;rw[Qu,QF] at this;exact this
    have A3:∀(i:Nat) (v:Value),items[i]?=some v->∃x t,xs[i]?=some x/\v= .str x t:=λi v hv=>by
     rw[<-Array.getElem?_toList] at hv;cases hx:xs[i]? with
     | none=>
      have e1:=List.getElem?_eq_none_iff.mp hx;have e2:=(Qn.mp hv).1;rw[QF] at e2
      lia
     | some x=>obtain⟨u,hu,t,ru⟩:=hi.get (i:=i) (x:= .str x) (by rw[QE,hx];rfl);rw[hu] at hv;cases hv;exact⟨x,t,rfl,ru⟩
    have fin:∀(o:Obj) (s':Shared) (dz:List Str),Moved [s.heap.objs.size,(s.heap.push (cL w)).objs.size] (λa b=>b=a) {s with heap:=(s.heap.push (cL w)).push o} s'->cQ prog w s'.heap s.heap.objs.size dz->(∀y,y∈dz↔y∈xs)->
      ∃h' tk ks,s'={s with heap:=h',toks:=tk}/\cQ prog w h' s.heap.objs.size ks/\(∀y,y∈ks↔y∈xs)/\(∀b o,s.heap.get? b=some o->h'.get? b=some o):=by
     intro o s' dz hm qN ym;obtain⟨h',g',d',My,HD⟩:=s';have eg:g'=s.gens:=hm.gens;have ed:d'=s.drawn:=hm.drawn;have eo:HD=s.os:=hm.os;subst eg;subst ed;subst eo;refine⟨h',My,dz,rfl,qN,ym,λb o' e=>?_⟩;have hb:=Qv e;have xX:b≠s.heap.objs.size:=QQ hb;have Ck:b≠(s.heap.push (cL w)).objs.size:=by rw[hz];exact QQ (Nat.lt_succ_of_lt hb)
     exact hm.heap b o' (by simp only[Qx,QT,Qy,or_false,not_or];exact⟨xX,Ck⟩) (Qi _ (Qi _ e))
    cases b with
    | false=>
     obtain⟨ol,DE,vy,nl,yb⟩:=hl;obtain⟨LQ,yK,Hv,sv⟩:=ol;simp only at vy yb;subst vy;subst yb;have DF:(s.heap.push (cL w)).get? l=some {cls:= .type "list",dict:=yK,data:= .seq items nl,slots:=sv}:=Qi _ DE;have Lk:=F.sub_list_set;have Lj:=F.sub_list_frozenset;have lN:(Value.type "list"==Value.type "dict")=false:=by decide
     have cP:(s.heap.push (cL w)).IsList l items:=⟨_,DF,rfl,nl,rfl⟩;unfold Builtin.«set.__init__» noKeywords Builtin.Frozenset.updateFrom;generalize hPI:pyIter=PI
     wp_walk
     subst hPI;refine wpAny_pyIter_list cP ?_;refine Qg (wpAny_runValue ?_);refine u3 ((Walks.list Jr _ l GW items).toS) s.heap.objs.size Ci xs hlen A3 hb (items.size - 0) 0 _ [] (by lia) (Nat.zero_le _)
      ⟨⟨_,Qs _ rfl,rfl,rfl⟩,(cP.push _)⟩ (zv.at λo e=>Qi _ e) (by simp) (Qq _) λs' dz hm qN ym=>?_
     show wpAny _ _ _ _ _ _;refine Qj ?_;show wpAny _ _ (ret Value.none) _ _ _;exact Qj ⟨rfl,fin _ s' dz hm qN ym⟩
    | true=>
     obtain⟨ol,DE,vy,nl,yb⟩:=hl;obtain⟨LQ,yK,Hv,sv⟩:=ol;simp only at vy yb;subst vy;subst yb;have DF:(s.heap.push (cL w)).get? l=some {cls:= .type "tuple",dict:=yK,data:= .seq items nl,slots:=sv}:=Qi _ DE;have Lk:=F.sub_tuple_set;have Lj:=F.sub_tuple_frozenset;have lN:(Value.type "tuple"==Value.type "dict")=false:=by decide
     have cP:(s.heap.push (cL w)).IsTuple l items:=⟨_,DF,rfl,nl,rfl⟩;unfold Builtin.«set.__init__» noKeywords Builtin.Frozenset.updateFrom;generalize hPI:pyIter=PI
     wp_walk
     subst hPI;refine wpAny_pyIter_tuple cP ?_;refine Qg (wpAny_runValue ?_);refine u3 ((Walks.tuple Jr _ l GW items).toS) s.heap.objs.size Ci xs hlen A3 hb (items.size - 0) 0 _ [] (by lia) (Nat.zero_le _)
      ⟨⟨_,Qs _ rfl,rfl,rfl⟩,(cP.push _)⟩ (zv.at λo e=>Qi _ e) (by simp) (Qq _) λs' dz hm qN ym=>?_
     show wpAny _ _ _ _ _ _;refine Qj ?_;show wpAny _ _ (ret Value.none) _ _ _;exact Qj ⟨rfl,fin _ s' dz hm qN ym⟩
   ·cases r₂ with
    | error e=>exact hr₂
    | ok fl₂=>
     cases fl₂ with
     | ret r=>
      obtain⟨rfl,h',tk,ks,rfl,qN,ym,wz⟩:=hr₂
      repeat (any_goals (first | assumption | wp_step))
      exact h _ _ _ qN ym wz
     | _=>exact hr₂.elim
  | _=>exact hr.elim
end
namespace F
theorem dJ:Manifest.owners.lookup (String.ofList ['r','o','t','a','r','e','t','i','_','t','e','s'].reverse)=some Manifest.sig_set_iterator:=by kernel_rfl
theorem az:Slot "set_iterator" "__next__" "set_iterator.__next__":=
 .of (owner:="set_iterator") (n:="__next__") (by rw[typeLookup_type,builtinLookup_eq_fast];kernel_rfl) (by decide +kernel) (by decide +kernel) (by decide +kernel)
  (by first | exact .inl (by decide +kernel) | exact .inr (by decide +kernel)) (by rw[isSubtype_type];kernel_rfl)
theorem cn:entryFor table "set_iterator.__next__"=some Builtin.«set_iterator.__next__»:=entryFor_of_tree (by kernel_rfl)
theorem bW (a:Value):argsOk "set_iterator.__next__" ⟨[a],[]⟩:=by unfold argsOk;rw[signature?_of (id:="set_iterator.__next__") (n:=['_','_','t','x','e','n','_','_']) (o:=['r','o','t','a','r','e','t','i','_','t','e','s']) (by kernel_rfl) dJ];kernel_rfl
theorem cN:Slot "set_iterator" "__iter__" "set_iterator.__iter__":=
 .of (owner:="set_iterator") (n:="__iter__") (by rw[typeLookup_type,builtinLookup_eq_fast];kernel_rfl) (by decide +kernel) (by decide +kernel) (by decide +kernel)
  (by first | exact .inl (by decide +kernel) | exact .inr (by decide +kernel)) (by rw[isSubtype_type];kernel_rfl)
theorem ej:entryFor table "set_iterator.__iter__"=some Builtin.«dict_keyiterator.__iter__»:=
 entryFor_alias (id':="dict_keyiterator.__iter__") (by kernel_rfl) (by first | rfl | decide +kernel | (unfold String.splitOn;simp +decide [String.splitOnAux])) (by decide +kernel) (by kernel_rfl)
theorem d4 (a:Value):argsOk "set_iterator.__iter__" ⟨[a],[]⟩:=by unfold argsOk;rw[signature?_of (id:="set_iterator.__iter__") (n:=['_','_','r','e','t','i','_','_']) (o:=['r','o','t','a','r','e','t','i','_','t','e','s']) (by kernel_rfl) dJ];kernel_rfl
theorem kA:entryFor table "set.__iter__"=some Builtin.«frozenset.__iter__»:=
 entryFor_alias (id':="frozenset.__iter__") (by kernel_rfl) (by first | rfl | decide +kernel | (unfold String.splitOn;simp +decide [String.splitOnAux])) (by decide +kernel) (by kernel_rfl)
end F
noncomputable abbrev Ak (h:Heap) (I:Addr) (f:Value) (i:Nat) (S:Addr) (n ep:Nat):Prop:=
 h.get? I=some {cls:= .type "set_iterator",dict:=none,data:= .fields #[f,rawInt i,.ref S,rawInt n,rawInt ep],slots:=#[]}
noncomputable abbrev wH (h:Heap) (S:Addr) (es:Array (Int×Value)) (ep:Nat) (t:SetTable):Prop:=h.get? S=some {cls:= .type "set",dict:=none,data:= .set es ep t,slots:=#[]}
noncomputable def F3 (w:World) (h:Heap) (f:Value) (i:Nat) (S:Addr) (es:Array (Int×Value)) (ep:Nat) (t:SetTable) (vs:List Value) (T:Addr):Prop:=
 (xf w=true/\f=rawInt 0/\vs=(pickOrder (w.params.setOrder S ep) es).toList.map (·.2))\/
 (xf w=false/\t.led=true/\es.size<=1/\vs=es.toList.map (·.2)/\∃slot:Nat,f=rawInt slot/\(i=0->slot=0)/\(i=1->slot=t.place.getD 0 0 + 1))\/
 (xf w=false/\1 < es.size/\f= .ref T/\∃π:List Nat,h.get? T=some {cls:= .type "tuple",dict:=none,data:= .seq (π.map λi=>rawInt (i:Nat)).toArray 0,slots:=#[]}/\π.length=es.size/\(∀j∈π,j < es.size)/\vs=π.map λj=>(es.getD j (0,.none)).2)
noncomputable def zS (w:World) (I S:Addr) (es:Array (Int×Value)) (ep:Nat) (t:SetTable) (vs:List Value) (T:Addr) (i:Nat) (h:Heap):Prop:=
 wH h S es ep t/\t.fits es.size=true/\vs.length=es.size/\∃f,Ak h I f i S es.size ep/\F3 w h f i S es ep t vs T
section
variable {prog:Program} {w:World} {A:Around} {E:Value->Shared->Prop} {s:Shared}
theorem ff {S:Addr} {es:Array (Int×Value)} {ep:Nat} {t:SetTable} (ho:wH s.heap S es ep t) (hf:t.fits es.size=true) (hb:xf w=true) {Q:Array (Int×Value)->Shared->Prop}
  (h:Q (pickOrder (w.params.setOrder S ep) es) s):wpAny (model prog w) A (setWalk S) Q E s:=by
 unfold setWalk;refine Qg (wpAny_setState_of ho rfl hf ?_);dsimp only;refine Qg (dF ?_);rw[hb,if_pos rfl];exact Qg (wpAny_askSetting (Qj h))
theorem l6 (a:Nat) (j:Nat):SetTable.below #[a] j=if a < j then 1 else 0:=by unfold SetTable.below;show SetTable.below.go #[a] j 1 0 1=_;unfold SetTable.below.go;simp only[Nat.zero_lt_one,if_true];show (if (#[a]:Array Nat).getD 0 j < j then SetTable.below.go #[a] j 0 1 1 else SetTable.below.go #[a] j 0 0 0)=_;rfl
theorem zh {I S T:Addr} {es:Array (Int×Value)} {ep:Nat} {t:SetTable} {vs:List Value} {i:Nat} {x:Value} {Q:Option Value->Shared->Prop} (AM:I≠S) (GA:I≠T)
  (st:zS w I S es ep t vs T i s.heap) (hx:vs[i]?=some x) (hQ:∀h',zS w I S es ep t vs T (i + 1) h'->Heap.SameBut I s.heap h'->Q (some x) {s with heap:=h'}):
  wpAny (model prog w) A (pyNext (.ref I)) Q E s:=by
 obtain⟨hS,hf,hl,f,hI,hw⟩:=st;have hT:s.TypeIs (.ref I) "set_iterator":=⟨_,hI,rfl⟩;have hi:i < es.size:=by rw[<-hl];exact(Qn.mp hx).1
 unfold pyNext;refine Qg (wpAny_attempt (wpAny_callSpecial?_slot (name:=Str.ofString "__next__") hT F.az
  (wpAny_call_entry F.az hT F.cn ?_ (F.bW _))))
 show wpAny _ _ (fieldsOf (.ref I) >>=_) _ _ s;refine Qg (wpAny_fieldsOf hI rfl ?_);show wpAny _ _ (setEntries S >>=_) _ _ s;refine Qg (wpAny_setEntries_of hS rfl hf ?_);show wpAny _ _ (if (((es.size:Int) != (es.size:Int))=true) then _ else _) _ _ s;rw[if_neg (by simp)];refine Qg (Qj ?_);rcases hw with ⟨b1,b2,b3⟩ | ⟨b1,b2,b3,b4,slot,b5,b6,b7⟩ | ⟨b1,b2,b3,π,b4,b5,b6,b7⟩
 ·subst b2;show wpAny _ _ (setNext S (0:Int).toNat ((i:Nat):Int).toNat ((ep:Nat):Int).toNat >>=_) _ _ s;simp only[Int.toNat_natCast];refine Qg ?_;unfold setNext;refine Qg (wpAny_setState_of hS rfl hf ?_);dsimp only;refine Qg (dF ?_);rw[b1,if_pos rfl];rw[if_neg (by simp)];refine Qg (ff hS hf b1 (Qj ?_));rw[b3,QE] at hx;obtain⟨e,he,rfl⟩:=QA.mp hx;rw[Array.getElem?_toList] at he;rw[he];show wpAny _ _ (setField (.ref I) 0 (rawInt _) >>=_) _ _ s;refine Qg (QS hI (by simp) λh1 i1 e1=>?_);refine Qg (QS i1 (by simp) λh2 i2 e2=>?_);refine Qj ⟨_,rfl,Qj (hQ h2 ⟨?_,hf,hl,rawInt 0,i2,.inl ⟨b1,rfl,b3⟩⟩ (e1.trans e2))⟩;exact e2.extBut _ _ AM.symm (e1.extBut _ _ AM.symm hS)
 ·subst b5;have FG:i=0:=by lia
  subst FG;have OW:=b6 rfl;subst OW;have h1:es.size=1:=by lia
  have jA:t.place.size=1:=by
   unfold SetTable.fits at hf;rw[Qk,beq_iff_eq] at hf
   lia
  obtain⟨pl,gG⟩:∃pl,t.place=#[pl]:=by
   cases ht:t.place with
   | mk l=>
    rw[ht] at jA
    match l,jA with
    | [a],_=>exact⟨a,rfl⟩
  obtain⟨e,he⟩:∃e,es=#[e]:=by
   obtain⟨l⟩:=es
   match l,h1 with
   | [a],_=>exact⟨a,rfl⟩
  show wpAny _ _ (setNext S ((0:Nat):Int).toNat ((0:Nat):Int).toNat ((ep:Nat):Int).toNat >>=_) _ _ s;simp only[Int.toNat_natCast];refine Qg ?_;unfold setNext;refine Qg (wpAny_setState_of hS rfl hf ?_);dsimp only;refine Qg (dF ?_);rw[b1,if_neg (by simp)];show wpAny _ _ (if (!t.plain&&decide (es.size > 1))=true then _ else _) _ _ s;rw[if_neg (by rw[h1];simp)];show wpAny _ _ ((if (!t.led&& !es.isEmpty)=true then _ else _) >>=_) _ _ s;rw[if_neg (by rw[b2];simp)];refine Qg (Qj ?_);have KW:SetTable.below t.place 0=0:=by rw[gG,l6];simp
  rw[KW];have Oy:es[0]?=some e:=by rw[he];rfl
  have G1:t.place[0]?=some pl:=by rw[gG];rfl
  rw[Oy,G1];refine Qj ?_;have pN:e.2=x:=by rw[b4,he] at hx;simpa using hx
  show wpAny _ _ (setField (.ref I) 0 (rawInt _) >>=_) _ _ s;refine Qg (QS hI (by simp) λh1 i1 e1=>?_);refine Qg (QS i1 (by simp) λh2 i2 e2=>?_);rw[<-pN] at hQ;refine Qj ⟨_,rfl,Qj (hQ h2 ⟨?_,hf,hl,rawInt (pl + 1:Nat),i2,.inr (.inl ⟨b1,b2,b3,b4,pl + 1,rfl,λz=>by lia,λ_=>by rw[gG];rfl⟩)⟩ (e1.trans e2))⟩;exact e2.extBut _ _ AM.symm (e1.extBut _ _ AM.symm hS)
 ·subst b3;rw[b7,QE] at hx;obtain⟨j,hj,rfl⟩:=QA.mp hx;have Nd:=b6 j (List.mem_of_getElem? hj);show wpAny _ _ (seqItems? (.ref T) >>=_) _ _ s;refine Qg (wpAny_seqItems b4 rfl ?_);have G2:(π.map λi=>rawInt ((i:Nat):Int)).toArray[((i:Nat):Int).toNat]?=some (rawInt ((j:Nat):Int)):=by simp[hj]
  dsimp only;rw[G2];show wpAny _ _ (setNextDrawn S ((j:Nat):Int).toNat ((ep:Nat):Int).toNat >>=_) _ _ s;simp only[Int.toNat_natCast];refine Qg ?_;unfold setNextDrawn;refine Qg (wpAny_setState_of hS rfl hf ?_);dsimp only;rw[if_neg (by simp)];have Oz:es[j]?=some es[j]:=by simp[Nd]
  rw[Oz];refine Qj ?_;refine Qg (QS hI (by simp) λh1 i1 e1=>?_);have hd:(es.getD j (0,.none)).2=es[j].2:=by simp[Array.getD,Nd]
  rw[hd] at hQ;refine Qj ⟨_,rfl,Qj (hQ h1 ⟨e1.extBut _ _ AM.symm hS,hf,hl,.ref T,i1,.inr (.inr ⟨b1,b2,rfl,π,e1.extBut _ _ GA.symm b4,b5,b6,b7⟩)⟩ e1)⟩
theorem BP {I S T:Addr} {es:Array (Int×Value)} {ep:Nat} {t:SetTable} {vs:List Value} {Q:Option Value->Shared->Prop} (hh:A.handled=none)
  (st:zS w I S es ep t vs T vs.length s.heap) (hQ:∀h',Heap.ExtBut I s.heap h'->Q none {s with heap:=h'}):
  wpAny (model prog w) A (pyNext (.ref I)) Q E s:=by
 obtain⟨hS,hf,hl,f,hI,hw⟩:=st;have hT:s.TypeIs (.ref I) "set_iterator":=⟨_,hI,rfl⟩;have stop:∀(h1:Heap) {E':Value->Shared->Prop} {Q':PySem.Fin->Shared->Prop},Heap.ExtBut I s.heap h1->(∀e h',Heap.ExtBut I s.heap h'->(∃o,h'.get? e=some o/\o.cls= .type "StopIteration")->E' (.ref e) {s with heap:=h'})->
   wpAny (model prog w) A.in1 (newExc (.type "StopIteration") [] >>=λe=>raiseNew e) Q' E' {s with heap:=h1}:=by
  intro h1 E' Q' e1 hE';refine Qg ?_;simp only[newExc,newTuple];refine Qg (wpAny_newObj_type ?_ (by size_fits));refine Qg (m:=firstArgMember _ _) (wpAny_of_eq (a:=Value.none) (by first | rfl | (simp only[firstArgMember];rfl)) ?_);refine wpAny_newObj_type ?_ (by size_fits);simp only[raiseNew];refine Qg (wpAny_handled ?_)
  first | rw[show A.in1.handled=none from hh] | rw[hh]
  refine Qg (Qj (wpAny_throw ?_));exact hE' _ _ ((e1.push _).push _) ⟨_,Qs _ rfl,rfl⟩
 have fin:∀e h',Heap.ExtBut I s.heap h'->(∃o,h'.get? e=some o/\o.cls= .type "StopIteration")->wpAny (model prog w) A (do let __do_lift<-isInstance (.ref e) (Value.type "StopIteration");if __do_lift=true then pure none else throw (.ref e)) Q E {s with heap:=h'}:=by rintro e h' hk ⟨o,ho,hc⟩;refine Qg (wpAny_isInstance (T:="StopIteration") (b:=true) ⟨o,ho,hc⟩ isSubtype_stop ?_);exact Qj (hQ _ hk)
 unfold pyNext;refine Qg (wpAny_attempt (wpAny_callSpecial?_slot (name:=Str.ofString "__next__") hT F.az
  (wpAny_call_entry F.az hT F.cn ?_ (F.bW _))))
 show wpAny _ _ (fieldsOf (.ref I) >>=_) _ _ s;refine Qg (wpAny_fieldsOf hI rfl ?_);show wpAny _ _ (setEntries S >>=_) _ _ s;refine Qg (wpAny_setEntries_of hS rfl hf ?_);show wpAny _ _ (if (((es.size:Int) != (es.size:Int))=true) then _ else _) _ _ s;rw[if_neg (by simp)];refine Qg (Qj ?_);rcases hw with ⟨b1,b2,b3⟩ | ⟨b1,b2,b3,b4,slot,b5,b6,b7⟩ | ⟨b1,b2,b3,π,b4,b5,b6,b7⟩
 ·subst b2;show wpAny _ _ (setNext S (0:Int).toNat ((vs.length:Nat):Int).toNat ((ep:Nat):Int).toNat >>=_) _ _ s;simp only[Int.toNat_natCast];refine Qg ?_;unfold setNext;refine Qg (wpAny_setState_of hS rfl hf ?_);dsimp only;refine Qg (dF ?_);rw[b1,if_pos rfl];rw[if_neg (by simp)];refine Qg (ff hS hf b1 (Qj ?_));have hn:(pickOrder (w.params.setOrder S ep) es)[vs.length]?=none:=by rw[b3,Qu,QF];simp
  rw[hn];show wpAny _ _ (setField (.ref I) 2 Value.none >>=_) _ _ s;exact Qg (QS hI (by simp) λh1 i1 e1=>stop h1 e1.extBut fin)
 ·subst b5;have KW:es[SetTable.below t.place slot]?=none:=by
   by_cases h0:es.size=0
   ·simp[h0]
   ·have h1:es.size=1:=by lia
    have jA:t.place.size=1:=by
     unfold SetTable.fits at hf;rw[Qk,beq_iff_eq] at hf
     lia
    obtain⟨pl,gG⟩:∃pl,t.place=#[pl]:=by
     cases ht:t.place with
     | mk l=>
      rw[ht] at jA
      match l,jA with
      | [a],_=>exact⟨a,rfl⟩
    have:=b7 (by lia);rw[gG] at this;have rL:slot=pl + 1:=this;rw[gG,l6,if_pos (by lia)];simp[h1]
  show wpAny _ _ (setNext S ((slot:Nat):Int).toNat ((vs.length:Nat):Int).toNat ((ep:Nat):Int).toNat >>=_) _ _ s;simp only[Int.toNat_natCast];refine Qg ?_;unfold setNext;refine Qg (wpAny_setState_of hS rfl hf ?_);dsimp only;refine Qg (dF ?_);rw[b1,if_neg (by simp)];show wpAny _ _ (if (!t.plain&&decide (es.size > 1))=true then _ else _) _ _ s;rw[if_neg (by rw[QK (by lia)];simp)];show wpAny _ _ ((if (!t.led&& !es.isEmpty)=true then _ else _) >>=_) _ _ s;rw[if_neg (by rw[b2];simp)];refine Qg (Qj ?_);rw[KW];refine Qj ?_;show wpAny _ _ (setField (.ref I) 2 Value.none >>=_) _ _ s;exact Qg (QS hI (by simp) λh1 i1 e1=>stop h1 e1.extBut fin)
 ·subst b3;show wpAny _ _ (seqItems? (.ref T) >>=_) _ _ s;refine Qg (wpAny_seqItems b4 rfl ?_);have G2:(π.map λi=>rawInt ((i:Nat):Int)).toArray[((vs.length:Nat):Int).toNat]?=none:=by rw[Int.toNat_natCast,b7];simp
  dsimp only;rw[G2];show wpAny _ _ (setField (.ref I) 0 (rawInt 0) >>=_) _ _ s;refine Qg (QS hI (by simp) λh1 i1 e1=>?_);exact Qg (QS i1 (by simp) λh2 i2 e2=>stop h2 (e1.trans e2).extBut fin)
theorem zi {I S T:Addr} {es:Array (Int×Value)} {ep:Nat} {t:SetTable} {vs:List Value} {i:Nat} {Q:Value->Shared->Prop} (st:zS w I S es ep t vs T i s.heap) (h:Q (.ref I) s):
  wpAny (model prog w) A (pyIter (.ref I)) Q E s:=by
 obtain⟨hS,hf,hl,f,hI,hw⟩:=st;have hT:s.TypeIs (.ref I) "set_iterator":=⟨_,hI,rfl⟩;refine wpAny_pyIter_slot hT F.cN (wpAny_call_entry F.cN hT F.ej ?_ (F.d4 _));show wpAny _ _ (ret (.ref I)) _ _ s;exact Qj ⟨_,rfl,"set_iterator",_,hT,F.az.lookup,h⟩
theorem zS.keep {I S T:Addr} {es:Array (Int×Value)} {ep:Nat} {t:SetTable} {vs:List Value} {i:Nat} {h h':Heap} (st:zS w I S es ep t vs T i h) (hk:∀b∈[I,S,T],∀o,h.get? b=some o->h'.get? b=some o):zS w I S es ep t vs T i h':=by
 obtain⟨hS,hf,hl,f,hI,hw⟩:=st;refine⟨hk S (by simp) _ hS,hf,hl,f,hk I (by simp) _ hI,?_⟩;rcases hw with b | b | ⟨b1,b2,b3,π,b4,b5⟩
 ·exact .inl b
 ·exact .inr (.inl b)
 ·exact .inr (.inr ⟨b1,b2,b3,π,hk T (by simp) _ b4,b5⟩)
theorem wo (hh:A.handled=none) (I S T:Addr) (AM:I≠S) (GA:I≠T) (es:Array (Int×Value)) (ep:Nat) (t:SetTable) (vs:List Value):
  Walks prog w A I [I,S,T] [I] vs.length (λi v=>vs[i]?=some v) (zS w I S es ep t vs T) where
 sub:=λb hb=>by simp at hb;simp[hb]
 frame:=λ_ _ _ st hk=>st.keep hk
 item:=λi s Q E hi st hQ=>zh AM GA st (x:=vs[i]) (by simp[hi]) λh' ai FK=>hQ _ h' s.toks (by simp[hi]) ai λb o hb e=>FK.extBut b o (λh=>hb (by simp[h])) e
 done:=λs Q E st hQ=>BP hh st λh' Jq=>hQ h' s.toks λb o hb e=>Jq b o (λh=>hb (by simp[h])) e
 self:=λ_ _ _ _ st hQ=>zi st hQ
theorem gC {α:Type}:∀{l:List α} {i:Nat} (h:i < l.length),(l[i]::l.eraseIdx i).Perm l
 | a::l,0,h=>List.Perm.refl _
 | a::l,i + 1,h=>by
  have hi:i < l.length:=by simpa using h
  show (l[i]::a::l.eraseIdx i).Perm (a::l);exact(List.Perm.swap _ _ _).trans ((gC hi).cons a)
theorem uF {α:Type} (next:Nat->Nat):∀(fuel k:Nat) (left:List α) (out:Array α),left.length<=fuel->(pickOrder.go next fuel k left out).toList.Perm (out.toList++left)
 | 0,k,left,out,h=>by have:left=[]:=List.length_eq_zero_iff.mp (by lia);subst this;unfold pickOrder.go;simp
 | fuel + 1,k,left,out,h=>by
  unfold pickOrder.go;cases left with
  | nil=>simp
  | cons a r=>have cC:next k % (a::r).length < (a::r).length:=Nat.mod_lt _ (by simp);rw[QJ cC];dsimp only;refine(uF next fuel (k + 1) _ _ (by rw[List.length_eraseIdx_of_lt cC];simp at h ⊢;lia)).trans ?_;rw[Array.toList_push,Qz];refine List.Perm.append_left _ ?_;exact gC cC
theorem mO {α:Type} (next:Nat->Nat) (xs:Array α):(pickOrder next xs).toList.Perm xs.toList:=by unfold pickOrder;simpa using uF next xs.size 0 xs.toList #[] (by simp)
theorem iS {α:Type}:∀(n:Nat) (xs:List α) {s:Shared} {Q:List α->Shared->Prop},xs.length<=n->(∀ys d,ys.Perm xs->Q ys {s with drawn:=d})->wpAny (model prog w) A (drawOrder n xs) Q E s
 | 0,xs,s,Q,hn,h=>by have:xs=[]:=List.length_eq_zero_iff.mp (by lia);subst this;unfold drawOrder;exact Qj (h [] s.drawn (List.Perm.refl _))
 | n + 1,[],s,Q,hn,h=>by unfold drawOrder;exact Qj (h [] s.drawn (List.Perm.refl _))
 | n + 1,x::xs,s,Q,hn,h=>by unfold drawOrder;refine Qg (oM (by simp) λi d hi=>?_);rw[QJ hi];dsimp only;refine Qg (iS n _ (by rw[List.length_eraseIdx_of_lt hi];simp at hn ⊢;lia) λys d' hp=>Qj ?_);exact h _ d' ((hp.cons _).trans (gC hi))
end
end Mx
end
section
namespace MxTim
open PySem PySem.W PyProof.Rows
noncomputable def Ce:Bool->Keyed->Array Keyed->Nat->Nat->Nat->StateT SortSt Sem (Option Nat):=sortPriv% PySem.Builtin.gallop
theorem Du (gh:Bool) (k:Keyed) (xs:Array Keyed) (b m h:Nat):Ce gh k xs b m h=(do
 let past (i:Nat):StateT SortSt Sem (Option Bool):=do
  let y<-elem' xs (b + i)
  if gh then lt' y k else return (<-lt' k y).map (!·)
 let mut la:=0
 let mut st:=1
 let mut u:=0
 let mut v:=0
 let some c0<-past h | return none
 if c0 then
  let mx:=m - h
  for _ in [0:m] do
   if st>=mx then break
   let some c1<-past (h + st) | return none
   if !c1 then break
   la:=st
   st:=2 * st + 1
  u:=h + la + 1
  v:=h + min st mx
 else
  let mx:=h + 1
  for _ in [0:m] do
   if st>=mx then break
   let some c1<-past (h - st) | return none
   if c1 then break
   la:=st
   st:=2 * st + 1
  u:=h + 1 - min st mx
  v:=h - la
 for _ in [0:m] do
  if u>=v then break
  let mm:=u + (v - u) / 2
  let some c2<-past mm | return none
  if c2 then u:=mm + 1 else v:=mm
 return some v):=rfl
section
variable {prog:Program} {w:World} {A:Around} {E:Value->Shared->Prop} {κ:SortKind} {s:Shared} {O:KeyOrd} {ky:Keyed->O.α} {Mem:Keyed->Prop}
noncomputable def Tells (prog:Program) (w:World) (A:Around) (κ:SortKind) (s:Shared) (O:KeyOrd) (ky:Keyed->O.α) (Mem:Keyed->Prop):Prop:=
 ∀x y,Mem x->Mem y->∀C:Bool->Shared->Prop,C (O.blt (ky x) (ky y)) s->wpAny (model prog w) A (keyLt' κ x.1 y.1) C (λ_ _=>False) s
theorem pU (T:Tells prog w A κ s O ky Mem) {x y:Keyed} (hx:Mem x) (hy:Mem y) {st:SortSt} (hk:kindOf st=κ) {Q:Option Bool->SortSt->Shared->Prop} (h:Q (some (O.blt (ky x) (ky y))) st s):kasC (model prog w) A E (lt' x y) Q st s:=by rw[lt'_eq];refine Qp (kasC_get ?_);rw[hk];refine Qp (kasC_lift (wpAny_attempt (wpAny_mono (T x y hx hy (λc s'=>Q (some c) st s') h) (λc s' hc=>?_) λ_ _ hF=>hF.elim)));exact Qt hc
theorem aR {xs:Array Keyed} {i:Nat} {x:Keyed} (hx:xs[i]?=some x) {st:SortSt} {Q:Keyed->SortSt->Shared->Prop} (h:Q x st s):kasC (model prog w) A E (elem' xs i) Q st s:=by rw[elem'_eq,hx];exact Qt h
theorem c8 {β:Type} {l:List Nat} {b0:β} {f:Nat->β->StateT SortSt Sem (ForInStep β)} {Q:β->SortSt->Shared->Prop} (Inv:Nat->β->SortSt->Prop) {dq:SortSt} (h0:Inv 0 b0 dq)
  (step:∀j b st x,j < l.length->Inv j b st->kasC (model prog w) A E (f x b) (λr ai s'=>s'=s/\match r with | .done b'=>Q b' ai s | .yield b'=>Inv (j + 1) b' ai) st s)
  (fin:∀b st,Inv l.length b st->Q b st s):kasC (model prog w) A E (forIn l b0 f) Q dq s:=by
 have go:∀(l':List Nat) (j:Nat) (b:β) (st:SortSt),j + l'.length=l.length->Inv j b st->kasC (model prog w) A E (forIn l' b f) Q st s:=by
  intro l'
  induction l' with
  | nil=>intro j b st hj hI;simp only[List.length_nil,Nat.add_zero] at hj;subst hj;exact kasC_nil (fin b st hI)
  | cons x l' ih=>
   intro j b st hj hI;simp only[QD] at hj;refine kasC_cons (wpAny_mono (step j b st x (by lia) hI) (λr s' h'=>?_) λ_ _ e=>e);obtain⟨r,ai⟩:=r;obtain⟨rfl,h'⟩:=h';cases r with
   | done b'=>exact h'
   | yield b'=>exact ih (j + 1) b' ai (by lia) h'
 exact go l 0 b0 dq (by lia) h0
theorem bM {α:Type} {m:StateT SortSt Sem α} {Q Q':α->SortSt->Shared->Prop} {st:SortSt} (h:kasC (model prog w) A E m Q st s) (hq:∀a ai s',Q a ai s'->Q' a ai s'):kasC (model prog w) A E m Q' st s:=by unfold kasC at h ⊢;exact wpAny_mono h (λr s' h'=>hq _ _ _ h') λ_ _ e=>e
noncomputable def dW (O:KeyOrd) (ky:Keyed->O.α) (gh:Bool) (k:Keyed) (g:Nat->Keyed) (i:Nat):Bool:=if gh=true then O.blt (ky (g i)) (ky k) else !O.blt (ky k) (ky (g i))
theorem i6 (T:Tells prog w A κ s O ky Mem) {gh:Bool} {k:Keyed} {xs:Array Keyed} {b m h:Nat} (g:Nat->Keyed) (hg:∀i,i < m->xs[b + i]?=some (g i)) (hm:∀i,i < m->Mem (g i)) (hk:Mem k) (hh:h < m)
  (mono:∀i j,i<=j->j < m->dW O ky gh k g j=true->dW O ky gh k g i=true) {st:SortSt} (hs:kindOf st=κ) {Q:Option Nat->SortSt->Shared->Prop}
  (q:∀v,v<=m->(∀i,i < v->dW O ky gh k g i=true)->(∀i,v<=i->i < m->dW O ky gh k g i=false)->Q (some v) st s):kasC (model prog w) A E (Ce gh k xs b m h) Q st s:=by
 have past:∀(i:Nat) {R:Option Bool->SortSt->Shared->Prop},i < m->R (some (dW O ky gh k g i)) st s->kasC (model prog w) A E (do
   let y<-elem' xs (b + i)
   if gh=true then lt' y k else do
    let r<-lt' k y
    pure (r.map (!·))) R st s:=λi R hi hR=>by
  refine Qp (aR (hg i hi) ?_);unfold dW at hR;cases gh with
  | true=>rw[if_pos rfl] at hR ⊢;exact pU T (hm i hi) hk hs hR
  | false=>rw[if_neg (by simp)] at hR ⊢;exact Qp (pU T hk (hm i hi) hs (Qt hR))
 have uz:∀i j,i<=j->j < m->dW O ky gh k g i=false->dW O ky gh k g j=false:=λi j fV hj hi=>by
  cases c:dW O ky gh k g j with
  | false=>rfl
  | true=>rw[mono i j fV hj c] at hi;cases hi
 rw[Du];dsimp only;refine Qp (past h hh ?_);dsimp only;cases c0:dW O ky gh k g h with
 | true=>
  rw[if_pos rfl];refine Qp (bM (Q:=λr ai s'=>st=ai/\s=s'/\∃la sp,r=(none,la,sp)/\h + la < m/\la < sp/\dW O ky gh k g (h + la)=true/\∀i,h + min sp (m - h)<=i->i < m->dW O ky gh k g i=false) (kasC_range (c8 (λj r ai=>st=ai/\∃la sp,r=(none,la,sp)/\h + la < m/\la < sp/\j + 1<=sp/\dW O ky gh k g (h + la)=true) ⟨rfl,0,1,rfl,by lia,by lia,by lia,c0⟩ (λj r ai x hj hI=>?_) (λr ai hI=>?_))) (λr ai s' hI=>?_))
  ·obtain⟨rfl,la,sp,rfl,tZ,mD,GO,hb⟩:=hI;dsimp only;by_cases c:sp>=m - h
   ·rw[if_pos c];exact Qt ⟨rfl,rfl,rfl,la,sp,rfl,tZ,mD,hb,λi hi him=>by lia⟩
   ·rw[if_neg c];refine Qp (past _ (by lia) ?_);dsimp only;cases cb:dW O ky gh k g (h + sp) with
    | true=>rw[if_neg (by simp)];exact Qt ⟨rfl,rfl,_,_,rfl,by lia,by lia,by lia,cb⟩
    | false=>rw[if_pos (by simp)];exact Qt ⟨rfl,rfl,rfl,la,sp,rfl,tZ,mD,hb,λi hi him=>uz (h + sp) i (by lia) him cb⟩
  ·obtain⟨rfl,la,sp,rfl,tZ,mD,GO,hb⟩:=hI;rw[List.length_range'] at GO;exact⟨rfl,rfl,la,sp,rfl,tZ,mD,hb,λi hi him=>by lia⟩
  obtain⟨rfl,rfl,la,sp,rfl,tZ,mD,hb,zZ⟩:=hI;have nO:∀i,i < h + la + 1->dW O ky gh k g i=true:=λi hi=>mono i _ (by lia) tZ hb
  dsimp only;refine Qp (kasC_range (c8 (λj r ai=>st=ai/\∃u v,r=(none,u,v)/\v<=m/\u<=v/\v - u + j<=m/\(∀i,i < u->dW O ky gh k g i=true)/\(∀i,v<=i->i < m->dW O ky gh k g i=false)) ⟨rfl,_,_,rfl,by lia,by lia,by lia,nO,zZ⟩ (λj r ai x hj hI=>?_) (λr ai hI=>?_)))
  ·obtain⟨rfl,u,v,rfl,hv,Lu,GQ,h1,h2⟩:=hI;dsimp only;by_cases c:u>=v
   ·rw[if_pos c];have e:u=v:=by lia
    subst e;exact Qt ⟨rfl,Qt (q u hv h1 h2)⟩
   ·rw[if_neg c];have ym:u + (v - u) / 2 < v:=by lia
    refine Qp (past _ (by lia) ?_);dsimp only;cases cb:dW O ky gh k g (u + (v - u) / 2) with
    | true=>rw[if_pos rfl];exact Qt ⟨rfl,rfl,_,_,rfl,hv,by lia,by lia,λi hi=>mono i _ (by lia) (by lia) cb,h2⟩
    | false=>rw[if_neg (by simp)];exact Qt ⟨rfl,rfl,_,_,rfl,by lia,by lia,by lia,h1,λi hi him=>uz _ i hi him cb⟩
  ·obtain⟨rfl,u,v,rfl,hv,Lu,GQ,h1,h2⟩:=hI;have e:u=v:=by
    rw[List.length_range'] at GQ
    lia
   subst e;exact Qt (q u hv h1 h2)
 | false=>
  rw[if_neg (by simp)];refine Qp (bM (Q:=λr ai s'=>st=ai/\s=s'/\∃la sp,r=(none,la,sp)/\la<=h/\la < sp/\dW O ky gh k g (h - la)=false/\∀i,i < h + 1 - min sp (h + 1)->dW O ky gh k g i=true) (kasC_range (c8 (λj r ai=>st=ai/\∃la sp,r=(none,la,sp)/\la<=h/\la < sp/\j + 1<=sp/\dW O ky gh k g (h - la)=false) ⟨rfl,0,1,rfl,by lia,by lia,by lia,c0⟩ (λj r ai x hj hI=>?_) (λr ai hI=>?_))) (λr ai s' hI=>?_))
  ·obtain⟨rfl,la,sp,rfl,tZ,mD,GO,hb⟩:=hI;dsimp only;by_cases c:sp>=h + 1
   ·rw[if_pos c];exact Qt ⟨rfl,rfl,rfl,la,sp,rfl,tZ,mD,hb,λi hi=>by lia⟩
   ·rw[if_neg c];refine Qp (past _ (by lia) ?_);dsimp only;cases cb:dW O ky gh k g (h - sp) with
    | true=>rw[if_pos rfl];exact Qt ⟨rfl,rfl,rfl,la,sp,rfl,tZ,mD,hb,λi hi=>mono i (h - sp) (by lia) (by lia) cb⟩
    | false=>rw[if_neg (by simp)];exact Qt ⟨rfl,rfl,_,_,rfl,by lia,by lia,by lia,cb⟩
  ·obtain⟨rfl,la,sp,rfl,tZ,mD,GO,hb⟩:=hI;rw[List.length_range'] at GO;exact⟨rfl,rfl,la,sp,rfl,tZ,mD,hb,λi hi=>by lia⟩
  obtain⟨rfl,rfl,la,sp,rfl,tZ,mD,hb,nO⟩:=hI;have zZ:∀i,h - la<=i->i < m->dW O ky gh k g i=false:=λi hi him=>uz (h - la) i (by lia) him hb
  dsimp only;refine Qp (kasC_range (c8 (λj r ai=>st=ai/\∃u v,r=(none,u,v)/\v<=m/\u<=v/\v - u + j<=m/\(∀i,i < u->dW O ky gh k g i=true)/\(∀i,v<=i->i < m->dW O ky gh k g i=false)) ⟨rfl,_,_,rfl,by lia,by lia,by lia,nO,zZ⟩ (λj r ai x hj hI=>?_) (λr ai hI=>?_)))
  ·obtain⟨rfl,u,v,rfl,hv,Lu,GQ,h1,h2⟩:=hI;dsimp only;by_cases c:u>=v
   ·rw[if_pos c];have e:u=v:=by lia
    subst e;exact Qt ⟨rfl,Qt (q u hv h1 h2)⟩
   ·rw[if_neg c];have ym:u + (v - u) / 2 < v:=by lia
    refine Qp (past _ (by lia) ?_);dsimp only;cases cb:dW O ky gh k g (u + (v - u) / 2) with
    | true=>rw[if_pos rfl];exact Qt ⟨rfl,rfl,_,_,rfl,hv,by lia,by lia,λi hi=>mono i _ (by lia) (by lia) cb,h2⟩
    | false=>rw[if_neg (by simp)];exact Qt ⟨rfl,rfl,_,_,rfl,by lia,by lia,by lia,h1,λi hi him=>uz _ i hi him cb⟩
  ·obtain⟨rfl,u,v,rfl,hv,Lu,GQ,h1,h2⟩:=hI;have e:u=v:=by
    rw[List.length_range'] at GQ
    lia
   subst e;exact Qt (q u hv h1 h2)
end
section
variable {O:KeyOrd} {ky:Keyed->O.α}
noncomputable def le (O:KeyOrd) (ky:Keyed->O.α) (x y:Keyed):Prop:=O.kle (ky x) (ky y)
noncomputable def gY (O:KeyOrd) (ky:Keyed->O.α) (l:List Keyed):Prop:=l.Pairwise (le O ky)
structure MI (O:KeyOrd) (ky:Keyed->O.α) (la lb out:List Keyed) (i j:Nat):Prop where
 p:out.Perm (la.take i++lb.take j)
 s:gY O ky out
 a:∀x∈out,∀y∈la.drop i,le O ky x y
 b:∀x∈out,∀y∈lb.drop j,le O ky x y
theorem cU {l:List Keyed} {i k:Nat}:l.drop i=(l.drop i).take k++l.drop (i + k):=by rw[<-List.drop_drop,List.take_append_drop]
theorem gQ {l:List Keyed} {i k:Nat}:l.take (i + k)=l.take i++(l.drop i).take k:=by rw[List.take_add]
theorem MI.o9 {la lb out:List Keyed} {i j k:Nat} (h:MI O ky la lb out i j) (sa:gY O ky la) (hk:∀x∈(la.drop i).take k,∀y∈lb.drop j,le O ky x y):MI O ky la lb (out++(la.drop i).take k) (i + k) j:=by
 have sd:gY O ky (la.drop i):=sa.sublist (List.drop_sublist _ _);rw[cU (k:=k)] at sd;obtain⟨s1,s2,s3⟩:=List.pairwise_append.mp sd;have D1:∀y∈(la.drop i).take k,y∈la.drop i:=λy hy=>List.mem_of_mem_take hy
 have vN:∀y∈la.drop (i + k),y∈la.drop i:=λy hy=>by rw[cU (k:=k)];exact QR _ hy
 refine⟨?_,List.pairwise_append.mpr ⟨h.s,s1,λx hx y hy=>h.a x hx y (D1 y hy)⟩,λx hx y hy=>?_,λx hx y hy=>?_⟩
 ·rw[gQ];refine(h.p.append_right _).trans ?_;rw[Qz,Qz];exact List.Perm.append_left _ List.perm_append_comm
 ·rcases QH.mp hx with hx | hx
  ·exact h.a x hx y (vN y hy)
  ·exact s3 x hx y hy
 ·rcases QH.mp hx with hx | hx
  ·exact h.b x hx y hy
  ·exact hk x hx y hy
theorem MI.pd {la lb out:List Keyed} {i j k:Nat} (h:MI O ky la lb out i j) (sb:gY O ky lb) (hk:∀x∈(lb.drop j).take k,∀y∈la.drop i,le O ky x y):MI O ky la lb (out++(lb.drop j).take k) i (j + k):=by
 have sd:gY O ky (lb.drop j):=sb.sublist (List.drop_sublist _ _);rw[cU (k:=k)] at sd;obtain⟨s1,s2,s3⟩:=List.pairwise_append.mp sd;have D1:∀y∈(lb.drop j).take k,y∈lb.drop j:=λy hy=>List.mem_of_mem_take hy
 have vN:∀y∈lb.drop (j + k),y∈lb.drop j:=λy hy=>by rw[cU (k:=k)];exact QR _ hy
 refine⟨?_,List.pairwise_append.mpr ⟨h.s,s1,λx hx y hy=>h.b x hx y (D1 y hy)⟩,λx hx y hy=>?_,λx hx y hy=>?_⟩
 ·rw[gQ];refine(h.p.append_right _).trans ?_;rw[Qz]
 ·rcases QH.mp hx with hx | hx
  ·exact h.a x hx y hy
  ·exact hk x hx y hy
 ·rcases QH.mp hx with hx | hx
  ·exact h.b x hx y (vN y hy)
  ·exact s3 x hx y hy
noncomputable def qQ (O:KeyOrd) (ky:Keyed->O.α) (la lb out:List Keyed):Prop:=out.Perm (la++lb)/\gY O ky out
theorem MI.tP {la lb out:List Keyed} {i j:Nat} (h:MI O ky la lb out i j) (sa:gY O ky la) (hj:lb.length<=j):qQ O ky la lb (out++la.drop i++lb.drop j):=by have e:lb.drop j=[]:=List.drop_of_length_le hj;have e2:lb.take j=lb:=List.take_of_length_le hj;rw[e,QY];refine⟨?_,List.pairwise_append.mpr ⟨h.s,sa.sublist (List.drop_sublist _ _),h.a⟩⟩;refine(h.p.append_right _).trans ?_;rw[e2,Qz];refine(List.Perm.append_left _ List.perm_append_comm).trans ?_;rw[<-Qz,List.take_append_drop]
theorem MI.Gj {la lb out:List Keyed} {i j:Nat} (h:MI O ky la lb out i j) (sb:gY O ky lb) (hi:la.length<=i):qQ O ky la lb (out++la.drop i++lb.drop j):=by have e:la.drop i=[]:=List.drop_of_length_le hi;have e2:la.take i=la:=List.take_of_length_le hi;rw[e,QY];refine⟨?_,List.pairwise_append.mpr ⟨h.s,sb.sublist (List.drop_sublist _ _),h.b⟩⟩;refine(h.p.append_right _).trans ?_;rw[e2,Qz,List.take_append_drop]
theorem MI.uk {la lb out:List Keyed} {i j:Nat} (h:MI O ky la lb out i j) (sa:gY O ky la) (sb:gY O ky lb) (hl:∀x∈lb.drop j,∀y∈la.drop i,le O ky x y):qQ O ky la lb (out++lb.drop j++la.drop i):=by
 refine⟨?_,List.pairwise_append.mpr ⟨List.pairwise_append.mpr ⟨h.s,sb.sublist (List.drop_sublist _ _),h.b⟩,sa.sublist (List.drop_sublist _ _),λx hx y hy=>?_⟩⟩
 ·refine((h.p.append_right _).append_right _).trans ?_;rw[Qz (la.take i),List.take_append_drop];refine(List.perm_append_comm).trans ?_;rw[<-Qz];refine(List.Perm.append_right _ List.perm_append_comm).trans ?_;rw[List.take_append_drop]
 ·rcases QH.mp hx with hx | hx
  ·exact h.a x hx y hy
  ·exact hl x hx y hy
theorem MI.start {la lb:List Keyed}:MI O ky la lb [] 0 0:=⟨by simp,List.Pairwise.nil,λx hx=>absurd hx (by simp),λx hx=>absurd hx (by simp)⟩
end
noncomputable def D3:Array Keyed->Array Keyed->StateT SortSt Sem (Array Keyed):=sortPriv% PySem.Builtin.mergeLo
noncomputable def setG:Nat->StateT SortSt Sem Unit:=sortPriv% PySem.Builtin.setMinGallop
noncomputable abbrev GS:=Option (Array Keyed)×Array Keyed×Nat×Nat×Nat×Nat×Nat
noncomputable abbrev SS:=Option (Array Keyed)×Array Keyed×Nat×Nat×Nat×Nat
noncomputable abbrev OS:=Option (Array Keyed)×Array Keyed×Nat×Nat×Nat
noncomputable def Ad (x y o:Array Keyed) (i j:Nat):Array Keyed:=o++x.extract i x.size++y.extract j y.size
noncomputable def vW (x y o:Array Keyed) (i j:Nat):Array Keyed:=o++y.extract j y.size++x.extract i x.size
noncomputable def Jl (x y o:Array Keyed) (i j mg ca cb:Nat):StateT SortSt Sem (ForInStep GS):=do
 let e<-elem' x i
 if (i + 1 + 1==x.size)=true then pure (.done (some (vW x y (o.push e) (i + 1) j),o.push e,i + 1,j,mg,ca,cb))
 else if (decide (ca < 7)&&decide (cb < 7))=true then pure (.done (none,o.push e,i + 1,j,mg,ca,cb))
 else pure (.yield (none,o.push e,i + 1,j,mg,ca,cb))
noncomputable def Jk (x y o:Array Keyed) (i j mg ca qM:Nat):StateT SortSt Sem (ForInStep GS):=do
 let e<-elem' y j
 if (j + 1==y.size)=true then pure (.done (some (Ad x y (o.push e) i (j + 1)),o.push e,i,j + 1,mg,ca,qM))
 else do
  let f<-elem' x i
  let r<-Ce true f y (j + 1) (y.size - (j + 1)) 0
  match r with
  | some k=>
   if k > 0 then
    if (j + 1 + k==y.size)=true then pure (.done (some (Ad x y (o.push e++y.extract (j + 1) (j + 1 + k)) i (j + 1 + k)),o.push e++y.extract (j + 1) (j + 1 + k),i,j + 1 + k,mg,ca,k))
    else Jl x y (o.push e++y.extract (j + 1) (j + 1 + k)) i (j + 1 + k) mg ca k
   else Jl x y (o.push e) i (j + 1) mg ca k
  | _=>pure (.done (some (Ad x y (o.push e) i (j + 1)),o.push e,i,j + 1,mg,ca,qM))
noncomputable def Jj (x y o:Array Keyed) (i j mg Kh qM:Nat):StateT SortSt Sem (ForInStep GS):=do
 setG mg
 let e<-elem' y j
 let r<-Ce false e x i (x.size - i) 0
 match r with
 | some k=>
  if k > 0 then
   if (i + k + 1==x.size)=true then pure (.done (some (vW x y (o++x.extract i (i + k)) (i + k) j),o++x.extract i (i + k),i + k,j,mg,k,qM))
   else if (i + k==x.size)=true then pure (.done (some (Ad x y (o++x.extract i (i + k)) (i + k) j),o++x.extract i (i + k),i + k,j,mg,k,qM))
   else Jk x y (o++x.extract i (i + k)) (i + k) j mg k qM
  else Jk x y o i j mg k qM
 | _=>pure (.done (some (Ad x y o i j),o,i,j,mg,Kh,qM))
noncomputable def Mj (x y:Array Keyed) (mg:Nat) (r:SS):StateT SortSt Sem (ForInStep SS):=do
 let e<-elem' y r.2.2.2.1
 let f<-elem' x r.2.2.1
 let c<-lt' e f
 match c with
 | some yw=>
  if yw=true then do
   let e<-elem' y r.2.2.2.1
   if (r.2.2.2.1 + 1==y.size)=true then pure (.done (some (Ad x y (r.2.1.push e) r.2.2.1 (r.2.2.2.1 + 1)),r.2.1.push e,r.2.2.1,r.2.2.2.1 + 1,0,r.2.2.2.2.2 + 1))
   else if r.2.2.2.2.2 + 1>=mg then pure (.done (none,r.2.1.push e,r.2.2.1,r.2.2.2.1 + 1,0,r.2.2.2.2.2 + 1))
   else pure (.yield (none,r.2.1.push e,r.2.2.1,r.2.2.2.1 + 1,0,r.2.2.2.2.2 + 1))
  else do
   let f<-elem' x r.2.2.1
   if (r.2.2.1 + 1 + 1==x.size)=true then pure (.done (some (vW x y (r.2.1.push f) (r.2.2.1 + 1) r.2.2.2.1),r.2.1.push f,r.2.2.1 + 1,r.2.2.2.1,r.2.2.2.2.1 + 1,0))
   else if r.2.2.2.2.1 + 1>=mg then pure (.done (none,r.2.1.push f,r.2.2.1 + 1,r.2.2.2.1,r.2.2.2.2.1 + 1,0))
   else pure (.yield (none,r.2.1.push f,r.2.2.1 + 1,r.2.2.2.1,r.2.2.2.2.1 + 1,0))
 | _=>pure (.done (some (Ad x y r.2.1 r.2.2.1 r.2.2.2.1),r.2.1,r.2.2.1,r.2.2.2.1,r.2.2.2.2.1,r.2.2.2.2.2))
noncomputable def Ej (x y:Array Keyed) (r:OS):StateT SortSt Sem (ForInStep OS):=do
 let a<-forIn [:x.size + y.size] ((none,r.2.1,r.2.2.1,r.2.2.2.1,0,0):SS) λ_ a=>Mj x y r.2.2.2.2 a
 match a.1 with
 | some v=>pure (.done (some v,a.2.1,a.2.2.1,a.2.2.2.1,r.2.2.2.2))
 | none=>do
  rule "list.sort.gallop"
  let b<-forIn [:x.size + y.size] ((none,a.2.1,a.2.2.1,a.2.2.2.1,r.2.2.2.2 + 1,a.2.2.2.2.1,a.2.2.2.2.2):GS) λ_ b=>
   if b.2.2.2.2.1 > 1 then Jj x y b.2.1 b.2.2.1 b.2.2.2.1 (b.2.2.2.2.1 - 1) b.2.2.2.2.2.1 b.2.2.2.2.2.2 else Jj x y b.2.1 b.2.2.1 b.2.2.2.1 b.2.2.2.2.1 b.2.2.2.2.2.1 b.2.2.2.2.2.2
  match b.1 with
  | some v=>pure (.done (some v,b.2.1,b.2.2.1,b.2.2.2.1,b.2.2.2.2.1))
  | none=>do
   setG (b.2.2.2.2.1 + 1)
   pure (.yield (none,b.2.1,b.2.2.1,b.2.2.2.1,b.2.2.2.2.1 + 1))
noncomputable def Nx (x y:Array Keyed):StateT SortSt Sem (Array Keyed):=do
 rule "list.sort.merge-lo"
 let e<-elem' y 0
 if (1==y.size)=true then pure (Ad x y #[e] 0 1)
 else if (0 + 1==x.size)=true then pure (vW x y #[e] 0 1)
 else do
  let st<-get
  let r<-forIn [:x.size + y.size] ((none,#[e],0,1,gallopOf st):OS) λ_ r=>Ej x y r
  match r.1 with
  | some a=>pure a
  | none=>unsupported "internal:list.sort.merge-bound"
theorem Bj (x y:Array Keyed):D3 x y=Nx x y:=by kernel_rfl
theorem jJ (x:Array Keyed) (i:Nat):(x.extract i x.size).toList=x.toList.drop i:=by rw[Array.toList_extract];show (x.toList.drop i).take (x.size - i)=_;exact List.take_of_length_le (by rw[List.length_drop];simp)
theorem kB (x:Array Keyed) (i k:Nat):(x.extract i (i + k)).toList=(x.toList.drop i).take k:=by rw[Array.toList_extract];show (x.toList.drop i).take (i + k - i)=_;rw[Nat.add_sub_cancel_left]
theorem fN (x y o:Array Keyed) (i j:Nat):(Ad x y o i j).toList=o.toList++x.toList.drop i++y.toList.drop j:=by unfold Ad;rw[Array.toList_append,Array.toList_append,jJ,jJ]
theorem fY (x y o:Array Keyed) (i j:Nat):(vW x y o i j).toList=o.toList++y.toList.drop j++x.toList.drop i:=by unfold vW;rw[Array.toList_append,Array.toList_append,jJ,jJ]
theorem aG {x:Array Keyed} {i:Nat} (h:i < x.size):x[i]?=some (kas_item x i):=by unfold kas_item;simp[Array.getD,h]
theorem take_one {x:Array Keyed} {i:Nat} (h:i < x.size):(x.toList.drop i).take 1=[kas_item x i]:=by have e:x.toList.drop i=x.toList[i]'(by simpa using h)::x.toList.drop (i + 1):=List.drop_eq_getElem_cons (by simpa using h);rw[e];unfold kas_item;simp[Array.getD,h]
theorem fX {x o:Array Keyed} {i:Nat} (h:i < x.size):(o.push (kas_item x i)).toList=o.toList++(x.toList.drop i).take 1:=by rw[take_one h];simp
section
variable {O:KeyOrd} {ky:Keyed->O.α} {Mem:Keyed->Prop}
theorem cO {x:Array Keyed} (sx:gY O ky x.toList) {i j:Nat} (fV:i<=j) (hj:j < x.size):le O ky (kas_item x i) (kas_item x j):=by
 have e:∀k,(h:k < x.size)->kas_item x k=x.toList[k]'(by simpa using h):=λk h=>by unfold kas_item;simp[Array.getD,h]
 rw[e i (by lia),e j hj];by_cases c:i=j
 ·subst c;exact KeyOrd.kle_refl _
 ·exact List.pairwise_iff_getElem.mp sx i j (by simpa using (show i < x.size by lia)) (by simpa using hj) (by lia)
theorem cF {x:Array Keyed} {i:Nat} {e:Keyed} (h:e∈x.toList.drop i):∃k,i<=k/\k < x.size/\e=kas_item x k:=by
 obtain⟨k,hk,rfl⟩:=List.getElem_of_mem h;rw[List.length_drop] at hk;have wz:i + k < x.size:=by simp at hk;lia
 refine⟨i + k,by lia,wz,?_⟩;rw[List.getElem_drop];unfold kas_item;simp[Array.getD,wz]
theorem aV {x:Array Keyed} {i n:Nat} {e:Keyed} (h:e∈(x.toList.drop i).take n):∃k,i<=k/\k < i + n/\k < x.size/\e=kas_item x k:=by
 obtain⟨k,hk,rfl⟩:=List.getElem_of_mem h;rw[List.length_take,List.length_drop] at hk;have wz:i + k < x.size:=by simp at hk;lia
 refine⟨i + k,by lia,by lia,wz,?_⟩;rw[List.getElem_take,List.getElem_drop];unfold kas_item;simp[Array.getD,wz]
structure MP (O:KeyOrd) (ky:Keyed->O.α) (Mem:Keyed->Prop) (x y:Array Keyed):Prop where
 sa:gY O ky x.toList
 sb:gY O ky y.toList
 ma:∀i,i < x.size->Mem (kas_item x i)
 mb:∀i,i < y.size->Mem (kas_item y i)
 pa:1<=x.size
 pb:1<=y.size
 first:O.blt (ky (kas_item y 0)) (ky (kas_item x 0))=true
 last:∀j,j < y.size->O.blt (ky (kas_item y j)) (ky (kas_item x (x.size - 1)))=true
theorem MP.lst {x y:Array Keyed} (h:MP O ky Mem x y) {i j:Nat} (hi:i + 1=x.size):∀e∈y.toList.drop j,∀f∈x.toList.drop i,le O ky e f:=λe he f hf=>by
 obtain⟨k,_,k2,rfl⟩:=cF he;obtain⟨l,l1,l2,rfl⟩:=cF hf;have:l=x.size - 1:=by lia
 subst this;exact KeyOrd.kle_of_klt (h.last k k2)
structure Am (O:KeyOrd) (ky:Keyed->O.α) (x y o:Array Keyed) (i j:Nat):Prop where
 m:MI O ky x.toList y.toList o.toList i j
 i1:i + 1 < x.size
 j1:j < y.size
noncomputable def GP (O:KeyOrd) (ky:Keyed->O.α) (x y:Array Keyed) (n:Nat) (v:Option (Array Keyed)) (o:Array Keyed) (i j:Nat):Prop:=(∃a,v=some a/\qQ O ky x.toList y.toList a.toList)\/(v=none/\Am O ky x y o i j/\n<=i + j)
noncomputable def SI (dq st:SortSt):Prop:=kindOf st=kindOf dq/\arrOf st=arrOf dq/\pendingOf st=pendingOf dq/\failedOf st=failedOf dq
theorem SI.refl (st:SortSt):SI st st:=⟨rfl,rfl,rfl,rfl⟩
theorem SI.trans {a b c:SortSt} (h:SI a b) (g:SI b c):SI a c:=⟨g.1.trans h.1,g.2.1.trans h.2.1,g.2.2.1.trans h.2.2.1,g.2.2.2.trans h.2.2.2⟩
variable {prog:Program} {w:World} {A:Around} {E:Value->Shared->Prop} {κ:SortKind} {s:Shared}
theorem j5 {g:Nat} {st:SortSt} {Q:Unit->SortSt->Shared->Prop} (h:∀ai,SI st ai->Q () ai s):kasC (model prog w) A E (setG g) Q st s:=by
 have e:setG g=modify λt=>SortSt.mk' (kindOf t) (arrOf t) (pendingOf t) g (failedOf t):=by kernel_rfl
 rw[e];exact kasC_modify (h _ ⟨rfl,rfl,rfl,rfl⟩)
noncomputable def wF (O:KeyOrd) (ky:Keyed->O.α) (x y:Array Keyed) (n:Nat):ForInStep GS->Prop
 | .done r=>GP O ky x y n r.1 r.2.1 r.2.2.1 r.2.2.2.1
 | .yield r=>r.1=none/\GP O ky x y n r.1 r.2.1 r.2.2.1 r.2.2.2.1
theorem xT {x y o:Array Keyed} (M:MP O ky Mem x y) {i j mg ca cb n:Nat} (h:MI O ky x.toList y.toList o.toList i j) (hi:i + 1 < x.size) (hj:j < y.size) (hk:∀l,j<=l->l < y.size->le O ky (kas_item x i) (kas_item y l)) (hn:n<=i + 1 + j) {st:SortSt} {Q:ForInStep GS->SortSt->Shared->Prop}
  (q:∀r,wF O ky x y n r->Q r st s):kasC (model prog w) A E (Jl x y o i j mg ca cb) Q st s:=by
 unfold Jl;refine Qp (aR (aG (by lia)) ?_);have m1:=h.o9 (k:=1) M.sa (λe he f hf=>by
  obtain⟨a,a1,a2,a3,rfl⟩:=aV he;obtain⟨b,b1,b2,rfl⟩:=cF hf;have:a=i:=by lia
  subst this;exact hk b b1 b2)
 rw[<-fX (x:=x) (by lia)] at m1;by_cases c:(i + 1 + 1==x.size)=true
 ·rw[if_pos c];have c':i + 1 + 1=x.size:=by simpa using c
  refine Qt (q _ (.inl ⟨_,rfl,?_⟩));rw[fY];exact m1.uk M.sa M.sb (M.lst c')
 ·rw[if_neg c];have c':¬i + 1 + 1=x.size:=by simpa using c
  have g:GP O ky x y n none (o.push (kas_item x i)) (i + 1) j:= .inr ⟨rfl,⟨m1,by lia,hj⟩,by lia⟩;by_cases d:(decide (ca < 7)&&decide (cb < 7))=true
  ·rw[if_pos d];exact Qt (q _ g)
  ·rw[if_neg d];exact Qt (q _ ⟨rfl,g⟩)
theorem xS (T:Tells prog w A κ s O ky Mem) {x y o:Array Keyed} (M:MP O ky Mem x y) {i j mg ca cb n:Nat} (h:MI O ky x.toList y.toList o.toList i j) (hi:i + 1 < x.size) (hj:j < y.size) (hk:∀l,i<=l->l < x.size->le O ky (kas_item y j) (kas_item x l)) (hn:n<=i + j + 1) {st:SortSt} (hs:kindOf st=κ)
  {Q:ForInStep GS->SortSt->Shared->Prop} (q:∀r,wF O ky x y n r->Q r st s):kasC (model prog w) A E (Jk x y o i j mg ca cb) Q st s:=by
 unfold Jk;refine Qp (aR (aG hj) ?_);have m1:=h.pd (k:=1) M.sb (λe he f hf=>by
  obtain⟨a,a1,a2,a3,rfl⟩:=aV he;obtain⟨b,b1,b2,rfl⟩:=cF hf;have:a=j:=by lia
  subst this;exact hk b b1 b2)
 rw[<-fX (x:=y) hj] at m1;by_cases c:(j + 1==y.size)=true
 ·rw[if_pos c];have c':j + 1=y.size:=by simpa using c
  refine Qt (q _ (.inl ⟨_,rfl,?_⟩));rw[fN];exact m1.tP M.sa (by simp;lia)
 ·rw[if_neg c];have c':¬j + 1=y.size:=by simpa using c
  refine Qp (aR (aG (by lia)) (Qp ?_));refine i6 T (λt=>kas_item y (j + 1 + t)) (λt ht=>aG (by lia)) (λt ht=>M.mb _ (by lia)) (M.ma i (by lia)) (by lia) (λa b gD hb pI=>?_) hs (λk hk1 cC iT=>?_)
  ·unfold dW at pI ⊢;rw[if_pos rfl] at pI ⊢;have:=cO M.sb (show j + 1 + a<=j + 1 + b by lia) (by lia);exact KeyOrd.klt_of_kle_of_klt this pI
  ·have lo:∀t,t < k->O.blt (ky (kas_item y (j + 1 + t))) (ky (kas_item x i))=true:=λt ht=>by have:=cC t ht;unfold dW at this;rw[if_pos rfl] at this;exact this
   have vB:∀l,j + 1 + k<=l->l < y.size->le O ky (kas_item x i) (kas_item y l):=λl cP dh=>by have z:=iT (l - (j + 1)) (by lia) (by lia);unfold dW at z;rw[if_pos rfl] at z;have z2:O.blt (ky (kas_item y (j + 1 + (l - (j + 1))))) (ky (kas_item x i))=false:=z;rw[show j + 1 + (l - (j + 1))=l by lia] at z2;exact z2
   dsimp only;by_cases k0:k > 0
   ·rw[if_pos k0];have m2:=m1.pd (k:=k) M.sb (λe he f hf=>by
     obtain⟨a,a1,a2,a3,rfl⟩:=aV he;obtain⟨b,b1,b2,rfl⟩:=cF hf;have h1:=lo (a - (j + 1)) (by lia);rw[show j + 1 + (a - (j + 1))=a by lia] at h1;exact QM (KeyOrd.kle_of_klt h1) (cO M.sa b1 b2))
    rw[<-kB,<-Array.toList_append] at m2;by_cases d:(j + 1 + k==y.size)=true
    ·rw[if_pos d];have d':j + 1 + k=y.size:=by simpa using d
     refine Qt (q _ (.inl ⟨_,rfl,?_⟩));rw[fN];exact m2.tP M.sa (by simp;lia)
    ·rw[if_neg d];have d':¬j + 1 + k=y.size:=by simpa using d
     exact xT M m2 hi (by lia) vB (by lia) q
   ·rw[if_neg k0];have:k=0:=by lia
    subst this;exact xT M m1 hi (by lia) vB (by lia) q
theorem xR (T:Tells prog w A κ s O ky Mem) {x y o:Array Keyed} (M:MP O ky Mem x y) {i j mg ca cb n:Nat} (h:Am O ky x y o i j) (hn:n<=i + j) {dq st:SortSt} (hs:kindOf st=κ) (lH:SI dq st)
  {Q:ForInStep GS->SortSt->Shared->Prop} (q:∀r ai,SI dq ai->wF O ky x y n r->Q r ai s):kasC (model prog w) A E (Jj x y o i j mg ca cb) Q st s:=by
 unfold Jj;have hi:=h.i1;have hj:=h.j1;refine Qp (j5 λoz h1=>?_);have Ac:kindOf oz=κ:=h1.1.trans hs;have q':=λr=>q r oz (lH.trans h1)
 refine Qp (aR (aG hj) (Qp ?_));refine i6 T (λt=>kas_item x (i + t)) (λt ht=>aG (by lia)) (λt ht=>M.ma _ (by lia)) (M.mb j hj) (by lia) (λa b gD hb pI=>?_) Ac (λk hk1 cC iT=>?_)
 ·unfold dW at pI ⊢;rw[if_neg (by simp)] at pI ⊢;have:=cO M.sa (show i + a<=i + b by lia) (by lia);cases z:O.blt (ky (kas_item y j)) (ky (kas_item x (i + a))) with
  | false=>rfl
  | true=>have z2:O.blt (ky (kas_item y j)) (ky (kas_item x (i + b)))=true:=KeyOrd.klt_of_klt_of_kle z this;have xZ:(!O.blt (ky (kas_item y j)) (ky (kas_item x (i + b))))=true:=pI;rw[z2] at xZ;cases xZ
 ·have lo:∀t,t < k->le O ky (kas_item x (i + t)) (kas_item y j):=λt ht=>by have z:=cC t ht;unfold dW at z;rw[if_neg (by simp)] at z;have z2:(!O.blt (ky (kas_item y j)) (ky (kas_item x (i + t))))=true:=z;show O.blt (ky (kas_item y j)) (ky (kas_item x (i + t)))=false;simpa using z2
  have vB:∀l,i + k<=l->l < x.size->le O ky (kas_item y j) (kas_item x l):=λl cP dh=>by
   have z:=iT (l - i) (by lia) (by lia);unfold dW at z;rw[if_neg (by simp)] at z;have z2:(!O.blt (ky (kas_item y j)) (ky (kas_item x (i + (l - i)))))=false:=z;rw[show i + (l - i)=l by lia] at z2;have z3:O.blt (ky (kas_item y j)) (ky (kas_item x l))=true:=by simpa using z2
   exact KeyOrd.kle_of_klt z3
  dsimp only;by_cases k0:k > 0
  ·rw[if_pos k0];have m2:=h.m.o9 (k:=k) M.sa (λe he f hf=>by
    obtain⟨a,a1,a2,a3,rfl⟩:=aV he;obtain⟨b,b1,b2,rfl⟩:=cF hf;have h1:=lo (a - i) (by lia);rw[show i + (a - i)=a by lia] at h1;exact QM h1 (cO M.sb b1 b2))
   rw[<-kB,<-Array.toList_append] at m2;by_cases c:(i + k + 1==x.size)=true
   ·rw[if_pos c];have c':i + k + 1=x.size:=by simpa using c
    refine Qt (q' _ (.inl ⟨_,rfl,?_⟩));rw[fY];exact m2.uk M.sa M.sb (M.lst c')
   ·rw[if_neg c];have c':¬i + k + 1=x.size:=by simpa using c
    by_cases d:(i + k==x.size)=true
    ·rw[if_pos d];have d':i + k=x.size:=by simpa using d
     refine Qt (q' _ (.inl ⟨_,rfl,?_⟩));rw[fN];exact m2.Gj M.sb (by simp;lia)
    ·rw[if_neg d];have d':¬i + k=x.size:=by simpa using d
     exact xS T M m2 (by lia) hj vB (by lia) Ac q'
  ·rw[if_neg k0];have:k=0:=by lia
   subst this;exact xS T M h.m hi hj vB (by lia) Ac q'
end
section
variable {O:KeyOrd} {ky:Keyed->O.α} {Mem:Keyed->Prop}
variable {prog:Program} {w:World} {A:Around} {E:Value->Shared->Prop} {κ:SortKind} {s:Shared}
noncomputable def SStep (O:KeyOrd) (ky:Keyed->O.α) (x y:Array Keyed) (n:Nat):ForInStep SS->Prop
 | .done r=>GP O ky x y n r.1 r.2.1 r.2.2.1 r.2.2.2.1
 | .yield r=>r.1=none/\GP O ky x y n r.1 r.2.1 r.2.2.1 r.2.2.2.1
theorem GP.none {x y:Array Keyed} {n:Nat} {v:Option (Array Keyed)} {o:Array Keyed} {i j:Nat} (h:GP O ky x y n v o i j) (hv:v=none):Am O ky x y o i j/\n<=i + j:=by
 rcases h with ⟨a,e,_⟩ | ⟨_,h⟩
 ·rw[hv] at e;cases e
 ·exact h
theorem E6 (T:Tells prog w A κ s O ky Mem) {x y:Array Keyed} (M:MP O ky Mem x y) {mg:Nat} {r:SS} (h:Am O ky x y r.2.1 r.2.2.1 r.2.2.2.1) {n:Nat} (hn:n<=r.2.2.1 + r.2.2.2.1 + 1) {st:SortSt} (hs:kindOf st=κ)
  {Q:ForInStep SS->SortSt->Shared->Prop} (q:∀r',SStep O ky x y n r'->Q r' st s):kasC (model prog w) A E (Mj x y mg r) Q st s:=by
 obtain⟨v,o,i,j,ca,cb⟩:=r;have hi:i + 1 < x.size:=h.i1;have hj:j < y.size:=h.j1;have hm:MI O ky x.toList y.toList o.toList i j:=h.m;dsimp only at hn;unfold Mj;dsimp only;refine Qp (aR (aG hj) (Qp (aR (aG (by lia)) (Qp (pU T (M.mb j hj) (M.ma i (by lia)) hs ?_)))));dsimp only;cases c:O.blt (ky (kas_item y j)) (ky (kas_item x i)) with
 | true=>
  rw[if_pos rfl];refine Qp (aR (aG hj) ?_);have m1:=hm.pd (k:=1) M.sb (λe he f hf=>by
   obtain⟨a,a1,a2,a3,rfl⟩:=aV he;obtain⟨b,b1,b2,rfl⟩:=cF hf;have:a=j:=by lia
   subst this;exact QM (KeyOrd.kle_of_klt c) (cO M.sa b1 b2))
  rw[<-fX (x:=y) hj] at m1;by_cases d:(j + 1==y.size)=true
  ·rw[if_pos d];have d':j + 1=y.size:=by simpa using d
   refine Qt (q _ (.inl ⟨_,rfl,?_⟩));rw[fN];exact m1.tP M.sa (by simp;lia)
  ·rw[if_neg d];have d':¬j + 1=y.size:=by simpa using d
   have g:GP O ky x y n none (o.push (kas_item y j)) i (j + 1):= .inr ⟨rfl,⟨m1,hi,by lia⟩,by lia⟩;by_cases e:cb + 1>=mg
   ·rw[if_pos e];exact Qt (q _ g)
   ·rw[if_neg e];exact Qt (q _ ⟨rfl,g⟩)
 | false=>
  rw[if_neg (by simp)];refine Qp (aR (aG (by lia)) ?_);have m1:=hm.o9 (k:=1) M.sa (λe he f hf=>by
   obtain⟨a,a1,a2,a3,rfl⟩:=aV he;obtain⟨b,b1,b2,rfl⟩:=cF hf;have:a=i:=by lia
   subst this;exact QM (show O.kle (ky (kas_item x a)) (ky (kas_item y j)) from c) (cO M.sb b1 b2))
  rw[<-fX (x:=x) (by lia)] at m1;by_cases d:(i + 1 + 1==x.size)=true
  ·rw[if_pos d];have d':i + 1 + 1=x.size:=by simpa using d
   refine Qt (q _ (.inl ⟨_,rfl,?_⟩));rw[fY];exact m1.uk M.sa M.sb (M.lst d')
  ·rw[if_neg d];have d':¬i + 1 + 1=x.size:=by simpa using d
   have g:GP O ky x y n none (o.push (kas_item x i)) (i + 1) j:= .inr ⟨rfl,⟨m1,by lia,hj⟩,by lia⟩;by_cases e:ca + 1>=mg
   ·rw[if_pos e];exact Qt (q _ g)
   ·rw[if_neg e];exact Qt (q _ ⟨rfl,g⟩)
noncomputable def FW (O:KeyOrd) (ky:Keyed->O.α) (x y:Array Keyed) (n:Nat):ForInStep OS->Prop
 | .done r=>∃a,r.1=some a/\qQ O ky x.toList y.toList a.toList
 | .yield r=>r.1=none/\Am O ky x y r.2.1 r.2.2.1 r.2.2.2.1/\n<=r.2.2.1 + r.2.2.2.1
theorem Bp (T:Tells prog w A κ s O ky Mem) {x y:Array Keyed} (M:MP O ky Mem x y) {r:OS} (h:Am O ky x y r.2.1 r.2.2.1 r.2.2.2.1) {n:Nat} (hn:n<=r.2.2.1 + r.2.2.2.1) {dq st:SortSt} (hs:kindOf st=κ) (lH:SI dq st)
  {Q:ForInStep OS->SortSt->Shared->Prop} (q:∀r' ai,SI dq ai->FW O ky x y (n + 1) r'->Q r' ai s):kasC (model prog w) A E (Ej x y r) Q st s:=by
 unfold Ej;have hp:=M.pa;refine Qp (bM (Q:=λa ai s'=>st=ai/\s=s'/\GP O ky x y (n + 1) a.1 a.2.1 a.2.2.1 a.2.2.2.1) (kasC_range (c8 (λjj a ai=>st=ai/\a.1=none/\Am O ky x y a.2.1 a.2.2.1 a.2.2.2.1/\n + jj<=a.2.2.1 + a.2.2.2.1) ⟨rfl,rfl,h,by simpa using hn⟩ (λjj a ai z hj hI=>?_) (λa ai hI=>?_))) (λa ai s' hI=>?_))
 ·obtain⟨rfl,a0,C0,an⟩:=hI;refine E6 T M C0 (n:=n + jj + 1) (by lia) hs (λr' cX=>⟨rfl,?_⟩);cases r' with
  | done b=>
   refine⟨rfl,rfl,?_⟩;rcases cX with ⟨v,e,m⟩ | ⟨e,ok,l⟩
   ·exact .inl ⟨v,e,m⟩
   ·exact .inr ⟨e,ok,by lia⟩
  | yield b=>obtain⟨b0,gb⟩:=cX;obtain⟨ok,l⟩:=gb.none b0;exact⟨rfl,b0,ok,by lia⟩
 ·obtain⟨rfl,a0,C0,an⟩:=hI;rw[List.length_range'] at an;exact⟨rfl,rfl,.inr ⟨a0,C0,by lia⟩⟩
 obtain⟨rfl,rfl,ga⟩:=hI;rcases ga with ⟨v,e,m⟩ | ⟨e,ok,l⟩
 ·rw[e];exact Qt (q _ _ lH ⟨v,rfl,m⟩)
 ·rw[e];refine Qp (kasC_lift (wpAny_rule ?_));refine Qp (bM (Q:=λb ai s'=>SI dq ai/\s=s'/\GP O ky x y (n + 1) b.1 b.2.1 b.2.2.1 b.2.2.2.1) (kasC_range (c8 (λjj b ai=>SI dq ai/\kindOf ai=κ/\b.1=none/\Am O ky x y b.2.1 b.2.2.1 b.2.2.2.1/\n + 1<=b.2.2.1 + b.2.2.2.1) ⟨lH,hs,rfl,ok,l⟩ (λjj b ai z hj hI=>?_) (λb ai hI=>?_))) (λb ai s' hI=>?_))
  ·obtain⟨si,ks,b0,As,bn⟩:=hI;have kk:∀dS,SI dq dS->kindOf dS=κ:=λdS h2=>(h2.1.trans si.1.symm).trans ks
   by_cases c:b.2.2.2.2.1 > 1
   ·rw[if_pos c];refine xR T M As bn ks si (λr' dS h2 cX=>⟨rfl,?_⟩);cases r' with
    | done b'=>exact⟨h2,rfl,cX⟩
    | yield b'=>obtain⟨c0,gc⟩:=cX;obtain⟨Ea,l'⟩:=gc.none c0;exact⟨h2,kk dS h2,c0,Ea,l'⟩
   ·rw[if_neg c];refine xR T M As bn ks si (λr' dS h2 cX=>⟨rfl,?_⟩);cases r' with
    | done b'=>exact⟨h2,rfl,cX⟩
    | yield b'=>obtain⟨c0,gc⟩:=cX;obtain⟨Ea,l'⟩:=gc.none c0;exact⟨h2,kk dS h2,c0,Ea,l'⟩
  ·obtain⟨si,ks,b0,As,bn⟩:=hI;exact⟨si,rfl,.inr ⟨b0,As,bn⟩⟩
  obtain⟨si,rfl,gb⟩:=hI;rcases gb with ⟨v,e2,m⟩ | ⟨e2,LS,l2⟩
  ·rw[e2];exact Qt (q _ _ si ⟨v,rfl,m⟩)
  ·rw[e2];exact Qp (j5 λdS h2=>Qt (q _ _ (si.trans h2) ⟨rfl,LS,l2⟩))
theorem Bk (T:Tells prog w A κ s O ky Mem) {x y:Array Keyed} (M:MP O ky Mem x y) {st:SortSt} (hs:kindOf st=κ) {Q:Array Keyed->SortSt->Shared->Prop} (q:∀v ai,SI st ai->qQ O ky x.toList y.toList v.toList->Q v ai s):kasC (model prog w) A E (D3 x y) Q st s:=by
 rw[Bj];unfold Nx;have hp:=M.pa;have hq:=M.pb;refine Qp (kasC_lift (wpAny_rule ?_));refine Qp (aR (aG (by lia)) ?_);have m1:=(MI.start (O:=O) (ky:=ky) (la:=x.toList) (lb:=y.toList)).pd (k:=1) M.sb (λe he f hf=>by
  obtain⟨a,a1,a2,a3,rfl⟩:=aV he;obtain⟨b,b1,b2,rfl⟩:=cF hf;have:a=0:=by lia
  subst this;exact QM (KeyOrd.kle_of_klt M.first) (cO M.sa (Nat.zero_le b) b2))
 have e0:(#[kas_item y 0]:Array Keyed).toList=[]++(y.toList.drop 0).take 1:=by rw[take_one (by lia)];rfl
 rw[<-e0,Nat.zero_add] at m1;by_cases c:(1==y.size)=true
 ·rw[if_pos c];have c':1=y.size:=by simpa using c
  refine Qt (q _ _ (SI.refl _) ?_);rw[fN];exact m1.tP M.sa (by simp;lia)
 ·rw[if_neg c];have c':¬1=y.size:=by simpa using c
  by_cases d:(0 + 1==x.size)=true
  ·rw[if_pos d];have d':0 + 1=x.size:=by simpa using d
   refine Qt (q _ _ (SI.refl _) ?_);rw[fY];exact m1.uk M.sa M.sb (M.lst d')
  ·rw[if_neg d];have d':¬0 + 1=x.size:=by simpa using d
   refine Qp (kasC_get ?_);refine Qp (bM (Q:=λr ai s'=>SI st ai/\s=s'/\∃a,r.1=some a/\qQ O ky x.toList y.toList a.toList) (kasC_range (c8 (λjj r ai=>SI st ai/\r.1=none/\Am O ky x y r.2.1 r.2.2.1 r.2.2.2.1/\jj + 1<=r.2.2.1 + r.2.2.2.1) ⟨SI.refl _,rfl,⟨m1,(show 0 + 1 < x.size by lia),(show 1 < y.size by lia)⟩,by simp⟩ (λjj r ai z hj hI=>?_) (λr ai hI=>?_))) (λr ai s' hI=>?_))
   ·obtain⟨si,r0,BL,rn⟩:=hI;refine Bp T M BL rn (si.1.trans hs) si (λr' dS h2 cX=>⟨rfl,?_⟩);cases r' with
    | done b=>exact⟨h2,rfl,cX⟩
    | yield b=>exact⟨h2,cX.1,cX.2.1,cX.2.2⟩
   ·obtain⟨si,r0,BL,rn⟩:=hI;rw[List.length_range'] at rn;have h1:=BL.i1;have h2:=BL.j1
    lia
   obtain⟨si,rfl,a,e,m⟩:=hI;rw[e];exact Qt (q _ _ si m)
end
section
variable {O:KeyOrd} {ky:Keyed->O.α}
structure HI (O:KeyOrd) (ky:Keyed->O.α) (la lb R:List Keyed) (i j:Nat):Prop where
 p:R.Perm (la.drop i++lb.drop j)
 s:gY O ky R
 a:∀x∈la.take i,∀y∈R,le O ky x y
 b:∀x∈lb.take j,∀y∈R,le O ky x y
theorem fR {l:List Keyed} {i k:Nat} (h:k<=i):l.take i=l.take k++(l.drop k).take (i - k):=by have:=gQ (l:=l) (i:=k) (k:=i - k);rw[show k + (i - k)=i by lia] at this;exact this
theorem kg {l:List Keyed} {i k:Nat} (h:k<=i):l.drop k=(l.drop k).take (i - k)++l.drop i:=by have:=cU (l:=l) (i:=k) (k:=i - k);rw[show k + (i - k)=i by lia] at this;exact this
theorem HI.o9 {la lb R:List Keyed} {i k j:Nat} (h:HI O ky la lb R i j) (hk:k<=i) (sa:gY O ky la) (hb:∀e∈(la.drop k).take (i - k),∀y∈lb.take j,le O ky y e):HI O ky la lb ((la.drop k).take (i - k)++R) k j:=by
 have st:gY O ky (la.take i):=sa.sublist (List.take_sublist _ _);rw[fR hk] at st;obtain⟨s1,s2,s3⟩:=List.pairwise_append.mp st;have m1:∀y∈(la.drop k).take (i - k),y∈la.take i:=λy hy=>by rw[fR hk];exact QR _ hy
 have m2:∀y∈la.take k,y∈la.take i:=λy hy=>by rw[fR hk];exact List.mem_append_left _ hy
 refine⟨?_,List.pairwise_append.mpr ⟨s2,h.s,λx hx y hy=>h.a x (m1 x hx) y hy⟩,λx hx y hy=>?_,λx hx y hy=>?_⟩
 ·refine(h.p.append_left _).trans ?_;rw[<-Qz,<-kg (l:=la) hk]
 ·rcases QH.mp hy with hy | hy
  ·exact s3 x hx y hy
  ·exact h.a x (m2 x hx) y hy
 ·rcases QH.mp hy with hy | hy
  ·exact hb y hy x hx
  ·exact h.b x hx y hy
theorem HI.pd {la lb R:List Keyed} {i k j:Nat} (h:HI O ky la lb R i j) (hk:k<=j) (sb:gY O ky lb) (hb:∀e∈(lb.drop k).take (j - k),∀y∈la.take i,le O ky y e):HI O ky la lb ((lb.drop k).take (j - k)++R) i k:=by
 have st:gY O ky (lb.take j):=sb.sublist (List.take_sublist _ _);rw[fR hk] at st;obtain⟨s1,s2,s3⟩:=List.pairwise_append.mp st;have m1:∀y∈(lb.drop k).take (j - k),y∈lb.take j:=λy hy=>by rw[fR hk];exact QR _ hy
 have m2:∀y∈lb.take k,y∈lb.take j:=λy hy=>by rw[fR hk];exact List.mem_append_left _ hy
 refine⟨?_,List.pairwise_append.mpr ⟨s2,h.s,λx hx y hy=>h.b x (m1 x hx) y hy⟩,λx hx y hy=>?_,λx hx y hy=>?_⟩
 ·refine(h.p.append_left _).trans ?_;rw[<-Qz];refine(List.Perm.append_right _ List.perm_append_comm).trans ?_;rw[Qz,<-kg (l:=lb) hk]
 ·rcases QH.mp hy with hy | hy
  ·exact hb y hy x hx
  ·exact h.a x hx y hy
 ·rcases QH.mp hy with hy | hy
  ·exact s3 x hx y hy
  ·exact h.b x (m2 x hx) y hy
theorem HI.iZ {la lb R:List Keyed} {i j:Nat} (h:HI O ky la lb R i j) (sa:gY O ky la) (sb:gY O ky lb) (hf:∀x∈lb.take j,∀y∈la.take i,le O ky x y):qQ O ky la lb (lb.take j++la.take i++R):=by
 refine⟨?_,?_⟩
 ·refine(h.p.append_left _).trans ?_;rw[Qz,<-Qz (la.take i),List.take_append_drop];refine(List.perm_append_comm).trans ?_;rw[Qz];refine List.Perm.append_left _ ((List.perm_append_comm).trans ?_);rw[List.take_append_drop]
 ·refine List.pairwise_append.mpr ⟨List.pairwise_append.mpr ⟨sb.sublist (List.take_sublist _ _),sa.sublist (List.take_sublist _ _),hf⟩,h.s,λx hx y hy=>?_⟩;rcases QH.mp hx with hx | hx
  ·exact h.b x hx y hy
  ·exact h.a x hx y hy
theorem HI.tO {la lb R:List Keyed} {j:Nat} (h:HI O ky la lb R 0 j) (sa:gY O ky la) (sb:gY O ky lb):qQ O ky la lb (la.take 0++lb.take j++R):=by have:=h.iZ sa sb (λx hx y hy=>absurd hy (by simp));simpa using this
theorem HI.Dg {la lb R:List Keyed} {i:Nat} (h:HI O ky la lb R i 0) (sa:gY O ky la) (sb:gY O ky lb):qQ O ky la lb (la.take i++lb.take 0++R):=by have:=h.iZ sa sb (λx hx y hy=>absurd hx (by simp));simpa using this
theorem HI.start {la lb:List Keyed}:HI O ky la lb [] la.length lb.length:=⟨by simp,List.Pairwise.nil,λx _ y hy=>absurd hy (by simp),λx _ y hy=>absurd hy (by simp)⟩
end
noncomputable def D2:Array Keyed->Array Keyed->StateT SortSt Sem (Array Keyed):=sortPriv% PySem.Builtin.mergeHi
noncomputable abbrev GH:=Option (Array Keyed)×Nat×Nat×Array Keyed×Nat×Nat×Nat
noncomputable abbrev SH:=Option (Array Keyed)×Nat×Nat×Array Keyed×Nat×Nat
noncomputable abbrev OH:=Option (Array Keyed)×Nat×Nat×Array Keyed×Nat
noncomputable def lM (x y o:Array Keyed) (i j:Nat):Array Keyed:=x.extract 0 i++y.extract 0 j++o.reverse
noncomputable def vt (x y o:Array Keyed) (i j:Nat):Array Keyed:=y.extract 0 j++x.extract 0 i++o.reverse
noncomputable def Js (x y o:Array Keyed) (i j mg ca cb:Nat):StateT SortSt Sem (ForInStep GH):=do
 let e<-elem' x (i - 1)
 if (i - 1==0)=true then pure (.done (some (lM x y (o.push e) (i - 1) j),i - 1,j,o.push e,mg,ca,cb))
 else if (decide (ca < 7)&&decide (cb < 7))=true then pure (.done (none,i - 1,j,o.push e,mg,ca,cb))
 else pure (.yield (none,i - 1,j,o.push e,mg,ca,cb))
noncomputable def dh (x y o:Array Keyed) (i j mg ca qM:Nat):StateT SortSt Sem (ForInStep GH):=do
 let e<-elem' y (j - 1)
 if (j - 1==1)=true then pure (.done (some (vt x y (o.push e) i (j - 1)),i,j - 1,o.push e,mg,ca,qM))
 else do
  let f<-elem' x (i - 1)
  let r<-Ce true f y 0 (j - 1) (j - 1 - 1)
  match r with
  | some k=>
   if j - 1 - k > 0 then
    if (k==1)=true then pure (.done (some (vt x y (o.push e++(y.extract k (j - 1)).reverse) i k),i,k,o.push e++(y.extract k (j - 1)).reverse,mg,ca,j - 1 - k))
    else if (k==0)=true then pure (.done (some (lM x y (o.push e++(y.extract k (j - 1)).reverse) i k),i,k,o.push e++(y.extract k (j - 1)).reverse,mg,ca,j - 1 - k))
    else Js x y (o.push e++(y.extract k (j - 1)).reverse) i k mg ca (j - 1 - k)
   else Js x y (o.push e) i (j - 1) mg ca (j - 1 - k)
  | _=>pure (.done (some (lM x y (o.push e) i (j - 1)),i,j - 1,o.push e,mg,ca,qM))
noncomputable def cP (x y o:Array Keyed) (i j mg Kh qM:Nat):StateT SortSt Sem (ForInStep GH):=do
 setG mg
 let e<-elem' y (j - 1)
 let r<-Ce false e x 0 i (i - 1)
 match r with
 | some k=>
  if i - k > 0 then
   if (k==0)=true then pure (.done (some (lM x y (o++(x.extract k i).reverse) k j),k,j,o++(x.extract k i).reverse,mg,i - k,qM))
   else dh x y (o++(x.extract k i).reverse) k j mg (i - k) qM
  else dh x y o i j mg (i - k) qM
 | _=>pure (.done (some (lM x y o i j),i,j,o,mg,Kh,qM))
noncomputable def Mi (x y:Array Keyed) (mg:Nat) (r:SH):StateT SortSt Sem (ForInStep SH):=do
 let e<-elem' y (r.2.2.1 - 1)
 let f<-elem' x (r.2.1 - 1)
 let c<-lt' e f
 match c with
 | some xw=>
  if xw=true then do
   let f<-elem' x (r.2.1 - 1)
   if (r.2.1 - 1==0)=true then pure (.done (some (lM x y (r.2.2.2.1.push f) (r.2.1 - 1) r.2.2.1),r.2.1 - 1,r.2.2.1,r.2.2.2.1.push f,r.2.2.2.2.1 + 1,0))
   else if r.2.2.2.2.1 + 1>=mg then pure (.done (none,r.2.1 - 1,r.2.2.1,r.2.2.2.1.push f,r.2.2.2.2.1 + 1,0))
   else pure (.yield (none,r.2.1 - 1,r.2.2.1,r.2.2.2.1.push f,r.2.2.2.2.1 + 1,0))
  else do
   let e<-elem' y (r.2.2.1 - 1)
   if (r.2.2.1 - 1==1)=true then pure (.done (some (vt x y (r.2.2.2.1.push e) r.2.1 (r.2.2.1 - 1)),r.2.1,r.2.2.1 - 1,r.2.2.2.1.push e,0,r.2.2.2.2.2 + 1))
   else if r.2.2.2.2.2 + 1>=mg then pure (.done (none,r.2.1,r.2.2.1 - 1,r.2.2.2.1.push e,0,r.2.2.2.2.2 + 1))
   else pure (.yield (none,r.2.1,r.2.2.1 - 1,r.2.2.2.1.push e,0,r.2.2.2.2.2 + 1))
 | _=>pure (.done (some (lM x y r.2.2.2.1 r.2.1 r.2.2.1),r.2.1,r.2.2.1,r.2.2.2.1,r.2.2.2.2.1,r.2.2.2.2.2))
noncomputable def El (x y:Array Keyed) (r:OH):StateT SortSt Sem (ForInStep OH):=do
 let a<-forIn [:x.size + y.size] ((none,r.2.1,r.2.2.1,r.2.2.2.1,0,0):SH) λ_ a=>Mi x y r.2.2.2.2 a
 match a.1 with
 | some v=>pure (.done (some v,a.2.1,a.2.2.1,a.2.2.2.1,r.2.2.2.2))
 | none=>do
  rule "list.sort.gallop"
  let b<-forIn [:x.size + y.size] ((none,a.2.1,a.2.2.1,a.2.2.2.1,r.2.2.2.2 + 1,a.2.2.2.2.1,a.2.2.2.2.2):GH) λ_ b=>
   if b.2.2.2.2.1 > 1 then cP x y b.2.2.2.1 b.2.1 b.2.2.1 (b.2.2.2.2.1 - 1) b.2.2.2.2.2.1 b.2.2.2.2.2.2 else cP x y b.2.2.2.1 b.2.1 b.2.2.1 b.2.2.2.2.1 b.2.2.2.2.2.1 b.2.2.2.2.2.2
  match b.1 with
  | some v=>pure (.done (some v,b.2.1,b.2.2.1,b.2.2.2.1,b.2.2.2.2.1))
  | none=>do
   setG (b.2.2.2.2.1 + 1)
   pure (.yield (none,b.2.1,b.2.2.1,b.2.2.2.1,b.2.2.2.2.1 + 1))
noncomputable def FG (x y:Array Keyed):StateT SortSt Sem (Array Keyed):=do
 rule "list.sort.merge-hi"
 let e<-elem' x (x.size - 1)
 if (x.size - 1==0)=true then pure (lM x y #[e] (x.size - 1) y.size)
 else if (y.size==1)=true then pure (vt x y #[e] (x.size - 1) y.size)
 else do
  let st<-get
  let r<-forIn [:x.size + y.size] ((none,x.size - 1,y.size,#[e],gallopOf st):OH) λ_ r=>El x y r
  match r.1 with
  | some a=>pure a
  | none=>unsupported "internal:list.sort.merge-bound"
theorem Bh (x y:Array Keyed):D2 x y=FG x y:=by kernel_rfl
theorem nJ (x:Array Keyed) (i:Nat):(x.extract 0 i).toList=x.toList.take i:=by rw[Array.toList_extract];show (x.toList.drop 0).take (i - 0)=_;simp
theorem tT (x:Array Keyed) {k i:Nat}:(x.extract k i).toList=(x.toList.drop k).take (i - k):=by rw[Array.toList_extract]
theorem et (x y o:Array Keyed) (i j:Nat):(lM x y o i j).toList=x.toList.take i++y.toList.take j++o.toList.reverse:=by unfold lM;rw[Array.toList_append,Array.toList_append,nJ,nJ,Array.toList_reverse]
theorem fU (x y o:Array Keyed) (i j:Nat):(vt x y o i j).toList=y.toList.take j++x.toList.take i++o.toList.reverse:=by unfold vt;rw[Array.toList_append,Array.toList_append,nJ,nJ,Array.toList_reverse]
theorem uN (x o:Array Keyed) (k i:Nat):(o++(x.extract k i).reverse).toList.reverse=(x.toList.drop k).take (i - k)++o.toList.reverse:=by rw[Array.toList_append,Array.toList_reverse,List.reverse_append,List.reverse_reverse,tT]
theorem iM {x o:Array Keyed} {i:Nat} (h1:1<=i) (h2:i<=x.size):(o.push (kas_item x (i - 1))).toList.reverse=(x.toList.drop (i - 1)).take (i - (i - 1))++o.toList.reverse:=by rw[show i - (i - 1)=1 by lia,take_one (by lia)];simp
section
variable {O:KeyOrd} {ky:Keyed->O.α} {Mem:Keyed->Prop}
variable {prog:Program} {w:World} {A:Around} {E:Value->Shared->Prop} {κ:SortKind} {s:Shared}
theorem eV {x:Array Keyed} {i:Nat} {e:Keyed} (h:e∈x.toList.take i):∃k,k < i/\k < x.size/\e=kas_item x k:=by
 have h':e∈(x.toList.drop 0).take i:=by simpa using h
 obtain⟨k,_,k1,k2,e⟩:=aV h';exact⟨k,by lia,k2,e⟩
structure Al (O:KeyOrd) (ky:Keyed->O.α) (x y o:Array Keyed) (i j:Nat):Prop where
 m:HI O ky x.toList y.toList o.toList.reverse i j
 i1:1<=i
 i2:i < x.size
 j1:2<=j
 j2:j<=y.size
theorem MP.fst {x y:Array Keyed} (h:MP O ky Mem x y) {i:Nat} (hi:i<=x.size):∀e∈y.toList.take 1,∀f∈x.toList.take i,le O ky e f:=λe he f hf=>by
 obtain⟨k,k1,k2,rfl⟩:=eV he;obtain⟨l,l1,l2,rfl⟩:=eV hf;have:k=0:=by lia
 subst this;exact QM (KeyOrd.kle_of_klt h.first) (cO h.sa (Nat.zero_le l) l2)
noncomputable def HP (O:KeyOrd) (ky:Keyed->O.α) (x y:Array Keyed) (n:Nat) (v:Option (Array Keyed)) (o:Array Keyed) (i j:Nat):Prop:=(∃a,v=some a/\qQ O ky x.toList y.toList a.toList)\/(v=none/\Al O ky x y o i j/\i + j + n<=x.size + y.size)
theorem HP.none {x y:Array Keyed} {n:Nat} {v:Option (Array Keyed)} {o:Array Keyed} {i j:Nat} (h:HP O ky x y n v o i j) (hv:v=none):Al O ky x y o i j/\i + j + n<=x.size + y.size:=by
 rcases h with ⟨a,e,_⟩ | ⟨_,h⟩
 ·rw[hv] at e;cases e
 ·exact h
noncomputable def wG (O:KeyOrd) (ky:Keyed->O.α) (x y:Array Keyed) (n:Nat):ForInStep GH->Prop
 | .done r=>HP O ky x y n r.1 r.2.2.2.1 r.2.1 r.2.2.1
 | .yield r=>r.1=none/\HP O ky x y n r.1 r.2.2.2.1 r.2.1 r.2.2.1
theorem yi {x y o:Array Keyed} (M:MP O ky Mem x y) {i j mg ca cb n:Nat} (h:HI O ky x.toList y.toList o.toList.reverse i j) (hi:1<=i) (vB:i < x.size) (hj:2<=j) (yf:j<=y.size) (hk:∀l,l < j->le O ky (kas_item y l) (kas_item x (i - 1))) (hn:i - 1 + j + n<=x.size + y.size) {st:SortSt} {Q:ForInStep GH->SortSt->Shared->Prop}
  (q:∀r,wG O ky x y n r->Q r st s):kasC (model prog w) A E (Js x y o i j mg ca cb) Q st s:=by
 unfold Js;refine Qp (aR (aG (by lia)) ?_);have m1:=h.o9 (k:=i - 1) (by lia) M.sa (λe he f hf=>by
  obtain⟨a,a1,a2,a3,rfl⟩:=aV he;obtain⟨b,b1,b2,rfl⟩:=eV hf;have:a=i - 1:=by lia
  subst this;exact hk b b1)
 rw[<-iM (x:=x) hi (by lia)] at m1;by_cases c:(i - 1==0)=true
 ·rw[if_pos c];have c':i - 1=0:=by simpa using c
  refine Qt (q _ (.inl ⟨_,rfl,?_⟩));rw[et];rw[c'] at m1 ⊢;exact m1.tO M.sa M.sb
 ·rw[if_neg c];have c':¬i - 1=0:=by simpa using c
  have g:HP O ky x y n none (o.push (kas_item x (i - 1))) (i - 1) j:= .inr ⟨rfl,⟨m1,by lia,by lia,hj,yf⟩,by lia⟩;by_cases d:(decide (ca < 7)&&decide (cb < 7))=true
  ·rw[if_pos d];exact Qt (q _ g)
  ·rw[if_neg d];exact Qt (q _ ⟨rfl,g⟩)
theorem yh (T:Tells prog w A κ s O ky Mem) {x y o:Array Keyed} (M:MP O ky Mem x y) {i j mg ca cb n:Nat} (h:HI O ky x.toList y.toList o.toList.reverse i j) (hi:1<=i) (vB:i < x.size) (hj:2<=j) (yf:j<=y.size) (hk:∀l,l < i->le O ky (kas_item x l) (kas_item y (j - 1))) (hn:i + (j - 1) + n<=x.size + y.size) {st:SortSt} (hs:kindOf st=κ)
  {Q:ForInStep GH->SortSt->Shared->Prop} (q:∀r,wG O ky x y n r->Q r st s):kasC (model prog w) A E (dh x y o i j mg ca cb) Q st s:=by
 unfold dh;refine Qp (aR (aG (by lia)) ?_);have m1:=h.pd (k:=j - 1) (by lia) M.sb (λe he f hf=>by
  obtain⟨a,a1,a2,a3,rfl⟩:=aV he;obtain⟨b,b1,b2,rfl⟩:=eV hf;have:a=j - 1:=by lia
  subst this;exact hk b b1)
 rw[<-iM (x:=y) (by lia) yf] at m1;by_cases c:(j - 1==1)=true
 ·rw[if_pos c];have c':j - 1=1:=by simpa using c
  refine Qt (q _ (.inl ⟨_,rfl,?_⟩));rw[fU];rw[c'] at m1 ⊢;exact m1.iZ M.sa M.sb (M.fst (by lia))
 ·rw[if_neg c];have c':¬j - 1=1:=by simpa using c
  refine Qp (aR (aG (by lia)) (Qp ?_));refine i6 T (λt=>kas_item y t) (λt ht=>by rw[Nat.zero_add];exact aG (by lia)) (λt ht=>M.mb _ (by lia)) (M.ma (i - 1) (by lia)) (by lia) (λa b gD hb pI=>?_) hs (λk hk1 cC iT=>?_)
  ·unfold dW at pI ⊢;rw[if_pos rfl] at pI ⊢;have:=cO M.sb gD (by lia);exact KeyOrd.klt_of_kle_of_klt this pI
  ·have lo:∀t,t < k->le O ky (kas_item y t) (kas_item x (i - 1)):=λt ht=>by have z:=cC t ht;unfold dW at z;rw[if_pos rfl] at z;exact KeyOrd.kle_of_klt z
   have up:∀t,k<=t->t < j - 1->le O ky (kas_item x (i - 1)) (kas_item y t):=λt h1 h2=>by have z:=iT t h1 h2;unfold dW at z;rw[if_pos rfl] at z;exact z
   dsimp only;by_cases k0:j - 1 - k > 0
   ·rw[if_pos k0];have m2:=m1.pd (k:=k) (by lia) M.sb (λe he f hf=>by
     obtain⟨a,a1,a2,a3,rfl⟩:=aV he;obtain⟨b,b1,b2,rfl⟩:=eV hf;exact QM (cO M.sa (show b<=i - 1 by lia) (by lia)) (up a a1 (by lia)))
    rw[<-uN] at m2;by_cases d:(k==1)=true
    ·rw[if_pos d];have d':k=1:=by simpa using d
     subst d';refine Qt (q _ (.inl ⟨_,rfl,?_⟩));rw[fU];exact m2.iZ M.sa M.sb (M.fst (by lia))
    ·rw[if_neg d];have d':¬k=1:=by simpa using d
     by_cases e:(k==0)=true
     ·rw[if_pos e];have e':k=0:=by simpa using e
      subst e';refine Qt (q _ (.inl ⟨_,rfl,?_⟩));rw[et];exact m2.Dg M.sa M.sb
     ·rw[if_neg e];have e':¬k=0:=by simpa using e
      exact yi M m2 hi vB (by lia) (by lia) lo (by lia) q
   ·rw[if_neg k0];exact yi M m1 hi vB (by lia) (by lia) (λl hl=>lo l (by lia)) (by lia) q
theorem yg (T:Tells prog w A κ s O ky Mem) {x y o:Array Keyed} (M:MP O ky Mem x y) {i j mg ca cb n:Nat} (h:Al O ky x y o i j) (hn:i + j + n<=x.size + y.size) {dq st:SortSt} (hs:kindOf st=κ) (lH:SI dq st)
  {Q:ForInStep GH->SortSt->Shared->Prop} (q:∀r ai,SI dq ai->wG O ky x y n r->Q r ai s):kasC (model prog w) A E (cP x y o i j mg ca cb) Q st s:=by
 unfold cP;have hi:=h.i1;have vB:=h.i2;have hj:=h.j1;have yf:=h.j2;refine Qp (j5 λoz h1=>?_);have Ac:kindOf oz=κ:=h1.1.trans hs;have q':=λr=>q r oz (lH.trans h1)
 refine Qp (aR (aG (by lia)) (Qp ?_));refine i6 T (λt=>kas_item x t) (λt ht=>by rw[Nat.zero_add];exact aG (by lia)) (λt ht=>M.ma _ (by lia)) (M.mb (j - 1) (by lia)) (by lia) (λa b gD hb pI=>?_) Ac (λk hk1 cC iT=>?_)
 ·unfold dW at pI ⊢;rw[if_neg (by simp)] at pI ⊢;have:=cO M.sa gD (by lia);cases z:O.blt (ky (kas_item y (j - 1))) (ky (kas_item x a)) with
  | false=>rfl
  | true=>have z2:O.blt (ky (kas_item y (j - 1))) (ky (kas_item x b))=true:=KeyOrd.klt_of_klt_of_kle z this;have xZ:(!O.blt (ky (kas_item y (j - 1))) (ky (kas_item x b)))=true:=pI;rw[z2] at xZ;cases xZ
 ·have lo:∀t,t < k->le O ky (kas_item x t) (kas_item y (j - 1)):=λt ht=>by have z:=cC t ht;unfold dW at z;rw[if_neg (by simp)] at z;have z2:(!O.blt (ky (kas_item y (j - 1))) (ky (kas_item x t)))=true:=z;show O.blt (ky (kas_item y (j - 1))) (ky (kas_item x t))=false;simpa using z2
  have up:∀t,k<=t->t < i->le O ky (kas_item y (j - 1)) (kas_item x t):=λt h1 h2=>by
   have z:=iT t h1 h2;unfold dW at z;rw[if_neg (by simp)] at z;have z2:(!O.blt (ky (kas_item y (j - 1))) (ky (kas_item x t)))=false:=z;have z3:O.blt (ky (kas_item y (j - 1))) (ky (kas_item x t))=true:=by simpa using z2
   exact KeyOrd.kle_of_klt z3
  dsimp only;by_cases k0:i - k > 0
  ·rw[if_pos k0];have m2:=h.m.o9 (k:=k) (by lia) M.sa (λe he f hf=>by
    obtain⟨a,a1,a2,a3,rfl⟩:=aV he;obtain⟨b,b1,b2,rfl⟩:=eV hf;exact QM (cO M.sb (show b<=j - 1 by lia) (by lia)) (up a a1 (by lia)))
   rw[<-uN] at m2;by_cases e:(k==0)=true
   ·rw[if_pos e];have e':k=0:=by simpa using e
    subst e';refine Qt (q' _ (.inl ⟨_,rfl,?_⟩));rw[et];exact m2.tO M.sa M.sb
   ·rw[if_neg e];have e':¬k=0:=by simpa using e
    exact yh T M m2 (by lia) (by lia) hj yf lo (by lia) Ac q'
  ·rw[if_neg k0];exact yh T M h.m hi vB hj yf (λl hl=>lo l (by lia)) (by lia) Ac q'
noncomputable def NO (O:KeyOrd) (ky:Keyed->O.α) (x y:Array Keyed) (n:Nat):ForInStep SH->Prop
 | .done r=>HP O ky x y n r.1 r.2.2.2.1 r.2.1 r.2.2.1
 | .yield r=>r.1=none/\HP O ky x y n r.1 r.2.2.2.1 r.2.1 r.2.2.1
theorem E3 (T:Tells prog w A κ s O ky Mem) {x y:Array Keyed} (M:MP O ky Mem x y) {mg:Nat} {r:SH} (h:Al O ky x y r.2.2.2.1 r.2.1 r.2.2.1) {n:Nat} (hn:r.2.1 + r.2.2.1 + n<=x.size + y.size + 1) {st:SortSt} (hs:kindOf st=κ)
  {Q:ForInStep SH->SortSt->Shared->Prop} (q:∀r',NO O ky x y n r'->Q r' st s):kasC (model prog w) A E (Mi x y mg r) Q st s:=by
 obtain⟨v,i,j,o,ca,cb⟩:=r;have hi:1<=i:=h.i1;have vB:i < x.size:=h.i2;have hj:2<=j:=h.j1;have yf:j<=y.size:=h.j2;have hm:HI O ky x.toList y.toList o.toList.reverse i j:=h.m;dsimp only at hn;unfold Mi;dsimp only;refine Qp (aR (aG (by lia)) (Qp (aR (aG (by lia)) (Qp (pU T (M.mb (j - 1) (by lia)) (M.ma (i - 1) (by lia)) hs ?_)))));dsimp only;cases c:O.blt (ky (kas_item y (j - 1))) (ky (kas_item x (i - 1))) with
 | true=>
  rw[if_pos rfl];refine Qp (aR (aG (by lia)) ?_);have m1:=hm.o9 (k:=i - 1) (by lia) M.sa (λe he f hf=>by
   obtain⟨a,a1,a2,a3,rfl⟩:=aV he;obtain⟨b,b1,b2,rfl⟩:=eV hf;have:a=i - 1:=by lia
   subst this;exact QM (cO M.sb (show b<=j - 1 by lia) (by lia)) (KeyOrd.kle_of_klt c))
  rw[<-iM (x:=x) hi (by lia)] at m1;by_cases d:(i - 1==0)=true
  ·rw[if_pos d];have d':i - 1=0:=by simpa using d
   refine Qt (q _ (.inl ⟨_,rfl,?_⟩));rw[et];rw[d'] at m1 ⊢;exact m1.tO M.sa M.sb
  ·rw[if_neg d];have d':¬i - 1=0:=by simpa using d
   have g:HP O ky x y n none (o.push (kas_item x (i - 1))) (i - 1) j:= .inr ⟨rfl,⟨m1,by lia,by lia,hj,yf⟩,by lia⟩;by_cases e:ca + 1>=mg
   ·rw[if_pos e];exact Qt (q _ g)
   ·rw[if_neg e];exact Qt (q _ ⟨rfl,g⟩)
 | false=>
  rw[if_neg (by simp)];refine Qp (aR (aG (by lia)) ?_);have m1:=hm.pd (k:=j - 1) (by lia) M.sb (λe he f hf=>by
   obtain⟨a,a1,a2,a3,rfl⟩:=aV he;obtain⟨b,b1,b2,rfl⟩:=eV hf;have:a=j - 1:=by lia
   subst this;exact QM (cO M.sa (show b<=i - 1 by lia) (by lia)) c)
  rw[<-iM (x:=y) (by lia) yf] at m1;by_cases d:(j - 1==1)=true
  ·rw[if_pos d];have d':j - 1=1:=by simpa using d
   refine Qt (q _ (.inl ⟨_,rfl,?_⟩));rw[fU];rw[d'] at m1 ⊢;exact m1.iZ M.sa M.sb (M.fst (by lia))
  ·rw[if_neg d];have d':¬j - 1=1:=by simpa using d
   have g:HP O ky x y n none (o.push (kas_item y (j - 1))) i (j - 1):= .inr ⟨rfl,⟨m1,hi,vB,by lia,by lia⟩,by lia⟩;by_cases e:cb + 1>=mg
   ·rw[if_pos e];exact Qt (q _ g)
   ·rw[if_neg e];exact Qt (q _ ⟨rfl,g⟩)
noncomputable def NN (O:KeyOrd) (ky:Keyed->O.α) (x y:Array Keyed) (n:Nat):ForInStep OH->Prop
 | .done r=>∃a,r.1=some a/\qQ O ky x.toList y.toList a.toList
 | .yield r=>r.1=none/\Al O ky x y r.2.2.2.1 r.2.1 r.2.2.1/\r.2.1 + r.2.2.1 + n<=x.size + y.size
theorem Bq (T:Tells prog w A κ s O ky Mem) {x y:Array Keyed} (M:MP O ky Mem x y) {r:OH} (h:Al O ky x y r.2.2.2.1 r.2.1 r.2.2.1) {n:Nat} (hn:r.2.1 + r.2.2.1 + n<=x.size + y.size) {dq st:SortSt} (hs:kindOf st=κ) (lH:SI dq st)
  {Q:ForInStep OH->SortSt->Shared->Prop} (q:∀r' ai,SI dq ai->NN O ky x y (n + 1) r'->Q r' ai s):kasC (model prog w) A E (El x y r) Q st s:=by
 unfold El;have hp:=M.pa;refine Qp (bM (Q:=λa ai s'=>st=ai/\s=s'/\HP O ky x y (n + 1) a.1 a.2.2.2.1 a.2.1 a.2.2.1) (kasC_range (c8 (λjj a ai=>st=ai/\a.1=none/\Al O ky x y a.2.2.2.1 a.2.1 a.2.2.1/\a.2.1 + a.2.2.1 + n + jj<=x.size + y.size) ⟨rfl,rfl,h,by simpa using hn⟩ (λjj a ai z hj hI=>?_) (λa ai hI=>?_))) (λa ai s' hI=>?_))
 ·obtain⟨rfl,a0,C0,an⟩:=hI;refine E3 T M C0 (n:=n + jj + 1) (by lia) hs (λr' cX=>⟨rfl,?_⟩);cases r' with
  | done b=>
   refine⟨rfl,rfl,?_⟩;rcases cX with ⟨v,e,m⟩ | ⟨e,ok,l⟩
   ·exact .inl ⟨v,e,m⟩
   ·exact .inr ⟨e,ok,by lia⟩
  | yield b=>obtain⟨b0,gb⟩:=cX;obtain⟨ok,l⟩:=gb.none b0;exact⟨rfl,b0,ok,by lia⟩
 ·obtain⟨rfl,a0,C0,an⟩:=hI;rw[List.length_range'] at an;exact⟨rfl,rfl,.inr ⟨a0,C0,by lia⟩⟩
 obtain⟨rfl,rfl,ga⟩:=hI;rcases ga with ⟨v,e,m⟩ | ⟨e,ok,l⟩
 ·rw[e];exact Qt (q _ _ lH ⟨v,rfl,m⟩)
 ·rw[e];refine Qp (kasC_lift (wpAny_rule ?_));refine Qp (bM (Q:=λb ai s'=>SI dq ai/\s=s'/\HP O ky x y (n + 1) b.1 b.2.2.2.1 b.2.1 b.2.2.1) (kasC_range (c8 (λjj b ai=>SI dq ai/\kindOf ai=κ/\b.1=none/\Al O ky x y b.2.2.2.1 b.2.1 b.2.2.1/\b.2.1 + b.2.2.1 + (n + 1)<=x.size + y.size) ⟨lH,hs,rfl,ok,l⟩ (λjj b ai z hj hI=>?_) (λb ai hI=>?_))) (λb ai s' hI=>?_))
  ·obtain⟨si,ks,b0,As,bn⟩:=hI;have kk:∀dS,SI dq dS->kindOf dS=κ:=λdS h2=>(h2.1.trans si.1.symm).trans ks
   by_cases c:b.2.2.2.2.1 > 1
   ·rw[if_pos c];refine yg T M As bn ks si (λr' dS h2 cX=>⟨rfl,?_⟩);cases r' with
    | done b'=>exact⟨h2,rfl,cX⟩
    | yield b'=>obtain⟨c0,gc⟩:=cX;obtain⟨Ea,l'⟩:=gc.none c0;exact⟨h2,kk dS h2,c0,Ea,l'⟩
   ·rw[if_neg c];refine yg T M As bn ks si (λr' dS h2 cX=>⟨rfl,?_⟩);cases r' with
    | done b'=>exact⟨h2,rfl,cX⟩
    | yield b'=>obtain⟨c0,gc⟩:=cX;obtain⟨Ea,l'⟩:=gc.none c0;exact⟨h2,kk dS h2,c0,Ea,l'⟩
  ·obtain⟨si,ks,b0,As,bn⟩:=hI;exact⟨si,rfl,.inr ⟨b0,As,bn⟩⟩
  obtain⟨si,rfl,gb⟩:=hI;rcases gb with ⟨v,e2,m⟩ | ⟨e2,LS,l2⟩
  ·rw[e2];exact Qt (q _ _ si ⟨v,rfl,m⟩)
  ·rw[e2];exact Qp (j5 λdS h2=>Qt (q _ _ (si.trans h2) ⟨rfl,LS,l2⟩))
theorem Bi (T:Tells prog w A κ s O ky Mem) {x y:Array Keyed} (M:MP O ky Mem x y) {st:SortSt} (hs:kindOf st=κ) {Q:Array Keyed->SortSt->Shared->Prop} (q:∀v ai,SI st ai->qQ O ky x.toList y.toList v.toList->Q v ai s):kasC (model prog w) A E (D2 x y) Q st s:=by
 rw[Bh];unfold FG;have hp:=M.pa;have hq:=M.pb;refine Qp (kasC_lift (wpAny_rule ?_));refine Qp (aR (aG (by lia)) ?_);have m0:=HI.start (O:=O) (ky:=ky) (la:=x.toList) (lb:=y.toList);have lx:x.toList.length=x.size:=by simp
 have ly:y.toList.length=y.size:=by simp
 rw[lx,ly] at m0;have m1:=m0.o9 (k:=x.size - 1) (by lia) M.sa (λe he f hf=>by
  obtain⟨a,a1,a2,a3,rfl⟩:=aV he;obtain⟨b,b1,b2,rfl⟩:=eV hf;have:a=x.size - 1:=by lia
  subst this;exact KeyOrd.kle_of_klt (M.last b b2))
 have e0:(#[kas_item x (x.size - 1)]:Array Keyed).toList.reverse=(x.toList.drop (x.size - 1)).take (x.size - (x.size - 1))++[]:=by rw[show x.size - (x.size - 1)=1 by lia,take_one (by lia)];rfl
 rw[<-e0] at m1;by_cases c:(x.size - 1==0)=true
 ·rw[if_pos c];have c':x.size - 1=0:=by simpa using c
  refine Qt (q _ _ (SI.refl _) ?_);rw[et];rw[c'] at m1 ⊢;exact m1.tO M.sa M.sb
 ·rw[if_neg c];have c':¬x.size - 1=0:=by simpa using c
  by_cases d:(y.size==1)=true
  ·rw[if_pos d];have d':y.size=1:=by simpa using d
   refine Qt (q _ _ (SI.refl _) ?_);rw[fU];rw[d'] at m1 ⊢;exact m1.iZ M.sa M.sb (M.fst (by lia))
  ·rw[if_neg d];have d':¬y.size=1:=by simpa using d
   refine Qp (kasC_get ?_);refine Qp (bM (Q:=λr ai s'=>SI st ai/\s=s'/\∃a,r.1=some a/\qQ O ky x.toList y.toList a.toList) (kasC_range (c8 (λjj r ai=>SI st ai/\r.1=none/\Al O ky x y r.2.2.2.1 r.2.1 r.2.2.1/\r.2.1 + r.2.2.1 + (jj + 1)<=x.size + y.size) ⟨SI.refl _,rfl,⟨m1,(show 1<=x.size - 1 by lia),(show x.size - 1 < x.size by lia),(show 2<=y.size by lia),Qq _⟩,(show x.size - 1 + y.size + (0 + 1)<=x.size + y.size by lia)⟩ (λjj r ai z hj hI=>?_) (λr ai hI=>?_))) (λr ai s' hI=>?_))
   ·obtain⟨si,r0,BL,rn⟩:=hI;refine Bq T M BL rn (si.1.trans hs) si (λr' dS h2 cX=>⟨rfl,?_⟩);cases r' with
    | done b=>exact⟨h2,rfl,cX⟩
    | yield b=>exact⟨h2,cX.1,cX.2.1,cX.2.2⟩
   ·obtain⟨si,r0,BL,rn⟩:=hI;rw[List.length_range'] at rn;have h1:=BL.i1;have h2:=BL.j1
    lia
   obtain⟨si,rfl,a,e,m⟩:=hI;rw[e];exact Qt (q _ _ si m)
end
noncomputable def Hm:Nat->StateT SortSt Sem Bool:=sortPriv% PySem.Builtin.mergeAt
noncomputable def back (M:Array Keyed) (p:Nat) (a:Array Keyed):Array Keyed:=M.toList.zipIdx.foldl (λb (q,j)=>b.setIfInBounds (p + j) q) a
theorem D0 (i:Nat):Hm i=(do
 let t<-get
 let (some (p,n,pw),some (q,m,_)):=((pendingOf t)[i]?,(pendingOf t)[i + 1]?) | unsupported "internal:list.sort.pending"
 set (SortSt.mk' (kindOf t) (arrOf t) (((pendingOf t).setIfInBounds i (p,n + m,pw)).eraseIdxIfInBounds (i + 1)) (gallopOf t) (failedOf t))
 let some k<-Ce false (<-elem' (arrOf t) q) (arrOf t) p n 0 | return false
 let (p,n):=(p + k,n - k)
 if n==0 then return true
 let some m<-Ce true (<-elem' (arrOf t) (p + n - 1)) (arrOf t) q m (m - 1) | return false
 if m==0 then return true
 let x:=(arrOf t).extract p q
 let y:=(arrOf t).extract q (q + m)
 let M<-if n<=m then D3 x y else D2 x y
 modify λt=>SortSt.mk' (kindOf t) (back M p (arrOf t)) (pendingOf t) (gallopOf t) (failedOf t)
 return (failedOf (<-get)).isNone):=by kernel_rfl
theorem l0:∀(M:List Keyed) (p c:Nat) (a:Array Keyed),p + c + M.length<=a.size->((M.zipIdx c).foldl (λb (q:Keyed×Nat)=>b.setIfInBounds (p + q.2) q.1) a).toList=a.toList.take (p + c)++M++a.toList.drop (p + c + M.length)
 | [],p,c,a,h=>by simp
 | e::M,p,c,a,h=>by
  rw[List.zipIdx_cons,List.foldl_cons];simp only[QD] at h;have ih:=l0 M p (c + 1) (a.setIfInBounds (p + c) e) (by rw[Array.size_setIfInBounds];lia);rw[ih];have hs:(a.setIfInBounds (p + c) e).toList=a.toList.take (p + c)++[e]++a.toList.drop (p + c + 1):=by rw[Array.toList_setIfInBounds];rw[List.set_eq_take_append_cons_drop];rw[if_pos (by simp;lia)];simp
  have hl:(a.toList.take (p + c)++[e]).length=p + c + 1:=by simp;lia
  rw[hs];have e1:(a.toList.take (p + c)++[e]++a.toList.drop (p + c + 1)).take (p + (c + 1))=a.toList.take (p + c)++[e]:=by rw[show p + (c + 1)=(a.toList.take (p + c)++[e]).length by lia,List.take_left]
  have e2:(a.toList.take (p + c)++[e]++a.toList.drop (p + c + 1)).drop (p + (c + 1) + M.length)=a.toList.drop (p + c + (e::M).length):=by
   rw[show p + (c + 1) + M.length=(a.toList.take (p + c)++[e]).length + M.length by lia,List.drop_append,List.drop_of_length_le (Nat.le_add_right _ _),List.nil_append,Nat.add_sub_cancel_left,List.drop_drop];congr 1;simp only[QD]
   lia
  rw[e1,e2];simp
section
variable {O:KeyOrd} {ky:Keyed->O.α} {Mem:Keyed->Prop}
variable {prog:Program} {w:World} {A:Around} {E:Value->Shared->Prop} {κ:SortKind} {s:Shared}
theorem yz {t st:SortSt} {Q:PUnit->SortSt->Shared->Prop} (h:Q ⟨⟩ t s):kasC (model prog w) A E (set t:StateT SortSt Sem PUnit) Q st s:=by unfold kasC;rw[StateT.run_set];exact Qj h
theorem er (n1 n2 pw z:Nat):((#[(0,n1,pw),(n1,n2,z)]:Array (Nat×Nat×Nat)).setIfInBounds 0 (0,n1 + n2,pw)).eraseIdxIfInBounds (0 + 1)=#[(0,n1 + n2,pw)]:=by simp[Array.eraseIdxIfInBounds]
end
noncomputable def aL (lo n m:Nat):StateT SortSt Sem AscSt:=
 forIn [n:m] ((none,n):AscSt) λ_ r=>do
  let x<-ltAt' (lo + r.2) (lo + r.2 - 1)
  match x with
  | some c=>if c=true then pure (.done (none,r.2)) else pure (.yield (none,r.2 + 1))
  | _=>pure (.done (some none,r.2))
noncomputable def t3 (lo n m:Nat):StateT SortSt Sem (Option Nat):=do
 reverseSlice' lo (lo + n)
 let r<-aL lo n m
 match r.1 with
 | some v=>pure v
 | none=>pure (some r.2)
noncomputable def dL (lo n m:Nat):StateT SortSt Sem DescSt:=
 forIn [n:m] ((none,n,0):DescSt) λ_ r=>do
  let x<-ltAt' (lo + r.2.1) (lo + r.2.1 - 1)
  match x with
  | some c=>
   if c=true then
    if r.2.2 > 0 then do
     reverseSlice' (lo + r.2.1 - (r.2.2 + 1)) (lo + r.2.1)
     pure (.yield (none,r.2.1 + 1,0))
    else pure (.yield (none,r.2.1 + 1,0))
   else do
    let y<-ltAt' (lo + r.2.1 - 1) (lo + r.2.1)
    match y with
    | some d=>if d=true then pure (.done (none,r.2.1,r.2.2)) else pure (.yield (none,r.2.1 + 1,r.2.2 + 1))
    | _=>pure (.done (some none,r.2.1,r.2.2))
  | _=>pure (.done (some none,r.2.1,r.2.2))
noncomputable def dP (lo n m:Nat):StateT SortSt Sem (Option Nat):=do
 rule "list.sort.descending-run"
 let r<-dL lo (n + 1) m
 match r.1 with
 | some v=>pure v
 | none=>
  if r.2.2 > 0 then do
   reverseSlice' (lo + r.2.1 - (r.2.2 + 1)) (lo + r.2.1)
   t3 lo r.2.1 m
  else t3 lo r.2.1 m
noncomputable def cR (lo m:Nat):StateT SortSt Sem (Option Nat):=do
 let r<-aL lo 1 m
 match r.1 with
 | some v=>pure v
 | none=>
  if (r.2==m)=true then pure (some r.2)
  else if r.2 > 1 then do
   let x<-ltAt' lo (lo + r.2 - 1)
   match x with
   | some c=>if c=true then pure (some r.2) else do
     reverseSlice' lo (lo + r.2)
     dP lo r.2 m
   | _=>pure none
  else dP lo r.2 m
theorem Ge (lo m:Nat):countRun' lo m=cR lo m:=by kernel_rfl
noncomputable def pL (lo k:Nat):StateT SortSt Sem (Option Bool×Nat×Nat):=
 forIn [:k] ((none,0,k):Option Bool×Nat×Nat) λ_ r=>
  if r.2.1>=r.2.2 then pure (.done (none,r.2.1,r.2.2)) else do
   let x<-ltAt' (lo + k) (lo + (r.2.1 + r.2.2) / 2)
   match x with
   | some c=>if c=true then pure (.yield (none,r.2.1,(r.2.1 + r.2.2) / 2)) else pure (.yield (none,(r.2.1 + r.2.2) / 2 + 1,r.2.2))
   | _=>pure (.done (some false,r.2.1,r.2.2))
noncomputable def bS (lo n ok:Nat):StateT SortSt Sem Bool:=do
 let r<-forIn [max ok 1:n] ((none,()):Option Bool×Unit) λk _=>do
  let r<-pL lo k
  match r.1 with
  | some v=>pure (.done (some v,()))
  | none=>do
   moveDown' (lo + k) (lo + r.2.1)
   pure (.yield (none,()))
 match r.1 with
 | some v=>pure v
 | none=>pure true
theorem F8 (lo n ok:Nat):binarySort' lo n ok=bS lo n ok:=by kernel_rfl
section
variable {O:KeyOrd} {ky:Keyed->O.α} {Mem:Keyed->Prop}
variable {prog:Program} {w:World} {A:Around} {E:Value->Shared->Prop} {κ:SortKind} {s:Shared}
theorem dM {β:Type} {a b:Nat} {b0:β} {f:Nat->β->StateT SortSt Sem (ForInStep β)} {Q:β->SortSt->Shared->Prop} (Inv:Nat->β->SortSt->Prop) {dq:SortSt} (h0:Inv a b0 dq)
  (step:∀x c st,a<=x->x < b->Inv x c st->kasC (model prog w) A E (f x c) (λr ai s'=>s'=s/\match r with | .done b'=>Q b' ai s | .yield b'=>Inv (x + 1) b' ai) st s)
  (fin:∀c st,Inv (max a b) c st->Q c st s):kasC (model prog w) A E (forIn [a:b] b0 f) Q dq s:=by
 have go:∀(n x:Nat) (c:β) (st:SortSt),x + n=max a b->a<=x->Inv x c st->kasC (model prog w) A E (forIn (List.range' x n) c f) Q st s:=by
  intro n
  induction n with
  | zero=>
   intro x c st hx hax hI;have e:x=max a b:=by lia
   subst e;exact kasC_nil (fin c st hI)
  | succ n ih=>
   intro x c st hx hax hI;rw[List.range'_succ];refine kasC_cons (wpAny_mono (step x c st hax (by lia) hI) (λr s' h'=>?_) λ_ _ e=>e);obtain⟨r,ai⟩:=r;obtain⟨rfl,h'⟩:=h';cases r with
   | done b'=>exact h'
   | yield b'=>exact ih (x + 1) b' ai (by lia) (by lia) h'
 exact kasC_range (go (b - a) a b0 dq (by lia) (Qq _) h0)
structure Bs (κ:SortKind) (P:Array (Nat×Nat×Nat)) (lo:Nat) (b:Array Keyed) (st:SortSt):Prop where
 k:kindOf st=κ
 f:failedOf st=none
 p:pendingOf st=P
 pm:(arrOf st).toList.Perm b.toList
 lw:∀i,i < lo->kas_item (arrOf st) i=kas_item b i
variable {P:Array (Nat×Nat×Nat)} {lo:Nat} {b:Array Keyed}
theorem Bs.size {st:SortSt} (h:Bs κ P lo b st):(arrOf st).size=b.size:=by have:=h.pm.length_eq;simpa using this
theorem Bs.mem {st:SortSt} (h:Bs κ P lo b st) (hb:∀x∈b.toList,Mem x) {i:Nat} (hi:i < b.size):Mem (kas_item (arrOf st) i):=by
 have Cr:i < (arrOf st).size:=by rw[h.size];exact hi
 refine hb _ (h.pm.mem_iff.mp ?_);have e:kas_item (arrOf st) i=(arrOf st)[i]:=by unfold kas_item;simp[Array.getD,Cr]
 rw[e];simp
theorem iD {p q:Array Keyed} {i j:Nat} (h:p[i]?=q[j]?):kas_item p i=kas_item q j:=by unfold kas_item;rw[Array.getD_eq_getD_getElem?,Array.getD_eq_getD_getElem?,h]
theorem iE {a:Array Keyed} {i j:Nat} (hj:j<=a.size) (k:Nat):kas_item (mirror a i j ((j - i) / 2)) k=if i<=k/\k < j then kas_item a (i + j - 1 - k) else kas_item a k:=by
 have e:=getElem?_mirror_all (i:=i) hj k;by_cases h1:i<=k/\k < j
 ·rw[if_pos h1] at e ⊢;exact iD e
 ·rw[if_neg h1] at e ⊢;exact iD e
theorem kL {a:Array Keyed} {src d:Nat} (hs:src < a.size) (hd:d<=src) (k:Nat):
  kas_item (bubble a src d) k=if k=src - d then kas_item a src else if src - d < k/\k<=src then kas_item a (k - 1) else kas_item a k:=by
 have e:=getElem?_bubble hs d hd k;by_cases h1:k=src - d
 ·rw[if_pos h1] at e ⊢;exact iD e
 ·rw[if_neg h1] at e ⊢;by_cases h2:src - d < k/\k<=src
  ·rw[if_pos h2] at e ⊢;exact iD e
  ·rw[if_neg h2] at e ⊢;exact iD e
theorem Bs.rev {st:SortSt} (h:Bs κ P lo b st) {i j:Nat} (hi:lo<=i) (hj:j<=b.size):Bs κ P lo b (setArr st (mirror (arrOf st) i j ((j - i) / 2))):=
 ⟨h.k,h.f,h.p,(Array.perm_iff_toList_perm.mp (mirror_perm _ _ _ _)).trans h.pm,λk hk=>by
  have:=iE (a:=arrOf st) (i:=i) (j:=j) (by rw[h.size];exact hj) k;rw[if_neg (by lia)] at this;exact this.trans (h.lw k hk)⟩
theorem Bs.NU {st:SortSt} (h:Bs κ P lo b st) {c d:Nat} (hs:c < b.size) (hd:lo + d<=c):Bs κ P lo b (setArr st (bubble (arrOf st) c d)):=
 ⟨h.k,h.f,h.p,(Array.perm_iff_toList_perm.mp (bubble_perm _ _ _)).trans h.pm,λk hk=>by
  have:=kL (a:=arrOf st) (src:=c) (d:=d) (by rw[h.size];exact hs) (by lia) k;rw[if_neg (by lia),if_neg (by lia)] at this;exact this.trans (h.lw k hk)⟩
theorem iF (T:Tells prog w A κ s O ky Mem) (hb:∀x∈b.toList,Mem x) {st:SortSt} (h:Bs κ P lo b st) {i j:Nat} (hi:i < b.size) (hj:j < b.size) {Q:Option Bool->SortSt->Shared->Prop}
  (q:Q (some (O.blt (ky (kas_item (arrOf st) i)) (ky (kas_item (arrOf st) j)))) st s):kasC (model prog w) A E (ltAt' i j) Q st s:=by
 rw[ltAt'_eq];refine Qp (kasC_get ?_);dsimp only;exact Qp (aR (aG (by rw[h.size];exact hi)) (Qp (aR (aG (by rw[h.size];exact hj)) (pU T (h.mem hb hi) (h.mem hb hj) h.k q))))
noncomputable def Up (O:KeyOrd) (ky:Keyed->O.α) (lo:Nat) (a:Array Keyed) (n:Nat):Prop:=∀i j,lo<=i->i<=j->j < lo + n->O.kle (ky (kas_item a i)) (ky (kas_item a j))
noncomputable def Dn (O:KeyOrd) (ky:Keyed->O.α) (lo:Nat) (a:Array Keyed) (n:Nat):Prop:=∀i j,lo<=i->i<=j->j < lo + n->O.kle (ky (kas_item a j)) (ky (kas_item a i))
noncomputable def JX (O:KeyOrd) (ky:Keyed->O.α) (lo:Nat) (a:Array Keyed) (n q:Nat):Prop:=∀k,lo + n - (q + 1)<=k->k < lo + n->ky (kas_item a k)=ky (kas_item a (lo + n - 1))
theorem Up.succ {a:Array Keyed} {n:Nat} (h:Up O ky lo a n) (h1:1<=n) (h2:O.kle (ky (kas_item a (lo + n - 1))) (ky (kas_item a (lo + n)))):Up O ky lo a (n + 1):=λi j hi fV hj=>by
 by_cases e:j=lo + n
 ·subst e;by_cases e2:i=lo + n
  ·subst e2;exact KeyOrd.kle_refl _
  ·exact QM (h i (lo + n - 1) hi (by lia) (by lia)) h2
 ·exact h i j hi fV (by lia)
theorem Dn.succ {a:Array Keyed} {n:Nat} (h:Dn O ky lo a n) (h1:1<=n) (h2:O.kle (ky (kas_item a (lo + n))) (ky (kas_item a (lo + n - 1)))):Dn O ky lo a (n + 1):=λi j hi fV hj=>by
 by_cases e:j=lo + n
 ·subst e;by_cases e2:i=lo + n
  ·subst e2;exact KeyOrd.kle_refl _
  ·exact QM h2 (h i (lo + n - 1) hi (by lia) (by lia))
 ·exact h i j hi fV (by lia)
theorem Dn.of {a c:Array Keyed} {n:Nat} (e:∀k,ky (kas_item c k)=ky (kas_item a k)) (h:Dn O ky lo a n):Dn O ky lo c n:=λi j x y z=>by rw[e,e];exact h i j x y z
theorem Up.one (a:Array Keyed):Up O ky lo a 1:=λi j x y z=>by rw[show i=j by lia];exact KeyOrd.kle_refl _
theorem Dn.one (a:Array Keyed):Dn O ky lo a 1:=λi j x y z=>by rw[show i=j by lia];exact KeyOrd.kle_refl _
theorem xC {a:Array Keyed} {i j:Nat} (hj:j<=a.size) (he:∀k,i<=k->k < j->ky (kas_item a k)=ky (kas_item a (j - 1))) (k:Nat):ky (kas_item (mirror a i j ((j - i) / 2)) k)=ky (kas_item a k):=by
 rw[iE hj];split
 ·rename_i h;rw[he (i + j - 1 - k) (by lia) (by lia),he k h.1 h.2]
 ·rfl
theorem zy {a:Array Keyed} {n:Nat} (hn:lo + n<=a.size) (h:Dn O ky lo a n):Up O ky lo (mirror a lo (lo + n) ((lo + n - lo) / 2)) n:=λi j hi fV hj=>by rw[iE hn,iE hn,if_pos (by lia),if_pos (by lia)];exact h _ _ (by lia) (by lia) (by lia)
theorem B5 (T:Tells prog w A κ s O ky Mem) (hb:∀x∈b.toList,Mem x) {st:SortSt} (h:Bs κ P lo b st) {n m:Nat} (hz:lo + m<=b.size) (h1:1<=n) (hn:n<=m) (hu:Up O ky lo (arrOf st) n) {Q:AscSt->SortSt->Shared->Prop}
  (q:∀k,n<=k->k<=m->Up O ky lo (arrOf st) k->(k < m->O.blt (ky (kas_item (arrOf st) (lo + k))) (ky (kas_item (arrOf st) (lo + k - 1)))=true)->Q (none,k) st s):kasC (model prog w) A E (aL lo n m) Q st s:=by
 unfold aL;refine dM (λx r ai=>st=ai/\r=(none,x)/\Up O ky lo (arrOf st) x) ⟨rfl,rfl,hu⟩ (λx r ai hx1 A4 hI=>?_) (λr ai hI=>?_)
 ·obtain⟨rfl,rfl,hu⟩:=hI;dsimp only;refine Qp (iF T hb h (by lia) (by lia) ?_);dsimp only;cases c:O.blt (ky (kas_item (arrOf st) (lo + x))) (ky (kas_item (arrOf st) (lo + x - 1))) with
  | true=>rw[if_pos rfl];exact Qt ⟨rfl,q x hx1 (by lia) hu λ_=>c⟩
  | false=>rw[if_neg (by simp)];exact Qt ⟨rfl,rfl,rfl,hu.succ (by lia) c⟩
 ·obtain⟨rfl,rfl,hu⟩:=hI;rw[show max n m=m by lia] at hu ⊢;exact q m hn (Qq _) hu λz=>absurd z (by lia)
theorem oq {i j:Nat} {st:SortSt} {Q:Unit->SortSt->Shared->Prop} (q:Q () (setArr st (mirror (arrOf st) i j ((j - i) / 2))) s):kasC (model prog w) A E (reverseSlice' i j) Q st s:=by rw[reverseSlice'_eq];exact kasC_modify q
theorem Gh (T:Tells prog w A κ s O ky Mem) (hb:∀x∈b.toList,Mem x) {st:SortSt} (h:Bs κ P lo b st) {n m:Nat} (hz:lo + m<=b.size) (h1:1<=n) (hn:n<=m) (hd:Dn O ky lo (arrOf st) n) {Q:DescSt->SortSt->Shared->Prop}
  (q:∀ai k e,Bs κ P lo b ai->n<=k->k<=m->e + 1<=k->Dn O ky lo (arrOf ai) k->JX O ky lo (arrOf ai) k e->Q (none,k,e) ai s):kasC (model prog w) A E (dL lo n m) Q st s:=by
 unfold dL;have one:∀(a:Array Keyed) (k:Nat),1<=k->JX O ky lo a k 0:=λa k hk j x y=>by rw[show j=lo + k - 1 by lia]
 refine dM (λx r ai=>∃e,r=(none,x,e)/\Bs κ P lo b ai/\e + 1<=x/\Dn O ky lo (arrOf ai) x/\JX O ky lo (arrOf ai) x e) ⟨0,rfl,h,by lia,hd,one _ _ h1⟩ (λx r ai hx1 A4 hI=>?_) (λr ai hI=>?_)
 ·obtain⟨e,rfl,h,he,hd,hq⟩:=hI;have iy:=h.size;dsimp only;refine Qp (iF T hb h (by lia) (by lia) ?_);dsimp only;cases c:O.blt (ky (kas_item (arrOf ai) (lo + x))) (ky (kas_item (arrOf ai) (lo + x - 1))) with
  | true=>
   rw[if_pos rfl];have rG:=hd.succ (by lia) (KeyOrd.kle_of_klt c);by_cases d:e > 0
   ·rw[if_pos d];refine Qp (oq (Qt ⟨rfl,0,rfl,h.rev (by lia) (by lia),by lia,?_,one _ _ (by lia)⟩));exact Dn.of (xC (by lia) hq) rG
   ·rw[if_neg d];exact Qt ⟨rfl,0,rfl,h,by lia,rG,one _ _ (by lia)⟩
  | false=>
   rw[if_neg (by simp)];refine Qp (iF T hb h (by lia) (by lia) ?_);dsimp only;cases d:O.blt (ky (kas_item (arrOf ai) (lo + x - 1))) (ky (kas_item (arrOf ai) (lo + x))) with
   | true=>rw[if_pos rfl];exact Qt ⟨rfl,q ai x e h hx1 (by lia) he hd hq⟩
   | false=>
    rw[if_neg (by simp)];have heq:ky (kas_item (arrOf ai) (lo + x))=ky (kas_item (arrOf ai) (lo + x - 1)):=O.total _ _ c d;refine Qt ⟨rfl,e + 1,rfl,h,by lia,hd.succ (by lia) (by rw[heq];exact KeyOrd.kle_refl _),λk k1 k2=>?_⟩;rw[show lo + (x + 1) - 1=lo + x by lia];by_cases z:k=lo + x
    ·rw[z]
    ·rw[hq k (by lia) (by lia),heq]
 ·obtain⟨e,rfl,h,he,hd,hq⟩:=hI;rw[show max n m=m by lia] at hd hq he ⊢;exact q ai m e h hn (Qq _) he hd hq
theorem CJ (T:Tells prog w A κ s O ky Mem) (hb:∀x∈b.toList,Mem x) {st:SortSt} (h:Bs κ P lo b st) {n m:Nat} (hz:lo + m<=b.size) (h1:1<=n) (hn:n<=m) (hd:Dn O ky lo (arrOf st) n) {Q:Option Nat->SortSt->Shared->Prop}
  (q:∀ai k,Bs κ P lo b ai->1<=k->k<=m->Up O ky lo (arrOf ai) k->Q (some k) ai s):kasC (model prog w) A E (t3 lo n m) Q st s:=by
 unfold t3;have iy:=h.size;refine Qp (oq (Qp (B5 T hb (h.rev (Qq _) (by lia)) hz h1 hn (zy (by lia) hd) λk k1 k2 ku _=>?_)));exact Qt (q _ k (h.rev (Qq _) (by lia)) (by lia) k2 ku)
theorem Ca (T:Tells prog w A κ s O ky Mem) (hb:∀x∈b.toList,Mem x) {st:SortSt} (h:Bs κ P lo b st) {n m:Nat} (hz:lo + m<=b.size) (h1:1<=n) (hn:n + 1<=m) (hd:Dn O ky lo (arrOf st) (n + 1)) {Q:Option Nat->SortSt->Shared->Prop}
  (q:∀ai k,Bs κ P lo b ai->1<=k->k<=m->Up O ky lo (arrOf ai) k->Q (some k) ai s):kasC (model prog w) A E (dP lo n m) Q st s:=by
 unfold dP;refine Qp (kasC_lift (wpAny_rule ?_));refine Qp (Gh T hb h hz (by lia) hn hd λai k e h' k1 k2 ke kd kq=>?_);dsimp only;have iy:=h'.size;by_cases d:e > 0
 ·rw[if_pos d];exact Qp (oq (CJ T hb (h'.rev (by lia) (by lia)) hz (by lia) k2 (Dn.of (xC (by lia) kq) kd) q))
 ·rw[if_neg d];exact CJ T hb h' hz (by lia) k2 kd q
theorem Gf (T:Tells prog w A κ s O ky Mem) (hb:∀x∈b.toList,Mem x) {st:SortSt} (h:Bs κ P lo b st) {m:Nat} (hz:lo + m<=b.size) (h1:1<=m) {Q:Option Nat->SortSt->Shared->Prop}
  (q:∀ai k,Bs κ P lo b ai->1<=k->k<=m->Up O ky lo (arrOf ai) k->Q (some k) ai s):kasC (model prog w) A E (countRun' lo m) Q st s:=by
 rw[Ge];unfold cR;have iy:=h.size;refine Qp (B5 T hb h hz (Qq _) h1 (Up.one _) λn n1 n2 nu nl=>?_);dsimp only;by_cases e:(n==m)=true
 ·rw[if_pos e];exact Qt (q _ n h n1 n2 nu)
 ·rw[if_neg e];have e':n≠m:=by simpa using e
  have cC:=nl (by lia);by_cases hn:n > 1
  ·rw[if_pos hn];refine Qp (iF T hb h (by lia) (by lia) ?_);dsimp only;cases c:O.blt (ky (kas_item (arrOf st) lo)) (ky (kas_item (arrOf st) (lo + n - 1))) with
   | true=>rw[if_pos rfl];exact Qt (q _ n h n1 n2 nu)
   | false=>
    rw[if_neg (by simp)];have all:∀k,lo<=k->k < lo + n->ky (kas_item (arrOf st) k)=ky (kas_item (arrOf st) (lo + n - 1)):=λk k1 k2=>by refine KeyOrd.kle_antisymm (nu k (lo + n - 1) k1 (by lia) (by lia)) (QM (show O.kle (ky (kas_item (arrOf st) (lo + n - 1))) (ky (kas_item (arrOf st) lo)) from c) (nu lo k (Qq _) k1 k2))
    refine Qp (oq (Ca T hb (h.rev (Qq _) (by lia)) hz n1 (by lia) (Dn.of (xC (by lia) all) (Dn.succ (λi j hi fV hj=>?_) n1 (KeyOrd.kle_of_klt cC))) q));rw[all i hi (by lia),all j (by lia) hj];exact KeyOrd.kle_refl _
  ·rw[if_neg hn];have e1:n=1:=by lia
   subst e1;exact Ca T hb h hz n1 (by lia) (Dn.succ (Dn.one _) n1 (KeyOrd.kle_of_klt cC)) q
theorem HE (T:Tells prog w A κ s O ky Mem) (hb:∀x∈b.toList,Mem x) {st:SortSt} (h:Bs κ P lo b st) {k:Nat} (hz:lo + k < b.size) (hu:Up O ky lo (arrOf st) k) {Q:Option Bool×Nat×Nat->SortSt->Shared->Prop}
  (q:∀l r,l<=k->(∀i,lo<=i->i < lo + l->O.kle (ky (kas_item (arrOf st) i)) (ky (kas_item (arrOf st) (lo + k))))->(∀i,lo + l<=i->i < lo + k->O.klt (ky (kas_item (arrOf st) (lo + k))) (ky (kas_item (arrOf st) i)))->Q (none,l,r) st s):kasC (model prog w) A E (pL lo k) Q st s:=by
 unfold pL;refine dM (λx c ai=>st=ai/\∃l r,c=(none,l,r)/\l<=r/\r<=k/\r - l<=k - x/\(∀i,lo<=i->i < lo + l->O.kle (ky (kas_item (arrOf st) i)) (ky (kas_item (arrOf st) (lo + k))))/\(∀i,lo + r<=i->i < lo + k->O.klt (ky (kas_item (arrOf st) (lo + k))) (ky (kas_item (arrOf st) i))))
  ⟨rfl,0,k,rfl,by lia,by lia,by lia,λi a c=>absurd a (by lia),λi a c=>absurd a (by lia)⟩ (λx r ai hx1 A4 hI=>?_) (λr ai hI=>?_)
 ·obtain⟨rfl,l,r,rfl,lr,rk,rl,nO,zZ⟩:=hI;dsimp only;by_cases c:l>=r
  ·rw[if_pos c];have e:l=r:=by lia
   subst e;exact Qt ⟨rfl,q l l rk nO zZ⟩
  ·rw[if_neg c];refine Qp (iF T hb h (by lia) (by lia) ?_);dsimp only;cases d:O.blt (ky (kas_item (arrOf st) (lo + k))) (ky (kas_item (arrOf st) (lo + (l + r) / 2))) with
   | true=>rw[if_pos rfl];exact Qt ⟨rfl,rfl,l,(l + r) / 2,rfl,by lia,by lia,by lia,nO,λi i1 i2=>KeyOrd.klt_of_klt_of_kle d (hu _ _ (by lia) i1 i2)⟩
   | false=>rw[if_neg (by simp)];exact Qt ⟨rfl,rfl,(l + r) / 2 + 1,r,rfl,by lia,by lia,by lia,λi i1 i2=>QM (hu i (lo + (l + r) / 2) i1 (by lia) (by lia)) d,zZ⟩
 ·obtain⟨rfl,l,r,rfl,lr,rk,rl,nO,zZ⟩:=hI;have e:l=r:=by lia
  subst e;exact q l l rk nO zZ
theorem F9 (T:Tells prog w A κ s O ky Mem) (hb:∀x∈b.toList,Mem x) {st:SortSt} (h:Bs κ P lo b st) {n k:Nat} (hz:lo + n<=b.size) (h1:1<=k) (hk:k<=n) (hu:Up O ky lo (arrOf st) k) {Q:Bool->SortSt->Shared->Prop}
  (q:∀ai,Bs κ P lo b ai->Up O ky lo (arrOf ai) n->Q true ai s):kasC (model prog w) A E (binarySort' lo n k) Q st s:=by
 rw[F8];unfold bS;refine Qp (dM (λx c ai=>c=(none,())/\Bs κ P lo b ai/\Up O ky lo (arrOf ai) x) ⟨rfl,h,by rw[show max k 1=k by lia];exact hu⟩ (λx r ai hx1 A4 hI=>?_) (λr ai hI=>?_))
 ·obtain⟨rfl,h,hu⟩:=hI;have iy:=h.size;refine Qp (HE T hb h (by lia) hu λl r hl nO zZ=>?_);dsimp only;rw[moveDown'_eq];refine Qp (kasC_modify (Qt ⟨rfl,rfl,h.NU (by lia) (by lia),λi j hi fV hj=>?_⟩));show O.kle (ky (kas_item (bubble (arrOf ai) (lo + x) (lo + x - (lo + l))) i)) (ky (kas_item (bubble (arrOf ai) (lo + x) (lo + x - (lo + l))) j));rw[kL (by lia) (by lia),kL (by lia) (by lia),show lo + x - (lo + x - (lo + l))=lo + l by lia]
  repeat' split
  all_goals first
   | (exfalso;lia)
   | exact KeyOrd.kle_refl _
   | exact nO _ (by lia) (by lia)
   | exact KeyOrd.kle_of_klt (zZ _ (by lia) (by lia))
   | exact hu _ _ (by lia) (by lia) (by lia)
 ·obtain⟨rfl,h,hu⟩:=hI;rw[show max (max k 1) n=n by lia] at hu;exact Qt (q _ h hu)
end
noncomputable def LW (size pw:Nat):StateT SortSt Sem (Option Unit×Unit):=
 forIn [:size] ((none,()):Option Unit×Unit) λ_ _=>do
  let st<-get
  match (if (pendingOf st).size > 1 then(pendingOf st)[(pendingOf st).size - 2]? else none) with
  | some (_,_,older)=>
   if older<=pw then pure (.done (none,())) else do
    let ok<-Hm ((pendingOf st).size - 2)
    if (!ok)=true then pure (.done (some (),())) else pure (.yield (none,()))
  | _=>pure (.done (none,()))
noncomputable def Jc (size lo n:Nat):StateT SortSt Sem (ForInStep (Option Unit×Nat)):=do
 let st<-get
 match (pendingOf st).back? with
 | some (s1,n1,_)=>do
  let r<-LW size (power' size (2 * s1 + n1) (2 * s1 + n1 + n1 + n) size)
  match r.1 with
  | some v=>pure (.done (some v,lo))
  | none=>do
   modify λs=>setPending s ((pendingOf s).modify ((pendingOf s).size - 1) λ(st,len,_)=>(st,len,power' size (2 * s1 + n1) (2 * s1 + n1 + n1 + n) size))
   modify λs=>setPending s ((pendingOf s).push (lo,n,0))
   pure (.yield (none,lo + n))
 | _=>do
  modify λs=>setPending s ((pendingOf s).push (lo,n,0))
  pure (.yield (none,lo + n))
noncomputable def Iu (size mr lo:Nat):StateT SortSt Sem (ForInStep (Option Unit×Nat)):=
 if lo>=size then pure (.done (none,lo)) else do
  let f<-countRun' lo (size - lo)
  match f with
  | some n=>
   if n < mr then do
    rule "list.sort.binary-insertion"
    let ok<-binarySort' lo (min (size - lo) mr) n
    if (!ok)=true then pure (.done (some (),lo)) else Jc size lo (min (size - lo) mr)
   else Jc size lo n
  | _=>pure (.done (some (),lo))
noncomputable def ix (p:Array (Nat×Nat×Nat)):Nat:=if (if p.size - 2 > 0 then p[p.size - 2 - 1]?.map (·.2.1) else none).any (· < (p[p.size - 2 + 1]?.elim 0 (·.2.1))) then p.size - 2 - 1 else p.size - 2
noncomputable def JD (size:Nat):StateT SortSt Sem (Option Unit×Unit):=
 forIn [:size] ((none,()):Option Unit×Unit) λ_ _=>do
  let st<-get
  if (pendingOf st).size<=1 then pure (.done (none,())) else do
   let ok<-Hm (ix (pendingOf st))
   if (!ok)=true then pure (.done (some (),())) else pure (.yield (none,()))
noncomputable def sR:StateT SortSt Sem Unit:=do
 let st<-get
 let r<-forIn [:(arrOf st).size] ((none,0):Option Unit×Nat) λ_ r=>Iu (arrOf st).size (minRun' (arrOf st).size (arrOf st).size 0) r.2
 match r.1 with
 | some v=>pure v
 | none=>do
  let r<-JD (arrOf st).size
  match r.1 with
  | some v=>pure v
  | none=>pure ()
theorem HS:sortRuns'=sR:=by kernel_rfl
section
variable {O:KeyOrd} {ky:Keyed->O.α} {Mem:Keyed->Prop}
variable {prog:Program} {w:World} {A:Around} {E:Value->Shared->Prop} {κ:SortKind} {s:Shared} {a:Array Keyed}
theorem Up.jh {b:Array Keyed} {n:Nat} (hn:b.size=n) (h:Up O ky 0 b n):gY O ky b.toList:=by
 refine List.pairwise_iff_getElem.mpr λi j hi hj fV=>?_
 have e:∀k,(h:k < b.size)->kas_item b k=b.toList[k]'(by simpa using h):=λk h=>by unfold kas_item;simp[Array.getD,h]
 have z9:j < b.size:=by simpa using hj
 rw[<-e i (by lia),<-e j z9];exact h i j (by lia) (by lia) (by lia)
end
section
variable {O:KeyOrd} {ky:Keyed->O.α} {Mem:Keyed->Prop}
variable {prog:Program} {w:World} {A:Around} {E:Value->Shared->Prop} {κ:SortKind} {s:Shared}
theorem item_list (b:Array Keyed) (t:Nat):kas_item b t=b.toList.getD t (Value.none,Value.none):=by unfold kas_item;simp[Array.getD,List.getD];split <;> simp_all
theorem E8 {l:List Keyed} (h:gY O ky l) {i j:Nat} (fV:i<=j) (hj:j < l.length):le O ky (l.getD i (Value.none,Value.none)) (l.getD j (Value.none,Value.none)):=by
 rcases Nat.lt_or_ge i j with c | c
 ·have:=List.pairwise_iff_getElem.mp h i j (by lia) hj c;rw[List.getD_eq_getElem?_getD,List.getD_eq_getElem?_getD,QJ hj,QJ (by lia)];exact this
 ·have e:i=j:=by lia
  subst e;exact KeyOrd.kle_refl _
theorem xP {l m:List Keyed} {d:Keyed} {i:Nat} (h:i < l.length):(l++m).getD i d=l.getD i d:=by rw[List.getD_eq_getElem?_getD,List.getD_eq_getElem?_getD,Q0 h]
theorem xQ {l m:List Keyed} {d:Keyed} {i:Nat} (h:l.length<=i):(l++m).getD i d=m.getD (i - l.length) d:=by rw[List.getD_eq_getElem?_getD,List.getD_eq_getElem?_getD,Q1 h]
theorem LH (T:Tells prog w A κ s O ky Mem) {a:Array Keyed} {P:Array (Nat×Nat×Nat)} {i p n1 n2 pw z g:Nat} (Og:P[i]?=some (p,n1,pw)) (GB:P[i + 1]?=some (p + n1,n2,z)) (iy:p + n1 + n2<=a.size) (h1:1<=n1) (h2:1<=n2) (hm:∀i,i < a.size->Mem (kas_item a i))
  (sA:∀i j,p<=i->i<=j->j < p + n1->le O ky (kas_item a i) (kas_item a j)) (sB:∀i j,p + n1<=i->i<=j->j < p + n1 + n2->le O ky (kas_item a i) (kas_item a j))
  {Q:Bool->SortSt->Shared->Prop} (q:∀ai:SortSt,kindOf ai=κ->pendingOf ai=(P.setIfInBounds i (p,n1 + n2,pw)).eraseIdxIfInBounds (i + 1)->failedOf ai=none->(arrOf ai).toList.Perm a.toList->Up O ky p (arrOf ai) (n1 + n2)->
   (∀t,t < p\/p + n1 + n2<=t->kas_item (arrOf ai) t=kas_item a t)->Q true ai s):
  kasC (model prog w) A E (Hm i) Q (SortSt.mk' κ a P g none) s:=by
 rw[D0];refine Qp (kasC_get ?_);dsimp only;have e0:(pendingOf (SortSt.mk' κ a P g none))[i]?=some (p,n1,pw):=Og;have e1:(pendingOf (SortSt.mk' κ a P g none))[i + 1]?=some (p + n1,n2,z):=GB;rw[e0,e1];dsimp only;refine Qp (yz ?_);refine Qp (aR (aG (x:=a) (show p + n1 < a.size by lia)) (Qp ?_));refine i6 T (λt=>kas_item a (p + t)) (λt ht=>aG (x:=a) (by lia)) (λt ht=>hm _ (by lia)) (hm (p + n1) (by lia)) (by lia) (λi j fV hj hb=>?_) rfl (λk hk1 cC iT=>?_)
 ·unfold dW at hb ⊢;rw[if_neg (by simp)] at hb ⊢;have:=sA (p + i) (p + j) (by lia) (by lia) (by lia);cases zz:O.blt (ky (kas_item a (p + n1))) (ky (kas_item a (p + i))) with
  | false=>rfl
  | true=>have z2:O.blt (ky (kas_item a (p + n1))) (ky (kas_item a (p + j)))=true:=KeyOrd.klt_of_klt_of_kle zz this;have jK:(!O.blt (ky (kas_item a (p + n1))) (ky (kas_item a (p + j))))=true:=hb;rw[z2] at jK;cases jK
 have lo:∀t,p<=t->t < p + k->le O ky (kas_item a t) (kas_item a (p + n1)):=λt h0 ht=>by have zz:=cC (t - p) (by lia);unfold dW at zz;rw[if_neg (by simp)] at zz;have z2:(!O.blt (ky (kas_item a (p + n1))) (ky (kas_item a (p + (t - p)))))=true:=zz;rw[show p + (t - p)=t by lia] at z2;show O.blt (ky (kas_item a (p + n1))) (ky (kas_item a t))=false;simpa using z2
 have up:∀t,p + k<=t->t < p + n1->O.blt (ky (kas_item a (p + n1))) (ky (kas_item a t))=true:=λt h1 h2=>by have zz:=iT (t - p) (by lia) (by lia);unfold dW at zz;rw[if_neg (by simp)] at zz;have z2:(!O.blt (ky (kas_item a (p + n1))) (ky (kas_item a (p + (t - p)))))=false:=zz;rw[show p + (t - p)=t by lia] at z2;simpa using z2
 have zm:∀b:Array Keyed,(∀i j,i < j->j < b.size->le O ky (kas_item b i) (kas_item b j))->gY O ky b.toList:=λb hb=>by
  refine List.pairwise_iff_getElem.mpr λi j hi hj fV=>?_
  have e:∀k,(h:k < b.size)->kas_item b k=b.toList[k]'(by simpa using h):=λk h=>by unfold kas_item;simp[Array.getD,h]
  rw[<-e i (by simpa using hi),<-e j (by simpa using hj)];exact hb i j fV (by simpa using hj)
 dsimp only;by_cases c:(n1 - k==0)=true
 ·rw[if_pos c];have c':n1 - k=0:=by simpa using c
  refine Qt (q _ rfl rfl rfl (List.Perm.refl _) (λi j hi fV hj=>?_) λt _=>rfl);by_cases ci:j < p + n1
  ·exact sA i j hi fV ci
  ·by_cases cj:i < p + n1
   ·exact QM (lo i hi (by lia)) (sB (p + n1) j (Qq _) (by lia) (by lia))
   ·exact sB i j (by lia) (by lia) (by lia)
 ·rw[if_neg c];have c':¬n1 - k=0:=by simpa using c
  refine Qp (aR (aG (x:=a) (show p + k + (n1 - k) - 1 < a.size by lia)) (Qp ?_));have el:p + k + (n1 - k) - 1=p + n1 - 1:=by lia
  refine i6 T (λt=>kas_item a (p + n1 + t)) (λt ht=>aG (x:=a) (by lia)) (λt ht=>hm _ (by lia)) (hm _ (by lia)) (by lia) (λi j fV hj hb=>?_) rfl (λm Lc hmlt hmge=>?_)
  ·unfold dW at hb ⊢;rw[if_pos rfl] at hb ⊢;exact KeyOrd.klt_of_kle_of_klt (sB (p + n1 + i) (p + n1 + j) (by lia) (by lia) (by lia)) hb
  have NT:∀t,p + n1<=t->t < p + n1 + m->O.blt (ky (kas_item a t)) (ky (kas_item a (p + n1 - 1)))=true:=λt h1 h2=>by have zz:=hmlt (t - (p + n1)) (by lia);unfold dW at zz;rw[if_pos rfl,el] at zz;have z2:O.blt (ky (kas_item a (p + n1 + (t - (p + n1))))) (ky (kas_item a (p + n1 - 1)))=true:=zz;rw[show p + n1 + (t - (p + n1))=t by lia] at z2;exact z2
  have ML:∀t,p + n1 + m<=t->t < p + n1 + n2->le O ky (kas_item a (p + n1 - 1)) (kas_item a t):=λt h1 h2=>by have zz:=hmge (t - (p + n1)) (by lia) (by lia);unfold dW at zz;rw[if_pos rfl,el] at zz;have z2:O.blt (ky (kas_item a (p + n1 + (t - (p + n1))))) (ky (kas_item a (p + n1 - 1)))=false:=zz;rw[show p + n1 + (t - (p + n1))=t by lia] at z2;exact z2
  have m0:m≠0:=λe=>by have z1:=ML (p + n1) (by lia) (by lia);have z2:=up (p + n1 - 1) (by lia) (by lia);exact KeyOrd.not_klt_of_kle z1 z2
  dsimp only;rw[if_neg (by simpa using m0)];have gx:∀t,t < n1 - k->kas_item (a.extract (p + k) (p + n1)) t=kas_item a (p + k + t):=λt ht=>by unfold kas_item;simp[Array.getD,show t < p + n1 - (p + k) by lia,show p + k + t < a.size by lia,show min (p + n1) a.size=p + n1 by lia]
  have gy:∀t,t < m->kas_item (a.extract (p + n1) (p + n1 + m)) t=kas_item a (p + n1 + t):=λt ht=>by unfold kas_item;simp[Array.getD,show p + n1 + t < a.size by lia,show min (p + n1 + m) a.size=p + n1 + m by lia,ht]
  have sx:(a.extract (p + k) (p + n1)).size=n1 - k:=by simp;lia
  have sy:(a.extract (p + n1) (p + n1 + m)).size=m:=by simp;lia
  have MM:MP O ky Mem (a.extract (p + k) (p + n1)) (a.extract (p + n1) (p + n1 + m)):=by
   refine⟨zm _ λi j fV hj=>?_,zm _ λi j fV hj=>?_,λi hi=>?_,λi hi=>?_,by lia,by lia,?_,λj hj=>?_⟩
   ·rw[gx i (by lia),gx j (by lia)];exact sA _ _ (by lia) (by lia) (by lia)
   ·rw[gy i (by lia),gy j (by lia)];exact sB _ _ (by lia) (by lia) (by lia)
   ·rw[gx i (by lia)];exact hm _ (by lia)
   ·rw[gy i (by lia)];exact hm _ (by lia)
   ·rw[gx 0 (by lia),gy 0 (by lia)];exact up (p + k) (Qq _) (by lia)
   ·rw[sx,gx (n1 - k - 1) (by lia),gy j (by lia),show p + k + (n1 - k - 1)=p + n1 - 1 by lia];exact NT _ (by lia) (by lia)
  have lx:(a.extract (p + k) (p + n1)).toList=(a.toList.drop (p + k)).take (n1 - k):=by have:=tT a (k:=p + k) (i:=p + n1);rw[show p + n1 - (p + k)=n1 - k by lia] at this;exact this
  have ly:(a.extract (p + n1) (p + n1 + m)).toList=(a.toList.drop (p + n1)).take m:=kB a (p + n1) m;have fin:∀(v:Array Keyed) (ai:SortSt),kindOf ai=κ->arrOf ai=a->pendingOf ai=(P.setIfInBounds i (p,n1 + n2,pw)).eraseIdxIfInBounds (i + 1)->failedOf ai=none->qQ O ky (a.extract (p + k) (p + n1)).toList (a.extract (p + n1) (p + n1 + m)).toList v.toList->
    kasC (model prog w) A E (do
     modify λt=>SortSt.mk' (kindOf t) (back v (p + k) (arrOf t)) (pendingOf t) (gallopOf t) (failedOf t)
     let t<-get
     pure (failedOf t).isNone) Q ai s:=λv ai k1 k2 k3 k4 hv=>by
   refine Qp (kasC_modify (Qp (kasC_get (Qt ?_))));obtain⟨vp,vs⟩:=hv;have vl:v.toList.length=n1 - k + m:=by
    rw[vp.length_eq,QB];simp only[QF]
    lia
   have bl:(back v (p + k) a).toList=a.toList.take (p + k)++v.toList++a.toList.drop (p + n1 + m):=by
    have:=l0 v.toList (p + k) 0 a (by lia);unfold back;refine Eq.trans ?_ (this.trans ?_)
    ·rfl
    ·rw[Nat.add_zero,vl,show p + k + (n1 - k + m)=p + n1 + m by lia]
   have al:a.toList.length=a.size:=QF;have Pk:a.toList=a.toList.take (p + k)++((a.toList.drop (p + k)).take (n1 - k)++(a.toList.drop (p + n1)).take m)++a.toList.drop (p + n1 + m):=by have b1:=kg (l:=a.toList) (i:=p + n1) (k:=p + k) (by lia);rw[show p + n1 - (p + k)=n1 - k by lia] at b1;rw[Qz,Qz,<-cU (l:=a.toList) (i:=p + n1) (k:=m),<-b1,List.take_append_drop]
   have pm:(back v (p + k) a).toList.Perm a.toList:=by
    rw[bl]
    conv=>rhs;rw[Pk]
    rw[lx,ly] at vp;exact((List.Perm.refl _).append vp).append (List.Perm.refl _)
   have LI:∀e∈v.toList,(∃t,p + k<=t/\t < p + n1/\e=kas_item a t)\/(∃t,p + n1<=t/\t < p + n1 + m/\e=kas_item a t):=λe he=>by
    rw[lx,ly] at vp;rcases QH.mp (vp.mem_iff.mp he) with he | he
    ·obtain⟨t,t1,t2,t3,rfl⟩:=aV he;exact .inl ⟨t,t1,by lia,rfl⟩
    ·obtain⟨t,t1,t2,t3,rfl⟩:=aV he;exact .inr ⟨t,t1,by lia,rfl⟩
   have zT:∀t,t < p + k->kas_item (back v (p + k) a) t=kas_item a t:=λt ht=>by rw[item_list,item_list,bl,Qz,xP (by rw[List.length_take];lia)];rw[List.getD_eq_getElem?_getD,List.getD_eq_getElem?_getD,List.getElem?_take_of_lt ht]
   have at2:∀t,p + k<=t->t < p + n1 + m->kas_item (back v (p + k) a) t=v.toList.getD (t - (p + k)) (Value.none,Value.none):=λt h1 h2=>by
    have hl:(a.toList.take (p + k)).length=p + k:=by rw[List.length_take];lia
    rw[item_list,bl,Qz,xQ (by lia),hl,xP (by lia)]
   have F7:∀t,p + n1 + m<=t->kas_item (back v (p + k) a) t=kas_item a t:=λt h1=>by
    have hl:(a.toList.take (p + k)++v.toList).length=p + n1 + m:=by rw[QB,List.length_take];lia
    rw[item_list,item_list,bl,xQ (by lia),hl];rw[List.getD_eq_getElem?_getD,List.getD_eq_getElem?_getD,List.getElem?_drop];congr 2
    lia
   have vN:∀t,p + k<=t->t < p + n1 + m->(∃u,p + k<=u/\u < p + n1/\kas_item (back v (p + k) a) t=kas_item a u)\/(∃u,p + n1<=u/\u < p + n1 + m/\kas_item (back v (p + k) a) t=kas_item a u):=λt h1 h2=>by rw[at2 t h1 h2];refine LI _ ?_;rw[List.getD_eq_getElem?_getD,QJ (by lia)];exact List.getElem_mem _
   have ss:Up O ky p (back v (p + k) a) (n1 + n2):=λi j hi fV hj=>by
    show le O ky (kas_item (back v (p + k) a) i) (kas_item (back v (p + k) a) j);by_cases c1:j < p + k
    ·rw[zT i (by lia),zT j c1];exact sA i j hi fV (by lia)
    by_cases c2:j < p + n1 + m
    ·by_cases c3:i < p + k
     ·rw[zT i c3];rcases vN j (by lia) c2 with ⟨u,u1,u2,e⟩ | ⟨u,u1,u2,e⟩
      ·rw[e];exact sA i u hi (by lia) u2
      ·rw[e];exact QM (lo i hi c3) (sB (p + n1) u (Qq _) u1 (by lia))
     ·rw[at2 i (by lia) (by lia),at2 j (by lia) c2];exact E8 vs (by lia) (by lia)
    ·rw[F7 j (by lia)];by_cases c3:i < p + k
     ·rw[zT i c3];exact QM (lo i hi c3) (sB (p + n1) j (Qq _) (by lia) (by lia))
     by_cases c4:i < p + n1 + m
     ·rcases vN i (by lia) c4 with ⟨u,u1,u2,e⟩ | ⟨u,u1,u2,e⟩
      ·rw[e];exact QM (sA u (p + n1 - 1) (by lia) (by lia) (by lia)) (ML j (by lia) (by lia))
      ·rw[e];exact sB u j u1 (by lia) (by lia)
     ·rw[F7 i (by lia)];exact sB i j (by lia) fV (by lia)
   have qq:=q (SortSt.mk' (kindOf ai) (back v (p + k) (arrOf ai)) (pendingOf ai) (gallopOf ai) (failedOf ai)) k1 k3 k4 (by rw[k2];exact pm) (by rw[k2];exact ss) (λt ht=>by
    show kas_item (back v (p + k) (arrOf ai)) t=_;rw[k2];rcases ht with ht | ht
    ·exact zT t (by lia)
    ·exact F7 t (by lia))
   have e:(failedOf ai).isNone=true:=by rw[k4];rfl
   show Q (failedOf ai).isNone _ s;rw[e];exact qq
  by_cases d:n1 - k<=m
  ·rw[if_pos d];refine Qp (Bk T MM rfl λv ai si hv=>?_);exact fin v ai si.1 si.2.1 si.2.2.1 si.2.2.2 hv
  ·rw[if_neg d];refine Qp (Bi T MM rfl λv ai si hv=>?_);exact fin v ai si.1 si.2.1 si.2.2.1 si.2.2.2 hv
end
section
variable {O:KeyOrd} {ky:Keyed->O.α} {Mem:Keyed->Prop}
variable {prog:Program} {w:World} {A:Around} {E:Value->Shared->Prop} {κ:SortKind} {s:Shared} {a:Array Keyed}
noncomputable def Rn (O:KeyOrd) (ky:Keyed->O.α) (b:Array Keyed):List (Nat×Nat×Nat)->Nat->Nat->Prop
 | [],lo,hi=>lo=hi
 | x::r,lo,hi=>x.1=lo/\1<=x.2.1/\Up O ky lo b x.2.1/\Rn O ky b r (lo + x.2.1) hi
theorem Rn.le {b:Array Keyed}:∀{l:List (Nat×Nat×Nat)} {lo hi:Nat},Rn O ky b l lo hi->lo + l.length<=hi
 | [],lo,hi,h=>by have h:lo=hi:=h;simp;lia
 | x::r,lo,hi,h=>by
  obtain⟨_,h2,_,h4⟩:=h;have:=Rn.le h4;simp only[QD]
  lia
theorem Rn.app {b:Array Keyed}:∀{l m:List (Nat×Nat×Nat)} {lo hi:Nat},Rn O ky b (l++m) lo hi↔∃k,Rn O ky b l lo k/\Rn O ky b m k hi
 | [],m,lo,hi=>⟨λh=>⟨lo,rfl,h⟩,λ⟨k,h1,h2⟩=>by have h1:lo=k:=h1;subst h1;exact h2⟩
 | x::r,m,lo,hi=>by
  constructor
  ·rintro⟨h1,h2,h3,h4⟩;obtain⟨k,k1,k2⟩:=Rn.app.mp h4;exact⟨k,⟨h1,h2,h3,k1⟩,k2⟩
  ·rintro⟨k,⟨h1,h2,h3,h4⟩,k2⟩;exact⟨h1,h2,h3,Rn.app.mpr ⟨k,h4,k2⟩⟩
theorem Rn.congr {b c:Array Keyed}:∀{l:List (Nat×Nat×Nat)} {lo hi:Nat},Rn O ky b l lo hi->(∀t,lo<=t->t < hi->kas_item c t=kas_item b t)->Rn O ky c l lo hi
 | [],lo,hi,h,_=>h
 | x::r,lo,hi,⟨h1,h2,h3,h4⟩,e=>by have hl:=Rn.le h4;refine⟨h1,h2,λi j hi fV hj=>?_,Rn.congr h4 λt a b=>e t (by lia) b⟩;rw[e i (by lia) (by lia),e j (by lia) (by lia)];exact h3 i j hi fV hj
structure Ru (O:KeyOrd) (ky:Keyed->O.α) (κ:SortKind) (a:Array Keyed) (lo:Nat) (st:SortSt):Prop where
 k:kindOf st=κ
 f:failedOf st=none
 pm:(arrOf st).toList.Perm a.toList
 rn:Rn O ky (arrOf st) (pendingOf st).toList 0 lo
theorem Ru.size {lo:Nat} {st:SortSt} (h:Ru O ky κ a lo st):(arrOf st).size=a.size:=by have:=h.pm.length_eq;simpa using this
theorem Ru.mem {lo:Nat} {st:SortSt} (h:Ru O ky κ a lo st) (hb:∀x∈a.toList,Mem x) {i:Nat} (hi:i < (arrOf st).size):Mem (kas_item (arrOf st) i):=by refine hb _ (h.pm.mem_iff.mp ?_);unfold kas_item;simp[Array.getD,hi]
theorem E7 {α:Type} {l:List α} {i:Nat} (h:i + 1 < l.length):∃l1 x y l2,l=l1++x::y::l2/\l1.length=i:=by refine⟨l.take i,l[i],l[i + 1],l.drop (i + 2),?_,by rw[List.length_take];lia⟩;rw[<-List.drop_eq_getElem_cons h,<-List.drop_eq_getElem_cons (by lia),List.take_append_drop]
theorem rz {P:Array (Nat×Nat×Nat)} {l1 l2:List (Nat×Nat×Nat)} {x y v:Nat×Nat×Nat} {i:Nat} (h:P.toList=l1++x::y::l2) (hi:l1.length=i):((P.setIfInBounds i v).eraseIdxIfInBounds (i + 1)).toList=l1++v::l2:=by
 have iy:P.size=l1.length + (l2.length + 2):=by
  have:=congrArg List.length h;simp at this
  lia
 have e1:(P.setIfInBounds i v).toList=l1++v::y::l2:=by rw[Array.toList_setIfInBounds,h,<-hi,List.set_append_right _ _ (Qq _)];simp
 unfold Array.eraseIdxIfInBounds;rw[dif_pos (by rw[Array.size_setIfInBounds];lia),Array.toList_eraseIdx,e1,<-hi];rw[List.eraseIdx_append_of_length_le (by lia)];simp
theorem qj (T:Tells prog w A κ s O ky Mem) (hb:∀x∈a.toList,Mem x) {lo i:Nat} {st:SortSt} (h:Ru O ky κ a lo st) (nO:lo<=a.size) (hi:i + 1 < (pendingOf st).size) {Q:Bool->SortSt->Shared->Prop}
  (q:∀ai,Ru O ky κ a lo ai->(pendingOf ai).size + 1=(pendingOf st).size->(∀t,lo<=t->kas_item (arrOf ai) t=kas_item (arrOf st) t)->Q true ai s):kasC (model prog w) A E (Hm i) Q st s:=by
 obtain⟨l1,x,y,l2,hl,hlen⟩:=E7 (l:=(pendingOf st).toList) (i:=i) (by simpa using hi);have iy:=h.size;have rn:=h.rn;rw[hl] at rn;obtain⟨p,r1,r2⟩:=Rn.app.mp rn;obtain⟨xp,xn,xw⟩:=x;obtain⟨yp,yn,yw⟩:=y;obtain⟨e1,x1,x2,e2,y1,y2,r3⟩:=r2;have e1:xp=p:=e1;have e2:yp=p + xn:=e2;subst e1 e2;have h3:=r3.le;simp only at x1 x2 y1 y2 r3 h3;have eP:∀j,(pendingOf st)[j]?=(l1++(xp,xn,xw)::(xp + xn,yn,yw)::l2)[j]?:=λj=>by rw[<-hl,Array.getElem?_toList]
 have g1:(pendingOf st)[i]?=some (xp,xn,xw):=by rw[eP,Q1 (by lia),show i - l1.length=0 by lia];rfl
 have g2:(pendingOf st)[i + 1]?=some (xp + xn,yn,yw):=by rw[eP,Q1 (by lia),show i + 1 - l1.length=1 by lia];rfl
 have N1:st=SortSt.mk' κ (arrOf st) (pendingOf st) (gallopOf st) none:=by have e:st=SortSt.mk' (kindOf st) (arrOf st) (pendingOf st) (gallopOf st) (failedOf st):=rfl;rw[h.k,h.f] at e;exact e
 have z:=LH (E:=E) T (a:=arrOf st) (P:=pendingOf st) (g:=gallopOf st) g1 g2 (by lia) x1 y1 (λi hi=>h.mem hb hi) (λi j a b c=>x2 i j a b c) (λi j a b c=>y2 i j a b c) (Q:=Q) λai k1 k2 k3 k4 k5 k6=>?_
 ·rw[<-N1] at z;exact z
 ·have ee:=rz (v:=(xp,xn + yn,xw)) hl hlen;refine q ai ⟨k1,k3,k4.trans h.pm,?_⟩ ?_ λt ht=>k6 t (.inr (by lia))
  ·rw[k2,ee];refine Rn.app.mpr ⟨xp,r1.congr λt _ ht=>k6 t (.inl ht),rfl,by show 1<=xn + yn;lia,k5,?_⟩;have:Rn O ky (arrOf ai) l2 (xp + xn + yn) lo:=r3.congr λt ht _=>k6 t (.inr ht)
   rw[Nat.add_assoc] at this;exact this
  ·rw[k2,<-QF,ee,<-QF,hl];simp
   lia
theorem EH (T:Tells prog w A κ s O ky Mem) (hb:∀x∈a.toList,Mem x) {lo size pw:Nat} {st:SortSt} (h:Ru O ky κ a lo st) (nO:lo<=a.size) (hp:1<=(pendingOf st).size) {Q:Option Unit×Unit->SortSt->Shared->Prop}
  (q:∀ai,Ru O ky κ a lo ai->1<=(pendingOf ai).size->(∀t,lo<=t->kas_item (arrOf ai) t=kas_item (arrOf st) t)->Q (none,()) ai s):kasC (model prog w) A E (LW size pw) Q st s:=by
 unfold LW;refine dM (λ_ c ai=>c=(none,())/\Ru O ky κ a lo ai/\1<=(pendingOf ai).size/\∀t,lo<=t->kas_item (arrOf ai) t=kas_item (arrOf st) t) ⟨rfl,h,hp,λ_ _=>rfl⟩ (λx c ai _ _ hI=>?_) (λc ai hI=>?_)
 ·obtain⟨rfl,h',kI,he⟩:=hI;refine Qp (kasC_get ?_);by_cases c1:(pendingOf ai).size > 1
  ·rw[if_pos c1];have:(pendingOf ai)[(pendingOf ai).size - 2]?=some (pendingOf ai)[(pendingOf ai).size - 2]:=by simp
   rw[this];dsimp only;by_cases c2:(pendingOf ai)[(pendingOf ai).size - 2].2.2<=pw
   ·rw[if_pos c2];exact Qt ⟨rfl,q _ h' kI he⟩
   ·rw[if_neg c2];refine Qp (qj T hb h' nO (by lia) λdS h2 s2 e2=>?_);rw[if_neg (by simp)];exact Qt ⟨rfl,rfl,h2,by lia,λt ht=>(e2 t ht).trans (he t ht)⟩
  ·rw[if_neg c1];exact Qt ⟨rfl,q _ h' kI he⟩
 ·obtain⟨rfl,h',kI,he⟩:=hI;exact q _ h' kI he
theorem Rn.LV {b:Array Keyed} {l:List (Nat×Nat×Nat)} {x y:Nat×Nat×Nat} {lo hi:Nat} (h:Rn O ky b (l++[x]) lo hi) (e1:y.1=x.1) (e2:y.2.1=x.2.1):Rn O ky b (l++[y]) lo hi:=by obtain⟨k,k1,h1,h2,h3,h4⟩:=Rn.app.mp h;exact Rn.app.mpr ⟨k,k1,e1.trans h1,by rw[e2];exact h2,by rw[e2];exact h3,by rw[e2];exact h4⟩
theorem snoc {α:Type} {P:Array α} (h:1<=P.size):∃l x,P.toList=l++[x]/\P.back?=some x:=by
 have lN:P.toList≠[]:=λz=>by have:=congrArg List.length z;simp at this;rw[this] at h;simp at h
 refine⟨P.toList.dropLast,P.toList.getLast lN,(List.dropLast_concat_getLast lN).symm,?_⟩;rw[<-Array.getLast?_toList,List.getLast?_eq_some_getLast lN]
theorem jr {α:Type} (f:α->α):∀(l:List α) (x:α),(l++[x]).modify l.length f=l++[f x]
 | [],x=>rfl
 | y::l,x=>by show y::(l++[x]).modify l.length f=y::(l++[f x]);rw[jr f l x]
theorem wJ (T:Tells prog w A κ s O ky Mem) (hb:∀x∈a.toList,Mem x) {size lo n:Nat} {st:SortSt} (h:Ru O ky κ a lo st) (nO:lo<=a.size) (hn:1<=n) (hu:Up O ky lo (arrOf st) n) (h0:1<=(pendingOf st).size\/lo=0) {Q:ForInStep (Option Unit×Nat)->SortSt->Shared->Prop}
  (q:∀ai,Ru O ky κ a (lo + n) ai->1<=(pendingOf ai).size->Q (.yield (none,lo + n)) ai s):kasC (model prog w) A E (Jc size lo n) Q st s:=by
 unfold Jc;refine Qp (kasC_get ?_);by_cases hp:1<=(pendingOf st).size
 ·obtain⟨l,x,hl,Os⟩:=snoc hp;rw[Os];obtain⟨s1,n1,w1⟩:=x;dsimp only;refine Qp (EH T hb h nO hp λdS h2 p2 e2=>?_);dsimp only;obtain⟨l2,x2,dh,Ot⟩:=snoc p2;have O8:(pendingOf dS).size=l2.length + 1:=by
   have:=congrArg List.length dh;simp at this
   lia
  refine Qp (kasC_modify (Qp (kasC_modify (Qt (q _ ⟨h2.k,h2.f,h2.pm,?_⟩ ?_)))))
  ·show Rn O ky (arrOf dS) (((pendingOf dS).modify ((pendingOf dS).size - 1) _).push (lo,n,0)).toList 0 (lo + n);rw[Array.toList_push,Array.toList_modify,dh,O8];have em:(l2++[x2]).modify (l2.length + 1 - 1) (λ(x:Nat×Nat×Nat)=>(x.1,x.2.1,power' size (2 * s1 + n1) (2 * s1 + n1 + n1 + n) size))=l2++[(x2.1,x2.2.1,power' size (2 * s1 + n1) (2 * s1 + n1 + n1 + n) size)]:=by rw[Nat.add_sub_cancel];exact jr _ _ _
   rw[show (λ(x:Nat×Nat×Nat)=>match x with | (st,len,_)=>(st,len,power' size (2 * s1 + n1) (2 * s1 + n1 + n1 + n) size))=λ(x:Nat×Nat×Nat)=>(x.1,x.2.1,power' size (2 * s1 + n1) (2 * s1 + n1 + n1 + n) size) from rfl,em];have rn:=h2.rn;rw[dh] at rn;refine Rn.app.mpr ⟨lo,rn.LV rfl rfl,rfl,hn,λi j hi fV hj=>?_,rfl⟩;rw[e2 i hi,e2 j (by lia)];exact hu i j hi fV hj
  ·show 1<=(((pendingOf dS).modify ((pendingOf dS).size - 1) _).push (lo,n,0)).size;rw[Q6]
   lia
 ·have hz:(pendingOf st).size=0:=by lia
  have e:(pendingOf st).back?=none:=by rw[Array.back?_eq_none_iff];exact Array.eq_empty_of_size_eq_zero hz
  rw[e];have K8:lo=0:=h0.resolve_left hp;subst K8;refine Qp (kasC_modify (Qt (q _ ⟨h.k,h.f,h.pm,?_⟩ ?_)))
  ·show Rn O ky (arrOf st) ((pendingOf st).push (0,n,0)).toList 0 (0 + n);rw[Array.toList_push,Array.eq_empty_of_size_eq_zero hz];exact⟨rfl,hn,hu,rfl⟩
  ·show 1<=((pendingOf st).push (0,n,0)).size;rw[Q6]
   lia
theorem Fb (T:Tells prog w A κ s O ky Mem) (hb:∀x∈a.toList,Mem x) {mr lo:Nat} {st:SortSt} (h:Ru O ky κ a lo st) (nO:lo < a.size) (hm:1<=mr) (h0:1<=(pendingOf st).size\/lo=0) {Q:ForInStep (Option Unit×Nat)->SortSt->Shared->Prop}
  (q:∀ai n,1<=n->lo + n<=a.size->Ru O ky κ a (lo + n) ai->1<=(pendingOf ai).size->Q (.yield (none,lo + n)) ai s):kasC (model prog w) A E (Iu a.size mr lo) Q st s:=by
 unfold Iu;rw[if_neg (by lia)];have iy:=h.size;have jK:∀x∈(arrOf st).toList,Mem x:=λx hx=>hb x (h.pm.mem_iff.mp hx)
 have b0:Bs κ (pendingOf st) lo (arrOf st) st:=⟨h.k,h.f,rfl,List.Perm.refl _,λ_ _=>rfl⟩;have NJ:∀{ai:SortSt},Bs κ (pendingOf st) lo (arrOf st) ai->Ru O ky κ a lo ai:=λb=>⟨b.k,b.f,b.pm.trans h.pm,by rw[b.p];exact h.rn.congr λt _ ht=>b.lw t ht⟩
 refine Qp (Gf T jK b0 (m:=a.size - lo) (by lia) (by lia) λai k b' k1 k2 ku=>?_);dsimp only;by_cases c:k < mr
 ·rw[if_pos c];refine Qp (kasC_lift (wpAny_rule ?_));refine Qp (F9 T jK b' (n:=min (a.size - lo) mr) (by lia) k1 (by lia) ku λdS b2 u2=>?_);rw[if_neg (by simp)];exact wJ T hb (NJ b2) (by lia) (by lia) u2 (by rw[b2.p];exact h0) λFP h3 p3=>q FP _ (by lia) (by lia) h3 p3
 ·rw[if_neg c];exact wJ T hb (NJ b') (by lia) (by lia) ku (by rw[b'.p];exact h0) λFP h3 p3=>q FP _ (by lia) (by lia) h3 p3
theorem Hh {P:Array (Nat×Nat×Nat)} (h:1 < P.size):ix P + 1 < P.size:=by
 have key:ix P=P.size - 2 - 1\/ix P=P.size - 2:=by
  unfold ix;generalize Option.any _ _=b;cases b
  ·exact .inr rfl
  ·exact .inl rfl
 rcases key with e | e <;> lia
theorem D5 (T:Tells prog w A κ s O ky Mem) (hb:∀x∈a.toList,Mem x) {st:SortSt} (h:Ru O ky κ a a.size st) {Q:Option Unit×Unit->SortSt->Shared->Prop}
  (q:∀ai,Ru O ky κ a a.size ai->(pendingOf ai).size<=1->Q (none,()) ai s):kasC (model prog w) A E (JD a.size) Q st s:=by
 unfold JD;have hle:=h.rn.le;simp at hle;refine dM (λx c ai=>c=(none,())/\Ru O ky κ a a.size ai/\(pendingOf ai).size<=max 1 (a.size - x)) ⟨rfl,h,by lia⟩ (λx c ai _ hx hI=>?_) (λc ai hI=>?_)
 ·obtain⟨rfl,h',hp⟩:=hI;refine Qp (kasC_get ?_);by_cases c1:(pendingOf ai).size<=1
  ·rw[if_pos c1];exact Qt ⟨rfl,q _ h' c1⟩
  ·rw[if_neg c1];refine Qp (qj T hb h' (Qq _) (Hh (by lia)) λdS h2 s2 _=>?_);rw[if_neg (by simp)];exact Qt ⟨rfl,rfl,h2,by lia⟩
 ·obtain⟨rfl,h',hp⟩:=hI;exact q _ h' (by lia)
theorem kR:∀(f n r:Nat),1<=n->1<=minRun' f n r
 | 0,n,r,h=>by
  have e:minRun' 0 n r=n + r:=by kernel_rfl
  rw[e];lia
 | f + 1,n,r,h=>by
  rw[minRun'_succ];split
  ·lia
  ·exact kR f (n / 2) _ (by lia)
theorem ES (T:Tells prog w A κ s O ky Mem) (hb:∀x∈a.toList,Mem x) (h2:2<=a.size) {g:Nat} {Q:Unit->SortSt->Shared->Prop}
  (q:∀ai:SortSt,failedOf ai=none->(arrOf ai).toList.Perm a.toList->gY O ky (arrOf ai).toList->Q () ai s):kasC (model prog w) A E sortRuns' Q (SortSt.mk' κ a #[] g none) s:=by
 rw[HS];unfold sR;refine Qp (kasC_get ?_);have Ny:=kR a.size a.size 0 (by lia);show kasC _ _ _ (do
  let r<-forIn [:a.size] ((none,0):Option Unit×Nat) λ_ r=>Iu a.size (minRun' a.size a.size 0) r.2
  match r.1 with
  | some v=>pure v
  | none=>do
   let r<-JD a.size
   match r.1 with
   | some v=>pure v
   | none=>pure ()) _ _ _
 generalize minRun' a.size a.size 0=mr at Ny ⊢;refine Qp (bM (Q:=λr ai s'=>s=s'/\r.1=none/\Ru O ky κ a a.size ai) (dM (λx c ai=>∃lo,c=(none,lo)/\x<=lo/\lo<=a.size/\Ru O ky κ a lo ai/\(1<=(pendingOf ai).size\/lo=0)) ⟨0,rfl,Qq _,by lia,⟨rfl,rfl,List.Perm.refl _,rfl⟩,.inr rfl⟩ (λx c ai _ hx hI=>?_) (λc ai hI=>?_)) (λr ai s' hI=>?_))
 ·obtain⟨lo,rfl,O5,nO,h,h0⟩:=hI;by_cases c:lo < a.size
  ·exact Fb T hb h c Ny h0 λdS n n1 n2 h2 p2=>⟨rfl,lo + n,rfl,by lia,n2,h2,.inl p2⟩
  ·have e:lo=a.size:=by lia
   subst e;unfold Iu;rw[if_pos (Qq _)];exact Qt ⟨rfl,rfl,rfl,h⟩
 ·obtain⟨lo,rfl,O5,nO,h,h0⟩:=hI;have e:lo=a.size:=by lia
  subst e;exact⟨rfl,rfl,h⟩
 ·obtain⟨rfl,e,h⟩:=hI;obtain⟨r1,r2⟩:=r;cases e;refine Qp (D5 T hb h λdS g1 g2=>Qt (q dS g1.f g1.pm ?_));have rn:=g1.rn
  match hl:(pendingOf dS).toList,rn with
  | [],rn=>have rn:0=a.size:=rn;lia
  | [x],rn=>obtain⟨_,_,u,e⟩:=rn;have e:0 + x.2.1=a.size:=e;exact Up.jh (g1.size.trans (by lia)) u
  | x::y::r,_=>
   exfalso;have:=congrArg List.length hl;simp at this
   lia
end
end MxTim
end
section
namespace Mx
open PySem PySem.W PySem.Spec PyProof.Rows L2 PySem.SeqAt MxSort
theorem qe {α β:Type} {f:α->β} {l l':List β} (h:l.Perm l'):∀r:List α,l=r.map f->∃p:List α,p.Perm r/\l'=p.map f:=by
 induction h with
 | nil=>intro r e;exact⟨r,List.Perm.refl _,e⟩
 | cons x h ih=>
  intro r e;cases r with
  | nil=>cases e
  | cons y r=>rw[Q2] at e;injection e with e1 e2;obtain⟨p,p1,p2⟩:=ih r e2;exact⟨y::p,p1.cons y,by rw[Q2,e1,p2]⟩
 | swap x y l=>
  intro r e;cases r with
  | nil=>cases e
  | cons a r=>
   cases r with
   | nil=>rw[Q2] at e;injection e with e1 e2;cases e2
   | cons b r=>rw[Q2,Q2] at e;injection e with e1 e2;injection e2 with e3 e4;exact⟨b::a::r,List.Perm.swap a b r,by rw[Q2,Q2,e1,e3,e4]⟩
 | trans h1 h2 ih1 ih2=>intro r e;obtain⟨p,p1,p2⟩:=ih1 r e;obtain⟨q,q1,q2⟩:=ih2 p p2;exact⟨q,q1.trans p1,q2⟩
section
variable {prog:Program} {w:World} {A:Around} {E:Value->Shared->Prop} {s:Shared}
noncomputable def CQ {O:KeyOrd} (vs:List Value) (key:Nat->O.α):Prop:=∀i j,i < vs.length->j < vs.length->vs.getD i Value.none=vs.getD j Value.none->key i=key j
open Classical in
noncomputable def DX {O:KeyOrd} (vs:List Value) (key:Nat->O.α) (k:Keyed):O.α:=if h:∃i,i < vs.length/\vs.getD i Value.none=k.1 then key (Classical.choose h) else key 0
theorem jP {O:KeyOrd} {vs:List Value} {key:Nat->O.α} (hi:CQ vs key) {i:Nat} (h:i < vs.length) (v:Value):DX vs key (vs.getD i Value.none,v)=key i:=by unfold DX;have ex:∃j,j < vs.length/\vs.getD j Value.none=((vs.getD i Value.none,v):Keyed).1:=⟨i,h,rfl⟩;rw[dif_pos ex];have z:=Classical.choose_spec ex;exact hi _ _ z.1 h z.2
theorem qL (vs:List Value):(vs.toArray.zip vs.toArray).toList=(List.range vs.length).map λi=>(vs.getD i Value.none,vs.getD i Value.none):=by
 refine List.ext_getElem (by simp) λi h1 h2=>?_
 simp at h1;simp[h1]
theorem EL {κ:SortKind} {vs:List Value} {O:KeyOrd} {key:Nat->O.α} (T:Tells O key (kas_ask prog w A κ vs) vs.length s) (hi:CQ vs key) (h2:2<=vs.length) (N7:vs.length < 1000000) {Q:SortSt->Shared->Prop}
  (hG:∀(p:Array Nat) (ai:SortSt),Ord vs.length p->Up key p vs.length->(arrOf ai).map (·.2)=(p.toList.map λi=>vs.getD i Value.none).toArray->failedOf ai=none->Q ai s):
  wpAny (model prog w) A ((sortRuns').run (SortSt.mk' κ (vs.toArray.zip vs.toArray) #[] 7 none)) (λr s'=>Q r.2 s') E s:=by
 have hz:(vs.toArray.zip vs.toArray).size=vs.length:=by simp
 have T':MxTim.Tells prog w A κ s O (DX vs key) (λk=>∃i,i < vs.length/\k=(vs.getD i Value.none,vs.getD i Value.none)):=by rintro x y ⟨i,Cr,rfl⟩ ⟨j,z9,rfl⟩ C hC;rw[jP hi Cr,jP hi z9] at hC;exact T i j Cr z9 C hC
 have run:=MxTim.ES (E:=E) T' (a:=vs.toArray.zip vs.toArray) (λx hx=>by
   rw[qL] at hx;obtain⟨i,i1,i2⟩:=QU.mp hx;exact⟨i,Q5.mp i1,i2.symm⟩) (by lia) (g:=7) (Q:=λ_ ai s'=>Q ai s') (λai f pm jh=>?_)
 ·exact run
 ·rw[qL] at pm;obtain⟨p,p1,p2⟩:=qe pm.symm (List.range vs.length) rfl;have hl:p.length=vs.length:=by rw[p1.length_eq,List.length_range]
  have cC:∀i∈p,i < vs.length:=λi hi=>Q5.mp (p1.mem_iff.mp hi)
  refine hG p.toArray ai (by unfold MxSort.Ord;exact p1) (λi j fV hj=>?_) ?_ f
  ·by_cases e:i=j
   ·subst e;exact KeyOrd.kle_refl _
   ·unfold MxTim.gY at jh;rw[p2,List.pairwise_map,List.pairwise_iff_getElem] at jh;have z:=jh i j (by lia) (by lia) (by lia);unfold MxTim.le at z;rw[jP hi (cC _ (List.getElem_mem _)),jP hi (cC _ (List.getElem_mem _))] at z;unfold rQ;rw[show p.toArray.getD i 0=p[i] by simp[Array.getD,show i < p.length by lia],show p.toArray.getD j 0=p[j] by simp[Array.getD,show j < p.length by lia]];exact z
  ·apply Array.toList_inj.mp;rw[Array.toList_map,p2,List.map_map];rfl
theorem zl {a:Addr} {vs:List Value} {n:Nat} {P:PySem.Fin->Shared->Prop} (ho:s.heap.get? a=some (seqObj "list" vs.toArray n)) (N9:vs.length < 1000000) {O:KeyOrd} {key:Nat->O.α}
  (hk:2<=vs.length->∀h',(∀b o,b≠a->s.heap.get? b=some o->h'.get? b=some o)->∃κ:SortKind,(∀(Q:SortKind->Shared->Prop) (E:Value->Shared->Prop),Q κ {s with heap:=h'}->wpAny (model prog w) A (keyKind' vs.toArray) Q E {s with heap:=h'})/\
   Tells O key (kas_ask prog w A κ vs) vs.length {s with heap:=h'}/\CQ vs key)
  (h:∀(p:Array Nat) (h':Heap) (e:Nat),Ord vs.length p->Up key p vs.length->(∀b o,b≠a->s.heap.get? b=some o->h'.get? b=some o)->h'.get? a=some (seqObj "list" (p.toList.map λi=>vs.getD i Value.none).toArray e)->
   P (.done (.ret .none)) {s with heap:=h'}):wpAny (model prog w) A (Builtin.«list.sort» ⟨[.ref a],[]⟩) P E s:=by
 have ha:a < s.heap.objs.size:=Qv ho;have rL:vs.length<=sizeLine:=by rw[sizeLine_eq];lia
 rw[list_sort_plain];refine Qg (listItems_at ho rfl (Qg (listUpdate_at ho rfl ?_ (by rw[Ql];exact rL) (Nat.zero_le _))));obtain⟨e1,Ab⟩:∃e1,(s.heap.update a (Obj.mapSeq λ_=>(#[]:Array Value))).get? a=some (seqObj "list" #[] e1):=⟨_,get?_update_seq ho λ_=>#[]⟩;refine Qg (seqEpoch_at Ab rfl (Qg (wpAny_newTuple ?_ rL)));refine Qg (wpAny_newList (wpAny_holding ?_) (Nat.zero_le _));show wpAny (model prog w) A _ P E {s with heap:=((s.heap.update a (Obj.mapSeq λ_=>(#[]:Array Value))).push (seqObj "tuple" vs.toArray 0)).push (seqObj "list" #[] 0)};generalize hh:((s.heap.update a (Obj.mapSeq λ_=>(#[]:Array Value))).push (seqObj "tuple" vs.toArray 0)).push (seqObj "list" #[] 0)=h1;have k1:∀b o,b≠a->s.heap.get? b=some o->h1.get? b=some o:=λb o hb e=>by rw[<-hh];exact Qi _ (Qi _ ((QN s.heap _ (Ne.symm hb)).trans e))
 have KU:h1.get? a=some (seqObj "list" #[] e1):=by rw[<-hh];exact Qi _ (Qi _ Ab)
 dsimp only;have fin:∀(ai:SortSt) (p:Array Nat),Ord vs.length p->Up key p vs.length->(arrOf ai).map (·.2)=(p.toList.map λi=>vs.getD i Value.none).toArray->failedOf ai=none->
   wpAny (model prog w) A (do
    let touched:=(<-seqEpoch a) != e1
    Builtin.List.listUpdate (.ref a) λ_=>(arrOf ai).map (·.2)
    if let some e:=failedOf ai then rule "list.sort.comparison-raised";throw e
    if touched then rule "list.sort.modified";raiseError "ValueError" "list modified during sort"
    ret .none) P E {s with heap:=h1}:=λai p hp hu DH hf=>by
  refine Qg (seqEpoch_at (s:={s with heap:=h1}) KU rfl ?_);have iy:(p.toList.map λi=>vs.getD i Value.none).toArray.size=vs.length:=by rw[Ql,Qu,QF,hp.size]
  rw[DH];refine Qg (listUpdate_at (s:={s with heap:=h1}) KU rfl ?_ (Nat.zero_le _) (by rw[iy];lia));rw[hf];simp only[bne_self_eq_false,Bool.false_eq_true,if_false];obtain⟨c2,vx⟩:∃c2,(h1.update a (Obj.mapSeq λ_=>(p.toList.map λi=>vs.getD i Value.none).toArray)).get? a=some (seqObj "list" (p.toList.map λi=>vs.getD i Value.none).toArray c2):=⟨_,get?_update_seq KU λ_=>_⟩;exact Qj (h p _ c2 hp hu (λb o hb e=>(QN h1 _ (Ne.symm hb)).trans (k1 b o hb e)) vx)
 by_cases h2:2<=vs.length
 ·have DB:¬vs.toArray.size < 2:=by rw[Ql];lia
  rw[if_neg DB,if_neg DB];obtain⟨κ,OG,T,hi⟩:=hk h2 h1 k1;refine Qg (OG _ _ ?_);refine Qg (wpAny_mono (EL (s:={s with heap:=h1}) (Q:=λai s'=>s'={s with heap:=h1}/\∃p:Array Nat,Ord vs.length p/\Up key p vs.length/\(arrOf ai).map (·.2)=(p.toList.map λi=>vs.getD i Value.none).toArray/\failedOf ai=none) T hi h2 N9
   (λp ai hp hu ho hf=>⟨rfl,p,hp,hu,ho,hf⟩)) ?_ λ_ _ e=>e)
  rintro⟨⟨⟩,ai⟩ s' ⟨rfl,p,hp,hu,DH,hf⟩;exact fin ai p hp hu DH hf
 ·have DB:vs.toArray.size < 2:=by rw[Ql];lia
  rw[if_pos DB,if_pos DB];refine Qg (Qj ?_);rw[StateT.run_pure];refine Qg (Qj ?_);refine fin (SortSt.mk' general' (vs.toArray.zip vs.toArray) #[] 7 none) (List.range vs.length).toArray (by unfold MxSort.Ord;simp) (λi j fV hj=>?_) ?_ rfl
  ·rw[show i=j by lia];exact KeyOrd.kle_refl _
  ·apply Array.toList_inj.mp;show (((vs.toArray.zip vs.toArray)).map (·.2)).toList=_
   match vs,h2 with
   | [],_=>simp
   | [v],_=>simp
   | _::_::_,h2=>exact absurd (by simp) h2
end
end Mx
end
section
namespace Mx
open PySem PySem.W PySem.Spec PyProof.Rows L2
theorem lB {ks:List Str} {us JM:List Value} (r:ax (ks.map V.str) us) (p:JM.Perm us):∃dz:List Str,dz.Perm ks/\ax (dz.map V.str) JM:=by
 have e:us=(us.map λv=>((0:Int),v)).map (·.2):=by rw[List.map_map];simp[Function.comp_def]
 have e':JM=(JM.map λv=>((0:Int),v)).map (·.2):=by rw[List.map_map];simp[Function.comp_def]
 rw[e] at r;rw[e'];exact jm (p.map _) r
theorem kP {α:Type} (es:Array α) (d:α):(List.range es.size).map (λj=>es.getD j d)=es.toList:=by
 refine List.ext_getElem (by simp) λi h1 h2=>?_
 simp at h1;simp[Array.getD,h1]
section
variable {prog:Program} {w:World} {A:Around} {E:Value->Shared->Prop} {s:Shared}
theorem BX {S:Addr} {ks:List Str} {Q:Value->Shared->Prop} (hS:cQ prog w s.heap S ks)
  (h:∀(h':Heap) (d':_) (I T:Addr) (es:Array (Int×Value)) (ep:Nat) (t:SetTable) (vs:List Value) (dz:List Str),zS w I S es ep t vs T 0 h'->I≠S->I≠T->I < h'.objs.size->S < h'.objs.size->T < h'.objs.size->s.heap.objs.size<=I->(T=S\/s.heap.objs.size<=T)->(∀b o,s.heap.get? b=some o->h'.get? b=some o)->dz.Perm ks->ax (dz.map V.str) vs->Q (.ref I) {s with heap:=h',drawn:=d'}):
  wpAny (model prog w) A (pyIter (.ref S)) Q E s:=by
 obtain⟨es,ep,t,ho,fW,hv,Cp,hb,hf,yj,gG⟩:=hS;have hT:s.TypeIs (.ref S) "set":=⟨_,ho,rfl⟩;have jz:S < s.heap.objs.size:=Qv ho;refine wpAny_pyIter_slot hT PySem.F.slot_set_iter (wpAny_call_entry PySem.F.slot_set_iter hT F.kA ?_ (PySem.F.args_set_iter_1 _));show wpAny _ _ (Builtin.Frozenset.sizeOf S >>=_) _ _ s;refine Qg ?_;unfold Builtin.Frozenset.sizeOf;refine Qg (wpAny_setEntries_of ho rfl hf (Qj ?_));refine Qg ?_;unfold setDrawn;refine Qg (wpAny_setState_of ho rfl hf ?_);dsimp only;refine Qg (dF (Qj ?_));show wpAny _ _ (if ((!xf w&&(!t.plain&&decide (es.size > 1)))=true) then _ else _) _ _ s;by_cases xX:xf w=true
 ·rw[if_neg (by rw[xX];simp)];refine Qg (Qj ?_);refine Qg (wpAny_setEpoch_of ho rfl hf ?_);show wpAny _ _ (newFields "set_iterator" [rawInt 0,rawInt 0,.ref S,rawInt es.size,rawInt ep] >>=_) _ _ s;unfold newFields;refine Qg (wpAny_newObj_type ?_);refine Qj ⟨_,rfl,"set_iterator",_,⟨_,Qs _ rfl,rfl⟩,F.az.lookup,?_⟩;obtain⟨dz,p1,p2⟩:=lB hv ((mO (w.params.setOrder S ep) es).map (·.2));have hI:Ak (s.heap.push {cls:= .type "set_iterator",data:= .fields #[rawInt 0,rawInt (0:Nat),.ref S,rawInt es.size,rawInt ep]}) s.heap.objs.size (rawInt 0) 0 S es.size ep:=Qs _ rfl;refine h _ s.drawn s.heap.objs.size S es ep t ((pickOrder (w.params.setOrder S ep) es).toList.map (·.2)) dz ⟨Qi _ ho,hf,?_,rawInt 0,hI,.inl ⟨xX,rfl,rfl⟩⟩ (Nat.ne_of_gt jz) (Nat.ne_of_gt jz) ?_ ?_ ?_ (Qq _) (.inl rfl) (λb o e=>Qi _ e) p1 p2
  ·rw[Qu,(mO _ es).length_eq,QF]
  ·rw[QP];exact Nat.lt_succ_self _
  ·rw[QP];exact Nat.lt_succ_of_lt jz
  ·rw[QP];exact Nat.lt_succ_of_lt jz
 ·have Ck:xf w=false:=by simpa using xX
  by_cases h1:1 < es.size
  ·have G1:=gG (by lia);rw[if_pos (by rw[Ck,G1,QO h1];rfl)];refine Qg (iS es.size (List.range es.size) (by simp) λπ d hπ=>?_);refine Qg (m:=newTuple _) (wpAny_newTuple ?_ (by
    rw[Qu,hπ.length_eq,List.length_range];exact fits_of_scanBound hb))
   generalize hh1:s.heap.push {cls:= .type "tuple",data:= .seq (π.map λ(i:Nat)=>rawInt (i:Int)).toArray}=gT;have k1:∀b o,s.heap.get? b=some o->gT.get? b=some o:=λb o e=>by rw[<-hh1];exact Qi _ e
   have z1:gT.objs.size=s.heap.objs.size + 1:=by rw[<-hh1,QP]
   have t1:gT.get? s.heap.objs.size=some {cls:= .type "tuple",dict:=none,data:= .seq (π.map λ(i:Nat)=>rawInt (i:Int)).toArray 0,slots:=#[]}:=by rw[<-hh1];exact Qs _ rfl
   refine Qg (wpAny_setEpoch_of (s:={s with heap:=gT,drawn:=d}) (k1 _ _ ho) rfl hf ?_);show wpAny _ _ (newFields "set_iterator" [.ref s.heap.objs.size,rawInt 0,.ref S,rawInt es.size,rawInt ep] >>=_) _ _ _;unfold newFields;refine Qg (wpAny_newObj_type ?_);refine Qj ⟨_,rfl,"set_iterator",_,⟨_,Qs _ rfl,rfl⟩,F.az.lookup,?_⟩;have hI:Ak (gT.push {cls:= .type "set_iterator",data:= .fields #[.ref s.heap.objs.size,rawInt (0:Nat),.ref S,rawInt es.size,rawInt ep]}) gT.objs.size (.ref s.heap.objs.size) 0 S es.size ep:=Qs _ rfl;have pm:(π.map λj=>(es.getD j (0,.none)).2).Perm (es.toList.map (·.2)):=by rw[<-kP es (0,.none),List.map_map];exact hπ.map _
   obtain⟨dz,p1,p2⟩:=lB hv pm;refine h _ d gT.objs.size s.heap.objs.size es ep t (π.map λj=>(es.getD j (0,.none)).2) dz ⟨Qi _ (k1 _ _ ho),hf,?_,.ref s.heap.objs.size,hI,.inr (.inr ⟨Ck,h1,rfl,π,Qi _ t1,?_,λj hj=>?_,rfl⟩)⟩ (λe=>?_) (λe=>?_) ?_ ?_ ?_ ?_ (.inr (Qq _)) (λb o e=>Qi _ (k1 b o e)) p1 p2
   ·rw[Qu,hπ.length_eq,List.length_range]
   ·rw[hπ.length_eq,List.length_range]
   ·exact Q5.mp (hπ.mem_iff.mp hj)
   ·rw[z1] at e;exact Nat.ne_of_gt (Nat.lt_succ_of_lt jz) e
   ·rw[z1] at e;exact Nat.succ_ne_self _ e
   ·rw[QP];exact Nat.lt_succ_self _
   ·rw[QP,z1];exact Nat.lt_succ_of_lt (Nat.lt_succ_of_lt jz)
   ·rw[QP,z1];exact Nat.lt_succ_of_lt (Nat.lt_succ_self _)
   ·rw[z1];exact Nat.le_succ _
  ·rw[if_neg (by rw[QK h1];simp)];refine Qg (Qj ?_);refine Qg (wpAny_setEpoch_of ho rfl hf ?_);show wpAny _ _ (newFields "set_iterator" [rawInt 0,rawInt 0,.ref S,rawInt es.size,rawInt ep] >>=_) _ _ s;unfold newFields;refine Qg (wpAny_newObj_type ?_);refine Qj ⟨_,rfl,"set_iterator",_,⟨_,Qs _ rfl,rfl⟩,F.az.lookup,?_⟩;have hI:Ak (s.heap.push {cls:= .type "set_iterator",data:= .fields #[rawInt 0,rawInt (0:Nat),.ref S,rawInt es.size,rawInt ep]}) s.heap.objs.size (rawInt (0:Nat)) 0 S es.size ep:=Qs _ rfl;refine h _ s.drawn s.heap.objs.size S es ep t (es.toList.map (·.2)) ks ⟨Qi _ ho,hf,?_,rawInt (0:Nat),hI,.inr (.inl ⟨Ck,by rw[yj,Ck];rfl,by lia,rfl,0,rfl,λ_=>rfl,λz=>by lia⟩)⟩ (Nat.ne_of_gt jz) (Nat.ne_of_gt jz) ?_ ?_ ?_ (Qq _) (.inl rfl) (λb o e=>Qi _ e) (List.Perm.refl _) hv
   ·rw[Qu,QF]
   ·rw[QP];exact Nat.lt_succ_self _
   ·rw[QP];exact Nat.lt_succ_of_lt jz
   ·rw[QP];exact Nat.lt_succ_of_lt jz
namespace F
theorem Bd:typeLookup (.type "set") "__len__"=pure (some (.builtin "set.__len__")):=by rw[typeLookup_type,builtinLookup_eq_fast];kernel_rfl
end F
theorem sU {S:Addr} {ks:List Str} {Q:List Value->Shared->Prop} (hh:A.handled=none) (hS:cQ prog w s.heap S ks)
  (hQ:∀(h':Heap) d' tk (vs:List Value) (dz:List Str),(∀b o,s.heap.get? b=some o->h'.get? b=some o)->dz.Perm ks->ax (dz.map V.str) vs->Q vs {s with heap:=h',drawn:=d',toks:=tk}):wpAny (model prog w) A (collect (.ref S)) Q E s:=by
 obtain⟨o0,OO⟩:∃o,s.heap.get? S=some o:=by obtain⟨es,ep,t,ho,_⟩:=hS;exact⟨_,ho⟩
 have jz:S < s.heap.objs.size:=Qv OO;unfold collect;refine Qg (wpAny_runValue (codeAny_builtin PySem.F.entry_proto_collect ?_));rw[Around.under_plainId PySem.F.plain_proto_collect _];show wpAny _ A.in1 (newList [] >>=λl=>again (.builtin "list.__iadd__" ⟨[l,.ref S],[]⟩)) _ _ s;refine Qg (wpAny_newObj_type ?_);refine Qj ⟨plainId_quiet PySem.F.plain_list_iadd _,codeAny_builtin PySem.F.entry_list_iadd ?_⟩;rw[Around.under_plainId PySem.F.plain_list_iadd _];generalize hh1:s.heap.push {cls:= .type "list",data:= .seq ([]:List Value).toArray}=h1;have k1:∀b o,s.heap.get? b=some o->h1.get? b=some o:=λb o e=>by rw[<-hh1];exact Qi _ e
 have z1:h1.objs.size=s.heap.objs.size + 1:=by rw[<-hh1,QP]
 have t1:h1.get? s.heap.objs.size=some (seqObj "list" #[] 0):=by rw[<-hh1];exact Qs _ rfl
 have Dx:cQ prog w h1 S ks:=hS.at λo e=>k1 _ o e
 have Jp:∀{h:Heap} {d:_},(∀b o,h1.get? b=some o->h.get? b=some o)->Shared.TypeIs {s with heap:=h,drawn:=d} (.ref S) "set":=λkk=>by obtain⟨es,ep,t,ho,_⟩:=Dx;exact⟨_,kk _ _ ho,rfl⟩
 have Jo:s.heap.objs.size≠S:=Nat.ne_of_gt jz;have Ll:Builtin.List.listSameRef (.ref s.heap.objs.size) (.ref S)=false:=by simp[Builtin.List.listSameRef,Jo]
 show wpAny _ A.in1 (Builtin.List.listExtendWith (.ref s.heap.objs.size) (.ref S) (.ref s.heap.objs.size)) _ _ _;unfold Builtin.List.listExtendWith;refine Qg (wpAny_typeOf (s:={s with heap:=h1}) (Jp (d:=s.drawn) λb o e=>e) ?_);rw[if_neg (by rw[Ll];decide)];refine Qg (BX (s:={s with heap:=h1}) Dx λh2 d2 I T es ep t vs dz st AM GA MX Jn hT2 hIn kG kk p1 p2=>?_);refine Qg (wpAny_holding ?_);unfold Builtin.List.listLengthHint;refine Qg (wpAny_specialOf (s:={s with heap:=h2,drawn:=d2}) (Jp kk) F.Bd ?_)
 (generalize K6:("set.__len__":String)=id0;(fail_if_success (clear K6 id0));wp_delta;rw[show splitId id0=some ("set","__len__") from by subst K6;decide +kernel];subst K6)
 refine Qg (wpAny_isInstance (b:=true) (Jp kk) (by rw[isSubtype_type];kernel_rfl) ?_);rw[if_neg (by simp)];refine Qg (m:=typeOf (.ref S)) (wpAny_typeOf (Jp kk) ?_);refine Qj ?_;rw[if_pos (by decide +kernel)];refine Qg (wpAny_rule (Qg ?_));unfold Builtin.List.listTouch;have t2:h2.get? s.heap.objs.size=some (seqObj "list" #[] 0):=kk _ _ t1;refine Qg (listUpdate_at (s:={s with heap:=h2,drawn:=d2}) t2 rfl ?_ (by decide) (by decide));obtain⟨e3,t3⟩:∃e,(h2.update s.heap.objs.size (Obj.mapSeq λx=>x.push .none)).get? s.heap.objs.size=some (seqObj "list" #[.none] e):=⟨_,get?_update_seq t2 λx=>x.push .none⟩;refine listUpdate_at (s:={s with heap:=h2.update s.heap.objs.size (Obj.mapSeq λx=>x.push .none),drawn:=d2}) t3 rfl ?_ (by decide) (by decide);obtain⟨e4,t4⟩:∃e,((h2.update s.heap.objs.size (Obj.mapSeq λx=>x.push .none)).update s.heap.objs.size (Obj.mapSeq λx=>x.pop)).get? s.heap.objs.size=some (seqObj "list" #[] e):=⟨_,get?_update_seq t3 λx=>x.pop⟩;generalize hh4:(h2.update s.heap.objs.size (Obj.mapSeq λx=>x.push .none)).update s.heap.objs.size (Obj.mapSeq λx=>x.pop)=h4 at t4 ⊢;have k4:∀b o,b≠s.heap.objs.size->h2.get? b=some o->h4.get? b=some o:=λb o hb e=>by rw[<-hh4];exact(QN _ _ (Ne.symm hb)).trans ((QN _ _ (Ne.symm hb)).trans e)
 have KG:I≠s.heap.objs.size:=λe=>by rw[e,z1] at hIn;exact Nat.not_succ_le_self _ hIn
 have KP:T≠s.heap.objs.size:=λe=>by
  rcases kG with q | q
  ·exact Jo (e.symm.trans q)
  ·rw[e,z1] at q;exact Nat.not_succ_le_self _ q
 have MZ:s.heap.objs.size∉[I,S,T]:=by simp only[Qx,Qy,or_false,not_or];exact⟨KG.symm,Jo,KP.symm⟩
 have Ir:zS w I S es ep t vs T 0 h4:=st.keep λb hb o e=>k4 b o (λq=>MZ (q▸hb)) e
 have O0:vs.length<=sizeLine:=by
  obtain⟨_,_,hl,_⟩:=st;obtain⟨df,Jh,t',oQ,_,_,_,jK,_⟩:=Dx;have q:es=df:=by have:=Ir.1;have q2:=k4 S _ Jo.symm (kk _ _ oQ);unfold wH at this;rw[this] at q2;cases q2;rfl
  rw[hl,q];exact fits_of_scanBound jK
 have W:=(wo (prog:=prog) (w:=w) (A:=A.in1) hh I S T AM GA es ep t vs).toS;refine Qj ⟨plainId_quiet PySem.F.plain_extend_loop _,codeAny_extend_loopS W O0 _ MZ _ vs.length 0 _ _ _ rfl (Nat.zero_le _) Ir t4 (ItemsOf.nil _) λs' dZ c' hm qN hacc=>?_⟩;show wpAny _ A (load s.heap.objs.size >>=_) _ _ s';refine Qg (wpAny_load qN (Qj ?_));obtain⟨h',g',d',My,HD⟩:=s';have eg:g'=s.gens:=hm.gens;have ed:d'=d2:=hm.drawn;have eo:HD=s.os:=hm.os;subst eg;subst ed;subst eo;have GD:dZ.toList=vs:=by
  refine List.ext_getElem (by rw[QF];exact hacc.1) λi q1 q2=>?_
  have:vs[i]?=some dZ[i]:=hacc.2 i dZ[i] (by simp);rw[QJ q2] at this;rw[Array.getElem_toList];exact(Option.some.inj this).symm
 show Q dZ.toList _;rw[GD];refine hQ h' d' My vs dz (λb o e=>?_) p1 p2;have hb:=Qv e;have xX:b≠s.heap.objs.size:=QQ hb;have Ck:b≠I:=λq=>by subst q;have:=QG hb (Qw (by rw[z1];exact Nat.le_succ _) hIn);exact Nat.lt_irrefl _ this
 exact hm.heap b o (by simp only[Qx,Qy,or_false,not_or];exact⟨xX,Ck⟩) (k4 b o xX (kk b o (k1 b o e)))
end
end Mx
end
section
namespace Mx
open PySem PySem.W PySem.Spec PyProof.Rows L2 PySem.SeqAt MxSort
inductive SK where
 | tt | ts | ti | s | i
 deriving DecidableEq
noncomputable def SK.ok:SK->D->Prop
 | .tt,d=>∃f r,d= .tup (.tup f::r)
 | .ts,d=>∃f r,d= .tup (.str f::r)
 | .ti,d=>∃f r,d= .tup (.int f::r)
 | .s,d=>∃x,d= .str x
 | .i,d=>∃x,d= .int x
noncomputable def SK.κ:SK->SortKind
 | .tt=>tuples' false
 | .ts=>tuples' true
 | .ti=>tuples' true
 | .s=>oneType'
 | .i=>oneType'
noncomputable def SK.f:SK->String
 | .tt=>"tuple"
 | .ts=>"str"
 | .s=>"str"
 | _=>"int"
section
variable {P:Program} {w:World} {H:Hp} {prog:Program} {s:Shared} {A:Around}
theorem Bb {b:Bool} {n m:Nat} {Q:Bool->Shared->Prop} {v wv:Value} {us vs:List Value} {d e:D} {ds es:List D} (z:Zp A s (v::us) (wv::vs) (d::ds) (e::es))
  (hs:b=true->∀{E:Value->Shared->Prop},wpAny (model prog w) A (oneLt' true v wv) (λr s'=>r=D.lt d e/\s'=s) E s)
  (hlen:ds.length + m=es.length + n) (q:Q (D.fw (d::ds) (e::es)) s):KatLex prog w A b (decide (n < m)) Q ((v::us).zip (wv::vs)) 0 s:=by
 cases z with
 | cons he hl z'=>
  rw[List.zip_cons_cons];rw[D.eB] at q;refine kat_cons (he prog w _ _ ?_);by_cases hde:d=e
  ·rw[(D.c7 d e).mpr hde];rw[if_pos hde] at q;exact kat_yes (Ba z' 1 (by lia) hlen q)
  ·rw[show D.gp d e=false by rw[D.ie];exact QK hde];rw[if_neg hde] at q;refine kat_no ?_;cases b with
   | false=>rw[show (false&&0==0)=false by rfl];exact kat_one v wv (hl hde prog w _ _ q)
   | true=>rw[show (true&&0==0)=true by rfl];exact wpAny_mono (hs rfl) (λr s' ⟨e1,e2⟩=>by subst e1 e2;exact q) λ_ _ x=>x
theorem nV (hok:eK P w H s.heap) {n:Nat} (hu:A.units + n < cLine) {b:Bool} {d0 e0:D} {dr er:List D} {x y:V} {u v:Value} (hd:D.dep (.tup (d0::dr))<=n + 1) (hl:D.eS (.tup (d0::dr)) (.tup (e0::er)))
  (hs:b=true->(∃p q,d0= .str p/\e0= .str q)\/∃p q,d0= .int p/\e0= .int q) (hx:DV H x (.tup (d0::dr))) (hy:DV H y (.tup (e0::er))) (rx:RelV x u) (ry:RelV y v) {Q:Bool->Shared->Prop} {E:Value->Shared->Prop}
  (q:Q (D.lt (.tup (d0::dr)) (.tup (e0::er))) s):wpAny (model prog w) A (keyLt' (tuples' b) u v) Q E s:=by
 obtain⟨a,xs,q1,e1,e2⟩:=hx.ah;subst q1;cases rx;obtain⟨b',ys,q1,f1,f2⟩:=hy.ah;subst q1;cases ry;obtain⟨its,r1,o,ho,hc,k,AU⟩:=ay hok e1;obtain⟨aM,r2,o2,oR,vx,k2,rH⟩:=ay hok f1;obtain⟨x0,xr,rfl,FD,MU⟩:=e2.cons_inv;obtain⟨y0,yr,rfl,MV,N6⟩:=f2.cons_inv;cases r1 with
 | cons r10 r1r=>
  cases r2 with
  | cons r20 r2r=>
   rename_i u0 ur v0 vr;have rG:D.bX (d0::dr)<=n:=by unfold D.dep at hd;lia
   have AW:D.gu (d0::dr) (e0::er):=by unfold D.eS at hl;exact hl
   have zz:Zp A s (u0::ur) (v0::vr) (d0::dr) (e0::er):=zR hok hu (λd e x y u v hd2 dh A4 hy2 rx2 ry2=>Bg hok n d e x y u v A hd2 hu dh A4 hy2 rx2 ry2) rG AW e2 f2 (.cons r10 r1r) (.cons r20 r2r);refine kat_lt ho AU oR rH ?_;have l1:(u0::ur).toArray.size=(d0::dr).length:=by rw[Ql,QD,QD,<-r1r.length,MU.length]
   have l2:(v0::vr).toArray.size=(e0::er).length:=by rw[Ql,QD,QD,<-r2r.length,N6.length]
   have q':Q (D.fw (d0::dr) (e0::er)) s:=by have z:=q;unfold D.lt at z;exact z
   refine Bb zz (λhb=>?_) (by rw[l1,l2];simp only[QD];lia) q';intro E';rcases hs hb with ⟨p,q2,rfl,rfl⟩ | ⟨p,q2,rfl,rfl⟩
   ·have z1:=FD.str_inv;have z2:=MV.str_inv;subst z1 z2;obtain⟨t,rfl⟩:=r10;obtain⟨t',rfl⟩:=r20;exact oneLt_str ⟨by unfold D.lt;rfl,rfl⟩
   ·have z1:=FD.int_inv;have z2:=MV.int_inv;subst z1 z2;obtain⟨t,rfl⟩:=r10;obtain⟨t',rfl⟩:=r20;exact oneLt_int ⟨by unfold D.lt;rfl,rfl⟩
theorem mH (x y:Value):keyLt' oneType' x y=oneLt' true x y:=rfl
theorem Bc (hok:eK P w H s.heap) {n:Nat} (hu:A.units + n < cLine) (k:SK) {d e:D} {x y:V} {u v:Value} (hd:D.dep d<=n + 1) (hl:D.eS d e) (fd:k.ok d) (fe:k.ok e) (hx:DV H x d) (hy:DV H y e) (rx:RelV x u) (ry:RelV y v) {Q:Bool->Shared->Prop} {E:Value->Shared->Prop}
  (q:Q (D.lt d e) s):wpAny (model prog w) A (keyLt' k.κ u v) Q E s:=by
 cases k with
 | tt=>obtain⟨f,r,rfl⟩:=fd;obtain⟨f',r',rfl⟩:=fe;exact nV (b:=false) hok hu hd hl (λz=>nomatch z) hx hy rx ry q
 | ts=>obtain⟨f,r,rfl⟩:=fd;obtain⟨f',r',rfl⟩:=fe;exact nV hok hu hd hl (λ_=> .inl ⟨_,_,rfl,rfl⟩) hx hy rx ry q
 | ti=>obtain⟨f,r,rfl⟩:=fd;obtain⟨f',r',rfl⟩:=fe;exact nV hok hu hd hl (λ_=> .inr ⟨_,_,rfl,rfl⟩) hx hy rx ry q
 | s=>obtain⟨f,rfl⟩:=fd;obtain⟨f',rfl⟩:=fe;have z1:=hx.str_inv;have z2:=hy.str_inv;subst z1 z2;obtain⟨t,rfl⟩:=rx;obtain⟨t',rfl⟩:=ry;show wpAny _ _ (keyLt' oneType' _ _) _ _ _;rw[mH];unfold D.lt at q;exact oneLt_str q
 | i=>obtain⟨f,rfl⟩:=fd;obtain⟨f',rfl⟩:=fe;have z1:=hx.int_inv;have z2:=hy.int_inv;subst z1 z2;obtain⟨t,rfl⟩:=rx;obtain⟨t',rfl⟩:=ry;show wpAny _ _ (keyLt' oneType' _ _) _ _ _;rw[mH];unfold D.lt at q;exact oneLt_int q
theorem ug (hok:eK P w H s.heap) {k:SK} (hk:k= .tt\/k= .ts\/k= .ti):∀{xs:List V} {us:List Value} {ds:List D},aY H xs ds->ax xs us->(∀d∈ds,k.ok d)->
  ∃fs,KatTups s.heap us fs/\fs.length=us.length/\∀v∈fs,Looks (model prog w) s.heap (typeOf v) (.type k.f)
 | [],us,ds,_,r,_=>by cases r;exact⟨[],KatTups.nil,rfl,λv hv=>absurd hv (by simp)⟩
 | x::xs,us,ds,h,r,hf=>by
  cases r with
  | cons r0 rr=>
   cases ds with
   | nil=>unfold aY at h;exact h.elim
   | cons d ds=>
    unfold aY at h;obtain⟨fs,t,l,lk⟩:=ug hok hk h.2 rr λd hd=>hf d (Qo _ hd)
    have sh:∃d0 dr,d= .tup (d0::dr)/\((k= .ts/\∃p,d0= .str p)\/(k= .ti/\∃p,d0= .int p)\/(k= .tt/\∃p,d0= .tup p)):=by
     have z:=hf d Qr;rcases hk with rfl | rfl | rfl
     ·obtain⟨f,r,rfl⟩:=z;exact⟨_,_,rfl,.inr (.inr ⟨rfl,_,rfl⟩)⟩
     ·obtain⟨f,r,rfl⟩:=z;exact⟨_,_,rfl,.inl ⟨rfl,_,rfl⟩⟩
     ·obtain⟨f,r,rfl⟩:=z;exact⟨_,_,rfl,.inr (.inl ⟨rfl,_,rfl⟩)⟩
    obtain⟨d0,dr,rfl,x6⟩:=sh;obtain⟨a,ys,q1,e1,e2⟩:=h.1.ah;subst q1;cases r0;obtain⟨its,r1,o,ho,hc,kk,AU⟩:=ay hok e1;obtain⟨x0,xr,rfl,FD,MU⟩:=e2.cons_inv;cases r1 with
    | cons r10 r1r=>
     rename_i u0 ur;refine⟨u0::fs,KatTups.cons ho hc AU (by simp) t,by simp[l],λv hv=>?_⟩;rcases Qx.mp hv with rfl | hv
     ·rcases x6 with ⟨hb,p,rfl⟩ | ⟨hb,p,rfl⟩ | ⟨hb,p,rfl⟩
      ·have z1:=FD.str_inv;subst z1;obtain⟨t',rfl⟩:=r10;rw[hb];exact Looks.of_pure rfl
      ·have z1:=FD.int_inv;subst z1;obtain⟨t',rfl⟩:=r10;rw[hb];exact Looks.of_pure rfl
      ·obtain⟨a2,y2,q2,g1,g2⟩:=FD.ah;subst q2;cases r10;obtain⟨aM,_,o2,oR,vx,_⟩:=ay hok g1;rw[hb];show Looks (model prog w) _ _ (Value.type "tuple");rw[<-vx];exact(Looks.ld oR).andThen .now
     ·exact lk v hv
theorem iQ:∀{xs:List V} {us:List Value} {ds:List D},aY H xs ds->ax xs us->(∀d∈ds,SK.s.ok d)->∃ss,StrsAre us ss
 | [],us,ds,_,r,_=>by cases r;exact⟨[],.nil⟩
 | x::xs,us,ds,h,r,hf=>by
  cases r with
  | cons r0 rr=>
   cases ds with
   | nil=>unfold aY at h;exact h.elim
   | cons d ds=>
    unfold aY at h;obtain⟨ss,q⟩:=iQ h.2 rr λd hd=>hf d (Qo _ hd)
    obtain⟨y,rfl⟩:=hf d Qr;have z1:=h.1.str_inv;subst z1;obtain⟨t,rfl⟩:=r0;exact⟨y::ss,.cons y t q⟩
theorem iB:∀{xs:List V} {us:List Value} {ds:List D},aY H xs ds->ax xs us->(∀d∈ds,SK.i.ok d)->∃ss,IntsAre us ss
 | [],us,ds,_,r,_=>by cases r;exact⟨[],.nil⟩
 | x::xs,us,ds,h,r,hf=>by
  cases r with
  | cons r0 rr=>
   cases ds with
   | nil=>unfold aY at h;exact h.elim
   | cons d ds=>
    unfold aY at h;obtain⟨ss,q⟩:=iB h.2 rr λd hd=>hf d (Qo _ hd)
    obtain⟨y,rfl⟩:=hf d Qr;have z1:=h.1.int_inv;subst z1;obtain⟨t,rfl⟩:=r0;exact⟨y::ss,.cons y t q⟩
theorem Hj (hok:eK P w H s.heap) (k:SK) {xs:List V} {us:List Value} {ds:List D} (hd:aY H xs ds) (r:ax xs us) (hf:∀d∈ds,k.ok d) (h2:2<=us.length) {Q:SortKind->Shared->Prop} {E:Value->Shared->Prop} (q:Q k.κ s):
  wpAny (model prog w) A (keyKind' us.toArray) Q E s:=by
 have tup:k= .tt\/k= .ts\/k= .ti->wpAny (model prog w) A (keyKind' us.toArray) Q E s:=λhk=>by obtain⟨fs,t,l,lk⟩:=ug (prog:=prog) hok hk hd r hf;refine kat_kind t (by lia) lk (by rcases hk with rfl | rfl | rfl <;> rfl) ?_;rcases hk with rfl | rfl | rfl <;> exact q
 cases k with
 | tt=>exact tup (.inl rfl)
 | ts=>exact tup (.inr (.inl rfl))
 | ti=>exact tup (.inr (.inr rfl))
 | s=>
  obtain⟨ss,hs⟩:=iQ hd r hf
  match us,h2,hs with
  | v1::v2::vs,_,hs=>rw[keyKind_strs hs];exact Qj q
 | i=>
  obtain⟨ss,hs⟩:=iB hd r hf
  match us,h2,hs with
  | v1::v2::vs,_,hs=>rw[keyKind_ints hs];exact Qj q
end
noncomputable def j8 (ds:List D):Prop:=ds.length < 1000000/\(2<=ds.length->D.bX ds<=100/\(∃k:SK,∀d∈ds,k.ok d)/\∀d∈ds,∀e∈ds,D.eS d e)
section
variable {X:Cx} {pins:List (Addr×Obj)} {σ:L2.St} {H:Hp}
theorem mS {s:Shared} {A:Around} {Q:PySem.Fin->Shared->Prop} {E:Value->Shared->Prop} (hu:A.units + 148 < cLine) (I:Inv X pins σ H s) {ys:List V} {its:List Value} {ds:List D} (rv:ax ys its) (oP:aY H ys ds) (hc:j8 ds)
  (q:∀(l:Addr) (zs:List V) (es:List D) (s':Shared),H l=none->aY H zs es->gX ds es->Inv X pins σ (upd H l (.lst zs)) s'->Q (.done (.ret (.ref l))) s'):
  wpAny (model X.prog X.w) A (do let l<-newList its;let _<-holding [l] (call (.builtin "list.sort") [l] []);ret l) Q E s:=by
 obtain⟨hlen,hc⟩:=hc;have hl:=rv.length;have dh:=oP.length;have rL:its.length<=sizeLine:=by rw[sizeLine_eq];lia
 refine Qg (wpAny_newList ?_ (by simpa using rL));have Ju:(s.heap.push (seqObj "list" its.toArray 0)).get? s.heap.objs.size=some (seqObj "list" its.toArray 0):=Qs _ rfl;show wpAny _ _ _ _ _ {s with heap:=s.heap.push (seqObj "list" its.toArray 0)};have ne:∀b o,s.heap.get? b=some o->b≠s.heap.objs.size:=λb o e=>QQ (Qv e)
 refine Qg (wpAny_holding (wpAny_call_entry slot_list_sort (s:={s with heap:=s.heap.push (seqObj "list" its.toArray 0)}) ⟨_,Ju,rfl⟩ entry_list_sort
  (zl (s:={s with heap:=s.heap.push (seqObj "list" its.toArray 0)}) (O:=Gi) (key:=λi=>ds.getD i (.int 0)) Ju (by lia) (λh2 h' kk=>?_) λp h' e hp hup kk hD=>?_) (args_list_sort _)))
 ·obtain⟨Ov,⟨k,hf⟩,vD⟩:=hc (by lia);have AY:eK X.prog X.w H h':=I.hok.kept λb o e=>kk b o (ne b o e) (Qi _ e)
  refine⟨k.κ,λQ' E' q'=>Hj (s:={s with heap:=h'}) AY k oP rv hf (by lia) q',λi j hi hj C hC=>?_,λi j hi hj eij=>?_⟩
  ·obtain⟨di,Gn,Jf⟩:=oP.get (i:=i) (x:=ys[i]'(by lia)) (by simp);obtain⟨dj,Jg,Kp⟩:=oP.get (i:=j) (x:=ys[j]'(by lia)) (by simp);obtain⟨ui,Lq,Ma⟩:=rv.get (i:=i) (x:=ys[i]'(by lia)) (by simp);obtain⟨uj,Lr,Mb⟩:=rv.get (i:=j) (x:=ys[j]'(by lia)) (by simp);unfold kas_ask;rw[show its.getD i Value.none=ui by simp[Lq],show its.getD j Value.none=uj by simp[Lr]];have ki:ds.getD i (.int 0)=di:=by simp[Gn]
   have kj:ds.getD j (.int 0)=dj:=by simp[Jg]
   have mi:di∈ds:=List.mem_of_getElem? Gn;have mj:dj∈ds:=List.mem_of_getElem? Jg;refine Bc (s:={s with heap:=h'}) AY (n:=100) (by show A.units + 1 + 100 < cLine;lia) k (Qw (nF Gn) (by lia)) (vD di mi dj mj) (hf di mi) (hf dj mj) Jf Kp Ma Mb ?_;have MW:C (D.lt (ds.getD i (.int 0)) (ds.getD j (.int 0))) {s with heap:=h'}:=hC;rw[ki,kj] at MW;exact MW
  ·obtain⟨di,Gn,Jf⟩:=oP.get (i:=i) (x:=ys[i]'(by lia)) (by simp);obtain⟨dj,Jg,Kp⟩:=oP.get (i:=j) (x:=ys[j]'(by lia)) (by simp);obtain⟨ui,Lq,Ma⟩:=rv.get (i:=i) (x:=ys[i]'(by lia)) (by simp);obtain⟨uj,Lr,Mb⟩:=rv.get (i:=j) (x:=ys[j]'(by lia)) (by simp);rw[show its.getD i Value.none=ui by simp[Lq],show its.getD j Value.none=uj by simp[Lr]] at eij;subst eij;have ki:ds.getD i (.int 0)=di:=by simp[Gn]
   have kj:ds.getD j (.int 0)=dj:=by simp[Jg]
   show ds.getD i (.int 0)=ds.getD j (.int 0);rw[ki,kj];rw[Ma.inj Mb] at Jf;exact Jf.inj Kp
 ·refine⟨_,rfl,Qj ?_⟩;have kI:p.toList.Perm (List.range its.length):=hp;have FH:∀i∈p.toList,i < ys.length:=λi hi=>by
   have:=Q5.mp (kI.mem_iff.mp hi)
   lia
  have new:bV X.prog X.w (upd H s.heap.objs.size (.lst (p.toList.map λi=>ys.getD i .bq))) h' s.heap.objs.size (.lst (p.toList.map λi=>ys.getD i .bq)):=
   ⟨by rw[Qu,kI.length_eq,List.length_range];rw[sizeLine_eq];lia,_,e,qF rv FH,hD⟩
  have I2:=I.laid (t':=s.toks) (a:=s.heap.objs.size) (λb o q=>kk b o (ne b o q) (Qi _ q)) (Qq _) new;refine q _ _ (p.toList.map λi=>ds.getD i (.int 0)) _ (I.hok.fresh (Qq _)) (oP.map FH) ⟨?_,?_⟩ I2
  ·have e1:=kI.map (λi=>ds.getD i (.int 0));rw[show its.length=ds.length by lia] at e1;rw[kQ] at e1;exact e1
  ·have Ls:∀i j,i<=j->j < its.length->D.lt (ds.getD (p.getD j 0) (.int 0)) (ds.getD (p.getD i 0) (.int 0))=false:=hup;have iy:p.toList.length=its.length:=by rw[kI.length_eq,List.length_range]
   rw[List.pairwise_map,List.pairwise_iff_getElem];intro i j hi hj fV;have:=Ls i j (by lia) (by lia);rw[show p.getD i 0=p.toList[i] by simp at hi;simp[Array.getD,hi],show p.getD j 0=p.toList[j] by simp at hj;simp[Array.getD,hj]] at this;exact this
end
noncomputable def EI (K:PySem.W.Frag):List V->Hp->VK->Prop:=λxs H Q=>∃a ys ds,xs=[.ref a]/\(dY K H a ys\/eL K H a ys)/\aY H ys ds/\j8 ds/\∀l zs es,H l=none->aY H zs es->gX ds es->Q (.ref l) (upd H l (.lst zs))
theorem nv {X:Cx} (hu:X.A.units + 150 < cLine):gi X (.builtin "sorted") (EI X.K):=by
 intro pins s σ H xs us Q I r h;obtain⟨a,ys,ds,rfl,hq,oP,hc,q⟩:=h;obtain⟨u,rfl,ru⟩:=r.one;cases ru;have sh:∃(its:List Value) (T:String) (o:Obj) (n:Nat),ax ys its/\(T="list"\/T="tuple")/\s.heap.get? a=some o/\o.cls= .type T/\o.data= .seq its.toArray n:=by
  rcases hq with hq | hq
  ·obtain⟨its,rv,⟨o,n,ho,hc,_,hd⟩,_⟩:=I.list hq;exact⟨its,"list",o,n,rv,.inl rfl,ho,hc,hd⟩
  ·obtain⟨its,rv,⟨o,ho,hc,n,hd⟩,_⟩:=I.tuple hq;exact⟨its,"tuple",o,n,rv,.inr rfl,ho,hc,hd⟩
 obtain⟨its,T,o,n,rv,hT,ho,vy,hd⟩:=sh;have rL:its.length<=sizeLine:=by rw[sizeLine_eq,<-rv.length,oP.length];have:=hc.1;lia
 refine Calls.call_function_entry kind_sorted plain_sorted entry_sorted (args_sorted1 _) ?_;unfold Builtin.«sorted»;refine Qg (m:=checkCount "sorted" 1 1 _) (Qj (Qg (wpAny_collect_seq a hT ho vy hd (λh1 k1=>?_) (by rw[Ql];exact rL))));have I1:Inv X pins σ H {s with heap:=h1}:=I.kept (t':=s.toks) k1;exact mS (A:=X.A.in1) (by show X.A.units + 1 + 148 < cLine;lia) I1 rv oP hc λl zs es s' hl hz hso I2=>⟨_,rfl,.ref l,_,I2,rfl,q l zs es hl hz hso⟩
theorem pB {H:Hp}:∀ks:List Str,aY H (ks.map V.str) (ks.map D.str)
 | []=>aY.nil
 | k::ks=>aY.cons DV.str (pB ks)
theorem mv:∀ks:List Str,D.bX (ks.map D.str)<=0
 | []=>by show D.bX []<=0;unfold D.bX;exact Qq _
 | k::ks=>by
  have:=mv ks;show D.bX (D.str k::ks.map D.str)<=0;unfold D.bX;have e:D.dep (D.str k)=0:=by unfold D.dep;rfl
  lia
theorem sM {X:Cx} (hu:X.A.units + 150 < cLine) (hc:X.calm=true) {pins:List (Addr×Obj)} {s:Shared} {σ:L2.St} {H:Hp} {S:Addr} {ks:List Str} {Q:VK} (I:Inv X pins σ H s) (hS:cQ X.prog X.w s.heap S ks) (hlen:ks.length < 1000000)
  (q:∀l zs es,H l=none->aY H zs es->gX (ks.map D.str) es->Q (.ref l) (upd H l (.lst zs))):wpAny (model X.prog X.w) X.A (call (.builtin "sorted") [.ref S]) (EP X pins σ Q) X.xe s:=by
 refine Calls.call_function_entry kind_sorted plain_sorted entry_sorted (args_sorted1 _) ?_;unfold Builtin.«sorted»;refine Qg (m:=checkCount "sorted" 1 1 _) (Qj (Qg (sU (I.ok.hd hc) hS λh' d' tk vs dz kk p1 p2=>?_)));have I1:Inv X pins σ H {s with heap:=h',drawn:=d',toks:=tk}:=by
  refine I.step (g':=s.gens) (ch:=[]) (λb hb=>by cases hb) (λb o _ _ _ e _=>kk b o e) (λb o _ _ _ e _=>⟨o.slots,kk b o e⟩)
   (λb o _ e n=>n) (λb o _ e=>⟨o,kk b o e⟩) (λb zs e=>e) (λb o u e=>e) (λb ps e=>⟨#[],by rw[e];simp⟩) (λm hm=>?_) (λb u q=>?_) I.bare
  ·obtain⟨o,df,ep,ho,rr⟩:=hm;exact⟨o,df,ep,kk _ o ho,rr⟩
  ·exact(I.hok b u q).ji (λc v _ z=>kk c v z) (λc z=>z) λc zs z=>z
 have oP:aY H (dz.map V.str) (dz.map D.str):=pB dz;refine mS (A:=X.A.in1) (by show X.A.units + 1 + 148 < cLine;lia) I1 p2 oP ⟨by rw[Qu,p1.length_eq];exact hlen,λ_=>⟨?_,⟨.s,λd hd=>?_⟩,λd hd e he=>?_⟩⟩ λl zs es s' hl hz hso I2=>⟨_,rfl,.ref l,_,I2,rfl,q l zs es hl hz ⟨hso.1.trans (p1.map _),hso.2⟩⟩
 ·exact Qw (mv dz) (Nat.zero_le _)
 ·obtain⟨x,_,rfl⟩:=QU.mp hd;exact⟨x,rfl⟩
 ·obtain⟨x,_,rfl⟩:=QU.mp hd;obtain⟨y,_,rfl⟩:=QU.mp he;unfold D.eS;trivial
end Mx
end
section
namespace Mx
open PySem PySem.W PySem.Spec PyProof.Rows L2
noncomputable abbrev qP (h:Heap) (z TI TO p:Addr) (b:Bool):Prop:=
 h.get? z=some {cls:= .type "zip",dict:=none,data:= .fields #[rawInt p,.bool b,.bool false,.ref TI,.ref TO],slots:=#[]}
section
variable {prog:Program} {w:World} {A:Around} {E:Value->Shared->Prop} {s:Shared}
theorem zG {M:Model} {a:Addr} {r:Option Obj} {Q:Option Obj->Shared->Prop} (h:s.heap.get? a=r) (q:Q r s):wpAny M A (loadIfAlive a) Q E s:=λΓ p _=>by show Sem.wp M Γ (.loadIfAlive a .pure) _ _ p s;rw[Sem.wp_loadIfAlive,h];exact q
theorem p7 {z TI TO p:Addr} {fb:Bool} {o:Obj} {Q:Bool->Shared->Prop} (hz:qP s.heap z TI TO p fb) (hp:s.heap.get? p=some o) (h:∀h',qP h' z TI TO p true->Heap.SameBut z s.heap h'->Q false {s with heap:=h'}):
  wpAny (model prog w) A (Builtin.SmallTypes.ownedTupleIsFree (.ref z)) Q E s:=by
 unfold Builtin.SmallTypes.ownedTupleIsFree;refine Qg (wpAny_field hz rfl (x:=rawInt p) rfl ?_);show wpAny _ _ (loadIfAlive ((p:Nat):Int).toNat >>=_) _ _ s;rw[Int.toNat_natCast];refine Qg (zG (r:=some o) hp ?_);show wpAny _ _ (if false=true then _ else _) _ _ s;rw[if_neg (by simp)];refine Qg (wpAny_field hz rfl (x:= .bool fb) rfl ?_);cases fb with
 | false=>show wpAny _ _ (setField (.ref z) 1 (.bool true) >>=_) _ _ s;exact Qg (QS hz (by simp) λh' z' e'=>Qj (h h' z' e'))
 | true=>
  show wpAny _ _ (pure false) _ _ s;have e:s={s with heap:=s.heap}:=by cases s;rfl
  rw[e];exact Qj (h s.heap hz (Heap.SameBut.refl z s.heap))
theorem wq {b1 b2:Bool} {z TI TO i1 i2 l1 l2 p:Addr} {k1 k2:Nat} {xs ys:Array Value} {x y:Value} {fb:Bool} {o:Obj} {Q:Option Value->Shared->Prop} (D:g0 z TI TO i1 i2) (O1:bP z TO i1 i2 l1) (O2:bP z TO i1 i2 l2)
  (hz:qP s.heap z TI TO p fb) (hp:s.heap.get? p=some o) (Dy:IsPair s.heap TI (.ref i1) (.ref i2)) (h1:a8 b1 s.heap i1 l1 k1) (h2:a8 b2 s.heap i2 l2 k2) (cP:cu b1 s.heap l1 xs) (dh:cu b2 s.heap l2 ys) (hx:xs[k1]?=some x) (hy:ys[k2]?=some y)
  (hQ:∀h',qP h' z TI TO p true->a8 b1 h' i1 l1 (k1 + 1)->a8 b2 h' i2 l2 (k2 + 1)->IsPair h' s.heap.objs.size x y->
   (∀c o,c≠z->c≠i1->c≠i2->s.heap.get? c=some o->h'.get? c=some o)->Q (some (.ref s.heap.objs.size)) {s with heap:=h'}):wpAny (model prog w) A (pyNext (.ref z)) Q E s:=by
 have hT:s.TypeIs (.ref z) "zip":=⟨_,hz,rfl⟩;unfold pyNext;refine Qg (wpAny_attempt (wpAny_callSpecial?_slot (name:=Str.ofString "__next__") hT F.slot_zip_next (wpAny_call_entry F.slot_zip_next hT F.entry_zip_next ?_ (F.args_zip_next_1 _))));refine(show wpAny _ _ (field (.ref z) 2 >>=_) _ _ _ from Qg (wpAny_field hz rfl (x:= .bool false) rfl (show wpAny _ _ (field (.ref z) 3 >>=_) _ _ _ from Qg (wpAny_field hz rfl (x:= .ref TI) rfl (Qg (wpAny_seqItems Dy rfl (show wpAny _ _ (Builtin.SmallTypes.ownedTupleIsFree (.ref z) >>=_) _ _ _ from Qg ?_)))))));refine p7 hz hp λg1 z1 e1=>?_
 rw[if_neg (by simp)];dsimp only;rw[<-Array.forIn_toList];simp only[List.forIn_cons,List.forIn_nil];refine Qg (Qg (Qg (wpAny_holding (show wpAny _ _ (Builtin.SmallTypes.nextOf (.ref i1) >>=_) _ _ _ from Qg (ck (h1.at λo q=>e1.extBut _ o D.i1z q) (cP.at λo q=>e1.extBut _ o O1.z q) hx λg2 j1 e2=>Qj ?_)))));refine Qj ?_;refine Qg (Qg (wpAny_holding (show wpAny _ _ (Builtin.SmallTypes.nextOf (.ref i2) >>=_) _ _ _ from Qg (ck (h2.at λo q=>e2.extBut _ o D.i12.symm (e1.extBut _ o D.i2z q)) (dh.at λo q=>e2.extBut _ o O2.a (e1.extBut _ o O2.z q)) hy λg3 j2 e3=>Qj ?_))));refine Qj (Qj ?_);have sz:g3.objs.size=s.heap.objs.size:=by rw[e3.1,e2.1,e1.1]
 have z3:qP g3 z TI TO p true:=e3.extBut _ _ D.i2z.symm (e2.extBut _ _ D.i1z.symm z1);have old:∀c o,c≠z->c≠i1->c≠i2->s.heap.get? c=some o->g3.get? c=some o:=λc o c1 c3 c4 q=>e3.extBut _ _ c4 (e2.extBut _ _ c3 (e1.extBut _ _ c1 q))
 show wpAny _ _ (newTuple [x,y] >>=_) _ _ _;refine Qg (wpAny_newTuple ?_);refine Qj ⟨_,rfl,Qj ?_⟩;show Q (some (.ref g3.objs.size)) {s with heap:=g3.push {cls:= .type "tuple",data:= .seq #[x,y]}};rw[sz];refine hQ _ (Qi _ z3) (j1.at λo q=>Qi _ (e3.extBut _ o D.i12 q)) (j2.at λo q=>Qi _ q) ?_ λc o c1 c2 c3 q=>Qi _ (old c o c1 c2 c3 q)
 have:=Qs g3 (o:={cls:= .type "tuple",data:= .seq #[x,y]}) rfl;rw[sz] at this;exact this
theorem zO {b1 b2:Bool} {z TI TO i1 i2 l1 l2 p:Addr} {k1 k2:Nat} {xs ys:Array Value} {fb:Bool} {o:Obj} {Q:Option Value->Shared->Prop} (hh:A.handled=none) (D:g0 z TI TO i1 i2) (O1:bP z TO i1 i2 l1) (O2:bP z TO i1 i2 l2)
  (hz:qP s.heap z TI TO p fb) (hp:s.heap.get? p=some o) (Dy:IsPair s.heap TI (.ref i1) (.ref i2)) (h1:a8 b1 s.heap i1 l1 k1) (h2:a8 b2 s.heap i2 l2 k2) (cP:cu b1 s.heap l1 xs) (dh:cu b2 s.heap l2 ys) (pK:xs[k1]?=none\/ys[k2]?=none)
  (hQ:∀h',(∀c o,c≠z->c≠i1->c≠i2->s.heap.get? c=some o->h'.get? c=some o)->Q none {s with heap:=h'}):wpAny (model prog w) A (pyNext (.ref z)) Q E s:=by
 have hT:s.TypeIs (.ref z) "zip":=⟨_,hz,rfl⟩;have stop:∀(h':Heap) (e:Addr),(∀c o,c≠z->c≠i1->c≠i2->s.heap.get? c=some o->h'.get? c=some o)->(∃o,h'.get? e=some o/\o.cls= .type "StopIteration")->wpAny (model prog w) A (isInstance (.ref e) (.type "StopIteration")) (λr s'=>r=true/\Q none s') E {s with heap:=h'}:=λh' e kk he=>by obtain⟨o,ho,hc⟩:=he;exact wpAny_isInstance (T:="StopIteration") (b:=true) ⟨o,ho,hc⟩ isSubtype_stop ⟨rfl,hQ _ kk⟩
 unfold pyNext;refine Qg (wpAny_attempt (wpAny_callSpecial?_slot (name:=Str.ofString "__next__") hT F.slot_zip_next (wpAny_call_entry F.slot_zip_next hT F.entry_zip_next ?_ (F.args_zip_next_1 _))));refine(show wpAny _ _ (field (.ref z) 2 >>=_) _ _ _ from Qg (wpAny_field hz rfl (x:= .bool false) rfl (show wpAny _ _ (field (.ref z) 3 >>=_) _ _ _ from Qg (wpAny_field hz rfl (x:= .ref TI) rfl (Qg (wpAny_seqItems Dy rfl (show wpAny _ _ (Builtin.SmallTypes.ownedTupleIsFree (.ref z) >>=_) _ _ _ from Qg ?_)))))));refine p7 hz hp λg1 z1 e1=>?_
 rw[if_neg (by simp)];dsimp only;rw[<-Array.forIn_toList];simp only[List.forIn_cons,List.forIn_nil];cases hx:xs[k1]? with
 | none=>refine Qg (Qg (Qg (wpAny_holding (show wpAny _ _ (Builtin.SmallTypes.nextOf (.ref i1) >>=_) _ _ _ from Qg (ez hh (h1.at λo q=>e1.extBut _ o D.i1z q) (cP.at λo q=>e1.extBut _ o O1.z q) hx λg2 e e2 he=>?_)))));refine Qg (wpAny_mono (stop g2 e (λc o c1 c3 _ x=>e2 _ _ c3 (e1.extBut _ _ c1 x)) he) (λr s' q=>?_) λ_ _ q=>q);obtain⟨rfl,q⟩:=q;exact Qj q
 | some x=>
  have hy:ys[k2]?=none:=by rcases pK with h | h;rw[hx] at h;cases h;exact h
  refine Qg (Qg (Qg (wpAny_holding (show wpAny _ _ (Builtin.SmallTypes.nextOf (.ref i1) >>=_) _ _ _ from Qg (ck (h1.at λo q=>e1.extBut _ o D.i1z q) (cP.at λo q=>e1.extBut _ o O1.z q) hx λg2 j1 e2=>Qj ?_)))));refine Qj ?_;refine Qg (Qg (wpAny_holding (show wpAny _ _ (Builtin.SmallTypes.nextOf (.ref i2) >>=_) _ _ _ from Qg (ez hh (h2.at λo q=>e2.extBut _ o D.i12.symm (e1.extBut _ o D.i2z q)) (dh.at λo q=>e2.extBut _ o O2.a (e1.extBut _ o O2.z q)) hy λg3 e e3 he=>?_))));refine Qg (wpAny_mono (stop g3 e (λc o c1 c3 c4 x=>e3 _ _ c4 (e2.extBut _ _ c3 (e1.extBut _ _ c1 x))) he) (λr s' q=>?_) λ_ _ q=>q);obtain⟨rfl,q⟩:=q;exact Qj q
end
noncomputable def Fy (b1 b2:Bool) (S z TI TO i1 i2 l1 l2:Addr) (i:Nat) (h:Heap):Prop:=
 IsPair h TI (.ref i1) (.ref i2)/\a8 b1 h i1 l1 i/\a8 b2 h i2 l2 i/\
 ((IsZip h z TI TO .none/\∃a b,IsPair h TO a b)\/∃p fb o,qP h z TI TO p fb/\h.get? p=some o/\p∉[z,TO,i1,i2,S]/\∃oT,h.get? TO=some oT)
theorem Fy.keep {b1 b2:Bool} {S z TI TO i1 i2 l1 l2:Addr} {i:Nat} {h h':Heap} (st:Fy b1 b2 S z TI TO i1 i2 l1 l2 i h) (hS:S∉[z,TI,TO,i1,i2]) (kk:∀b o,b≠S->h.get? b=some o->h'.get? b=some o):Fy b1 b2 S z TI TO i1 i2 l1 l2 i h':=by
 simp only[Qx,Qy,or_false,not_or] at hS;obtain⟨n1,n2,n3,n4,n5⟩:=hS;obtain⟨s1,s2,s3,s4⟩:=st;refine⟨kk _ _ (Ne.symm n2) s1,s2.at λo e=>kk _ o (Ne.symm n4) e,s3.at λo e=>kk _ o (Ne.symm n5) e,?_⟩;rcases s4 with ⟨z1,a,b,t1⟩ | ⟨p,fb,o,z1,p1,p2,oT,G0⟩
 ·exact .inl ⟨kk _ _ (Ne.symm n1) z1,a,b,kk _ _ (Ne.symm n3) t1⟩
 ·refine .inr ⟨p,fb,o,kk _ _ (Ne.symm n1) z1,kk _ _ (λe=>p2 (by simp[e])) p1,p2,oT,kk _ _ (Ne.symm n3) G0⟩
section
variable {prog:Program} {w:World} {A:Around} {E:Value->Shared->Prop} {s:Shared}
theorem B2 {b1 b2:Bool} {S z TI TO i1 i2 l1 l2:Addr} {i:Nat} {xs ys:Array Value} {x y:Value} {Q:Option Value->Shared->Prop} (D:g0 z TI TO i1 i2) (O1:bP z TO i1 i2 l1) (O2:bP z TO i1 i2 l2) (hS:∃o,s.heap.get? S=some o)
  (st:Fy b1 b2 S z TI TO i1 i2 l1 l2 i s.heap) (cP:cu b1 s.heap l1 xs) (dh:cu b2 s.heap l2 ys) (hx:xs[i]?=some x) (hy:ys[i]?=some y)
  (hQ:∀h',Fy b1 b2 S z TI TO i1 i2 l1 l2 (i + 1) h'->IsPair h' s.heap.objs.size x y->(∀c o,c∉[z,TO,i1,i2]->s.heap.get? c=some o->h'.get? c=some o)->Q (some (.ref s.heap.objs.size)) {s with heap:=h'}):wpAny (model prog w) A (pyNext (.ref z)) Q E s:=by
 obtain⟨s1,s2,s3,s4⟩:=st;have nw:∀{b:Addr} {o:Obj},s.heap.get? b=some o->s.heap.objs.size≠b:=λe q=>Nat.lt_irrefl _ (q▸Qv e)
 obtain⟨oS,hS⟩:=hS;obtain⟨o1,Ab,_⟩:=s2.obj;obtain⟨o2,oR,_⟩:=s3.obj;rcases s4 with ⟨z1,a,b,t1⟩ | ⟨p,fb,o,z1,p1,p2,oT,G0⟩
 ·refine mZ D O1 O2 z1 s1 t1 s2 s3 cP dh hx hy λh' a1 a2 a3 a4 a5 a6=>hQ h' ⟨a6 _ _ D.TIz D.TITO D.TIi1 D.TIi2 s1,a3,a4,.inr ⟨s.heap.objs.size,false,_,a1,a5,?_,_,a2⟩⟩ a5 λc o hc e=>?_
  ·simp only[Qx,Qy,or_false,not_or];exact⟨nw z1,nw t1,nw Ab,nw oR,nw hS⟩
  ·simp only[Qx,Qy,or_false,not_or] at hc;exact a6 c o hc.1 hc.2.1 hc.2.2.1 hc.2.2.2 e
 ·refine wq D O1 O2 z1 p1 s1 s2 s3 cP dh hx hy λh' a1 a3 a4 a5 a6=>hQ h' ⟨a6 _ _ D.TIz D.TIi1 D.TIi2 s1,a3,a4,.inr ⟨p,true,o,a1,?_,p2,oT,a6 _ _ D.TOz D.TOi1 D.TOi2 G0⟩⟩ a5 λc o hc e=>?_
  ·simp only[Qx,Qy,or_false,not_or] at p2;exact a6 p o p2.1 p2.2.2.1 p2.2.2.2.1 p1
  ·simp only[Qx,Qy,or_false,not_or] at hc;exact a6 c o hc.1 hc.2.2.1 hc.2.2.2 e
theorem Fz {b1 b2:Bool} {S z TI TO i1 i2 l1 l2:Addr} {i:Nat} {xs ys:Array Value} {Q:Option Value->Shared->Prop} (hh:A.handled=none) (D:g0 z TI TO i1 i2) (O1:bP z TO i1 i2 l1) (O2:bP z TO i1 i2 l2)
  (st:Fy b1 b2 S z TI TO i1 i2 l1 l2 i s.heap) (cP:cu b1 s.heap l1 xs) (dh:cu b2 s.heap l2 ys) (pK:xs[i]?=none\/ys[i]?=none)
  (hQ:∀h',(∀c o,c∉[z,TO,i1,i2]->s.heap.get? c=some o->h'.get? c=some o)->Q none {s with heap:=h'}):wpAny (model prog w) A (pyNext (.ref z)) Q E s:=by
 obtain⟨s1,s2,s3,s4⟩:=st;rcases s4 with ⟨z1,a,b,t1⟩ | ⟨p,fb,o,z1,p1,p2,_⟩
 ·refine qK hh D O1 O2 z1 s1 t1 s2 s3 cP dh pK λh' a6=>hQ h' λc o hc e=>?_
  simp only[Qx,Qy,or_false,not_or] at hc;exact a6 c o hc.1 hc.2.1 hc.2.2.1 hc.2.2.2 e
 ·refine zO hh D O1 O2 z1 p1 s1 s2 s3 cP dh pK λh' a6=>hQ h' λc o hc e=>?_
  simp only[Qx,Qy,or_false,not_or] at hc;exact a6 c o hc.1 hc.2.2.1 hc.2.2.2 e
end
section
variable {X:Cx} {pins:List (Addr×Obj)} {σ:L2.St} {b1 b2:Bool} {S z TI TO i1 i2 l1 l2:Addr} {xs ys:List V} {H0:Hp}
noncomputable def Zd (xs ys:List V) (H:Hp) (ps:List Addr):Prop:=∀(j:Nat) (x y:V) (p:Addr),xs[j]?=some x->ys[j]?=some y->ps[j]?=some p->H p=some (.tup [x,y])
theorem zQ {A:Around} {R:Result->Shared->Prop} {res:Value} (hh:A.in1.handled=none) (ap:g0 z TI TO i1 i2) (Ci:S∉[z,TI,TO,i1,i2]) (cW:xs.length<=sizeLine) (Om:H0 S=none) (cP:H0 l1=some (iw b1 xs)) (dh:H0 l2=some (iw b2 ys)):
  ∀(k i:Nat) (s:Shared) (H:Hp) (ps:List Addr),min xs.length ys.length - i=k->i<=min xs.length ys.length->Inv X pins σ H s->(∀b∈[z,TI,TO,i1,i2],f7 X pins H b)->Fy b1 b2 S z TI TO i1 i2 l1 l2 i s.heap->
   H S=some (.lst (ps.map V.ref))->ps.length=i->Zd xs ys H ps->bE H0 H->
   (∀s' H' FN,Inv X pins σ H' s'->H' S=some (.lst (FN.map V.ref))->FN.length=min xs.length ys.length->Zd xs ys H' FN->bE H0 H'->R (.ok (.ret res)) s')->
   codeAny (model X.prog X.w) A (.builtin "list.extend.loop" ⟨[.ref S,.ref z,res],[]⟩) R s:=by
 intro k
 induction k with
 | zero=>
  intro i s H ps hk hi I hf st hS yq hz t7 hR;have e1:=t7 _ _ cP;have e2:=t7 _ _ dh;obtain⟨cY,r1,p1⟩:=bp I e1;obtain⟨aM,r2,p2⟩:=bp I e2;have ne:∀{l:Addr} {o:HO},H l=some o->∀b∈[z,TI,TO,i1,i2],l≠b:=λ {l o} hl b hb e=>by subst e;rw[(hf l hb).1] at hl;cases hl
  have off:∀{l:Addr} {o:HO},H l=some o->bP z TO i1 i2 l:=λ {l o} hl=>⟨ne hl z (by simp),ne hl TO (by simp),ne hl i1 (by simp),ne hl i2 (by simp)⟩
  have q1:=r1.length;have q2:=r2.length;refine codeAny_builtin PySem.F.entry_extend_loop ?_;rw[Around.under_plainId PySem.F.plain_extend_loop _];show wpAny _ A.in1 (pyNext (.ref z) >>=_) _ _ s;refine Qg (Fz hh ap (off e1) (off e2) st p1 p2 (by simp;lia) λh' kk=>?_);refine Qj (hR _ H ps ?_ hS (by lia) hz t7);have oW:∀b u,H b=some u->b∉[z,TI,TO,i1,i2]:=λb u e hb=>by rw[(hf b hb).1] at e;cases e
  have jO:∀b o,b∉[z,TI,TO,i1,i2]->s.heap.get? b=some o->h'.get? b=some o:=λb o hb e=>by simp only[Qx,Qy,or_false,not_or] at hb;exact kk b o (by simp only[Qx,Qy,or_false,not_or];exact⟨hb.1,hb.2.2.1,hb.2.2.2.1,hb.2.2.2.2⟩) e
  refine I.step (g':=s.gens) (d':=s.drawn) (t':=s.toks) (h':=h') (ch:=[z,TI,TO,i1,i2]) (λb hb=>⟨(hf b hb).2.2.2.1,(hf b hb).2.1,(hf b hb).2.2.2.2.1,(hf b hb).2.2.2.2.2⟩) (λb o _ _ hb e _=>jO b o hb e) (λb o _ _ hb e _=>⟨o.slots,jO b o hb e⟩)
   (λb o hb e n=>n) (λb o hb e=>⟨o,jO b o hb e⟩) (λb zs e=>e) (λb o u e=>e) (λb ps e=>⟨#[],by rw[e];simp⟩) (λm hm=>?_) (λb u e=>?_) I.bare
  ·obtain⟨o,df,ep,ho,rr⟩:=hm;exact⟨o,df,ep,jO _ o (λhb=>(hf _ hb).2.1 rfl) ho,rr⟩
  ·refine(I.hok b u e).ji (λc v hc q=>jO c v ?_ q) (λc q=>q) λc zs q=>q
   rcases hc with rfl | hc
   ·exact oW c u e
   ·exact oW c _ hc
 | succ k ih=>
  intro i s H ps hk hi I hf st hS yq hz t7 hR;have e1:=t7 _ _ cP;have e2:=t7 _ _ dh;obtain⟨cY,r1,p1⟩:=bp I e1;obtain⟨aM,r2,p2⟩:=bp I e2;have La:i < xs.length:=by lia
  have Lb:i < ys.length:=by lia
  obtain⟨x,hx⟩:∃x,xs[i]?=some x:=⟨xs[i],by simp[La]⟩;obtain⟨y,hy⟩:∃y,ys[i]?=some y:=⟨ys[i],by simp[Lb]⟩;obtain⟨u1,ua,HR⟩:=r1.get hx;obtain⟨u2,Lp,L9⟩:=r2.get hy;have ne:∀{l:Addr} {o:HO},H l=some o->∀b∈[z,TI,TO,i1,i2],l≠b:=λ {l o} hl b hb e=>by subst e;rw[(hf l hb).1] at hl;cases hl
  have off:∀{l:Addr} {o:HO},H l=some o->bP z TO i1 i2 l:=λ {l o} hl=>⟨ne hl z (by simp),ne hl TO (by simp),ne hl i1 (by simp),ne hl i2 (by simp)⟩
  obtain⟨_,yx,nS,rS,KJ⟩:=I.hok S _ hS;refine codeAny_builtin PySem.F.entry_extend_loop ?_;rw[Around.under_plainId PySem.F.plain_extend_loop _];show wpAny _ A.in1 (pyNext (.ref z) >>=_) _ _ s;refine Qg (B2 ap (off e1) (off e2) ⟨_,KJ⟩ st p1 p2 (by simpa using ua) (by simpa using Lp) λh' ai hp kk=>?_);have oW:∀b u,H b=some u->b∉[z,TI,TO,i1,i2]:=λb u e hb=>by rw[(hf b hb).1] at e;cases e
  have jO:∀b o,b∉[z,TI,TO,i1,i2]->s.heap.get? b=some o->h'.get? b=some o:=λb o hb e=>by simp only[Qx,Qy,or_false,not_or] at hb;exact kk b o (by simp only[Qx,Qy,or_false,not_or];exact⟨hb.1,hb.2.2.1,hb.2.2.2.1,hb.2.2.2.2⟩) e
  have lt:∀{b:Addr} {o:Obj},s.heap.get? b=some o->b≠s.heap.objs.size:=λe=>QQ (Qv e)
  have kG:H s.heap.objs.size=none:=I.fresh;have M3:S≠s.heap.objs.size:=lt KJ;have I2:Inv X pins σ (upd H s.heap.objs.size (.tup [x,y])) {s with heap:=h',toks:=s.toks}:=by
   refine I.step (g':=s.gens) (d':=s.drawn) (ch:=[z,TI,TO,i1,i2]) (λb hb=>⟨(hf b hb).2.2.2.1,(hf b hb).2.1,(hf b hb).2.2.2.2.1,(hf b hb).2.2.2.2.2⟩) (λb o _ _ hb e _=>jO b o hb e) (λb o _ _ hb e _=>⟨o.slots,jO b o hb e⟩)
    (λb o hb e n=>by rw[aq (lt e)];exact n) (λb o hb e=>⟨o,jO b o hb e⟩) (λb zs e=>by rw[aq (aw e kG)];exact e) (λb o u e=>by rw[aq (aw e kG)];exact e)
    (λb ps e=>⟨#[],by rw[aq (aw e kG),e];simp⟩) (λm hm=>?_) (λb u e=>?_) I.bare
   ·obtain⟨o,df,ep,ho,rr⟩:=hm;exact⟨o,df,ep,jO _ o (λhb=>(hf _ hb).2.1 rfl) ho,rr⟩
   ·by_cases hb:b=s.heap.objs.size
    ·subst hb;rw[aB] at e;cases e;exact⟨by show 2<=sizeLine;decide,[u1,u2],.cons HR (.cons L9 .nil),_,hp,rfl,0,rfl⟩
    ·rw[aq hb] at e;refine(I.hok b u e).ji (λc v hc q=>jO c v ?_ q) (λc q=>by rw[aq (aw q kG)];exact q) λc zs q=>by rw[aq (aw q kG)];exact q
     rcases hc with rfl | hc
     ·exact oW c u e
     ·exact oW c _ hc
  have qN:h'.get? S=some {cls:= .type "list",data:= .seq yx.toArray nS}:=jO S _ (oW S _ hS) KJ;have FI:yx.length=i:=by
   have:=rS.length;rw[Qu] at this
   lia
  show wpAny _ A.in1 (updateSeq S (·.push (.ref s.heap.objs.size)) >>=_) _ _ _;refine Qg (wpAny_updateSeq qN rfl (Qj ⟨plainId_quiet PySem.F.plain_extend_loop _,?_⟩) (by simp;lia) (by show (yx.toArray.push _).size<=sizeLine + 1;rw[Q6];simp;lia));have Jn:upd H s.heap.objs.size (.tup [x,y]) S=some (.lst (ps.map V.ref)):=by rw[aq M3];exact hS
  have kS:∀b u,b≠S->h'.get? b=some u->(h'.update S (Obj.mapSeq (·.push (.ref s.heap.objs.size)))).get? b=some u:=λb u hb e=>(QN _ _ (Ne.symm hb)).trans e
  obtain⟨c,M1⟩:∃c,(h'.update S (Obj.mapSeq (·.push (.ref s.heap.objs.size)))).get? S=some {cls:= .type "list",data:= .seq (yx.toArray.push (.ref s.heap.objs.size)) c}:=⟨_,get?_update_seq qN λa=>a.push _⟩;have e3:(ps++[s.heap.objs.size]).map V.ref=ps.map V.ref++[.ref s.heap.objs.size]:=by simp
  have I3:Inv X pins σ (upd (upd H s.heap.objs.size (.tup [x,y])) S (.lst ((ps++[s.heap.objs.size]).map V.ref))) {s with heap:=h'.update S (Obj.mapSeq (·.push (.ref s.heap.objs.size))),toks:=s.toks}:=by
   refine I2.write (t':=s.toks) (e:=S) (by rw[Jn];trivial) (.inl rfl) kS ⟨_,M1⟩ ⟨by simp;lia,yx++[.ref s.heap.objs.size],c,?_,?_⟩
   ·rw[e3];exact rS.append (.cons rfl .nil)
   ·rw[M1];simp
  have old:∀b o,H0 b=some o->upd (upd H s.heap.objs.size (.tup [x,y])) S (.lst ((ps++[s.heap.objs.size]).map V.ref)) b=some o:=λb o e=>by rw[aq (aw e Om),aq (aw (t7 b o e) kG)];exact t7 b o e
  refine ih (i + 1) _ _ (ps++[s.heap.objs.size]) (by lia) (by lia) I3 (λb hb=>?_) (ai.keep Ci λb o hb e=>kS b o hb e) aB (by simp;lia) (λj x' y' p' h1 h2 h3=>?_) old hR
  ·obtain⟨f1,f2⟩:=hf b hb;have Oq:b≠S:=λe=>Ci (e▸hb)
   have KY:∃o,s.heap.get? b=some o:=by
    obtain⟨s1,s2,s3,s4⟩:=st;obtain⟨o1,Ab,_⟩:=s2.obj;obtain⟨o2,oR,_⟩:=s3.obj;simp only[Qx,Qy,or_false] at hb;rcases hb with rfl | rfl | rfl | rfl | rfl
    ·rcases s4 with ⟨z1,_⟩ | ⟨p,fb,o,z1,_⟩
     ·exact⟨_,z1⟩
     ·exact⟨_,z1⟩
    ·exact⟨_,s1⟩
    ·rcases s4 with ⟨_,_,_,t1⟩ | ⟨_,_,_,_,_,_,oT,G0⟩
     ·exact⟨_,t1⟩
     ·exact⟨_,G0⟩
    ·exact⟨_,Ab⟩
    ·exact⟨_,oR⟩
   obtain⟨o,KY⟩:=KY;exact⟨by rw[aq Oq,aq (lt KY)];exact f1,f2⟩
  ·by_cases hj:j < ps.length
   ·rw[Q0 hj] at h3;have q:=hz j x' y' p' h1 h2 h3;rw[aq (λe=>?_),aq (aw q kG)]
    ·exact q
    ·subst e;rw[hS] at q;cases q
   ·rw[Q1 (by lia)] at h3;have yf:j=ps.length:=by
     have:=(Qn.mp h3).1;simp at this
     lia
    subst yf;rw[yq] at h1 h2;rw[hx] at h1;rw[hy] at h2;cases h1;cases h2;simp at h3;subst h3;rw[aq (Ne.symm M3)];exact aB
noncomputable def Mu (ta:TA):TE:=λσ H Q=>ta σ H λvs H1=>∃b1 b2 l1 l2 xs ys,vs=[.ref l1,.ref l2]/\H1 l1=some (iw b1 xs)/\H1 l2=some (iw b2 ys)/\xs.length<=sizeLine/\
 ∀n ps H2,H1 n=none->bE H1 H2->H2 n=some (.lst (ps.map V.ref))->ps.length=min xs.length ys.length->Zd xs ys H2 ps->Q (.ref n) H2
theorem vP:typeLookup (.type "zip") "__len__"=pure none:=by rw[typeLookup_type,builtinLookup_eq_fast];kernel_rfl
theorem sk:typeLookup (.type "zip") "__length_hint__"=pure none:=by rw[typeLookup_type,builtinLookup_eq_fast];kernel_rfl
theorem sE {a b:Expr} {ta:TA} {p p2 pos gN:Pos} (hc:X.calm=true) (hg:Gl X "list") (hm:X.mg "list"=none) (pM:Gl X "zip") (Aa:X.mg "zip"=none) (ha:PA X [a,b] ta)
  (hs:starEach [a,b] X.env=[(false,eval a X.env),(false,eval b X.env)]) (rK:starEach [b] X.env=[(false,eval b X.env)]) (rJ:starEach [.Call (.Name "zip" p2) [a,b] [] gN] X.env=[(false,eval (.Call (.Name "zip" p2) [a,b] [] gN) X.env)]:=by rfl):
  PE X (.Call (.Name "list" p) [.Call (.Name "zip" p2) [a,b] [] gN] [] pos) (Mu ta):=by
 intro pins s σ H Q I h;refine wpAny_Call_Name_kw (d7 I hg hm PyProof.Rows.boot_list ?_ (by decide) (by decide));refine PyProof.Rows.callWith_type1 ?_ (by rw[rJ];rfl) (by rfl);rw[rJ];show wpAny _ _ (spliced ((false,eval (.Call (.Name "zip" p2) [a,b] [] gN) X.env)::backTo pos [])) _ _ s;refine Calls.spliced_cons ?_;refine Call_ (d7 I pM Aa boot_zip (PyProof.Rows.callWith_type1 (bN (ha gN pins s σ H _ I h) λus s1 ⟨vs,H1,I1,r1,q1⟩=>?_) (by rw[hs,rK]) (by rw[rK];rfl)));obtain⟨b1,b2,l1,l2,xs,ys,e,e1,e2,cW,q⟩:=q1;subst e;obtain⟨u,v,rfl,ru,rv⟩:=r1.two;cases ru;cases rv;obtain⟨cY,_,p1⟩:=bp I1 e1;obtain⟨aM,_,Pi⟩:=bp I1 e2;refine mh p1 Pi λh' g1 g2 g3 g4 g5 kk=>?_
 have I2:Inv X pins σ H1 {s1 with heap:=h'}:=I1.kept (t':=s1.toks) kk;refine Calls.spliced_nil ?_;generalize hN:s1.heap.objs.size=N at g1 g2 g3 g4 g5 ⊢;have ap:g0 (N + 4) (N + 2) (N + 3) N (N + 1):=by
  refine⟨?_,?_,?_,?_,?_,?_,?_,?_,?_,?_⟩
  iterate 10 (first | (apply QQ;lia) | (apply Nat.ne_of_gt;lia))
 refine callType_codes (s:={s1 with heap:=h'}) (Q₁:=λobj s₁=>obj= .ref h'.objs.size/\s₁={s1 with heap:=h'.push {cls:= .type "list",data:= .seq #[]}}) PySem.F.called_list (PySem.F.typeCall_list_1 _) PySem.F.entry_list_init
  (code_list_new _ ⟨rfl,rfl⟩) λobj s₁ h₁=>?_
 obtain⟨rfl,rfl⟩:=h₁;generalize hS:h'.objs.size=S;have On:N + 4 < S:=by rw[<-hS];exact Qv g1
 generalize hh2:h'.push {cls:= .type "list",data:= .seq #[]}=h2;have k2:∀b o,h'.get? b=some o->h2.get? b=some o:=λb o e=>by rw[<-hh2];exact Qi _ e
 have t2:h2.get? S=some (seqObj "list" #[] 0):=by rw[<-hh2,<-hS];exact Qs _ rfl
 have LG:∀b o,h'.get? b=some o->b≠S:=λb o e=>by rw[<-hS];exact QQ (Qv e)
 refine⟨⟨_,t2,rfl⟩,PySem.F.args_list_init_2 _ _,?_⟩;show wpAny _ _ (do let old<-Builtin.List.listItems (.ref S);Builtin.List.listUpdate (.ref S) (λ_=>#[]);letGo old.toList.reverse;Builtin.List.listExtendWith (.ref S) (.ref (N + 4)) .none) _ _ _;refine Qg (listItems_at (s:={s1 with heap:=h2}) t2 rfl (Qg (listUpdate_at (s:={s1 with heap:=h2}) t2 rfl ?_ (by decide) (by decide))));obtain⟨c3,t3⟩:∃c,(h2.update S (Obj.mapSeq λ_=>(#[]:Array Value))).get? S=some (seqObj "list" #[] c):=⟨_,get?_update_seq t2 λ_=>#[]⟩;generalize Jr:h2.update S (Obj.mapSeq λ_=>(#[]:Array Value))=h3 at t3 ⊢;have k3:∀b o,h'.get? b=some o->h3.get? b=some o:=λb o e=>by rw[<-Jr];exact(QN _ _ (Ne.symm (LG b o e))).trans (k2 b o e)
 refine Qg (wpAny_letGo ?_);have hT:∀{tk:Nat},Shared.TypeIs {s1 with heap:=h3,toks:=tk} (.ref (N + 4)) "zip":=⟨_,k3 _ _ g1,rfl⟩;have Ll:Builtin.List.listSameRef (.ref S) (.ref (N + 4))=false:=by simp[Builtin.List.listSameRef];exact Nat.ne_of_gt On
 unfold Builtin.List.listExtendWith;refine Qg (wpAny_typeOf (s:={s1 with heap:=h3}) hT ?_);rw[if_neg (by rw[Ll];decide)];refine Qg (wpAny_pyIter_zip (s:={s1 with heap:=h3}) (k3 _ _ g1) ?_);refine Qg (wpAny_holding ?_);unfold Builtin.List.listLengthHint;refine Qg (wpAny_specialOf (s:={s1 with heap:=h3}) hT vP ?_);show wpAny _ _ (specialOf (Value.ref (N + 4)) (Str.ofString "__length_hint__") >>=_) _ _ _;refine Qg (wpAny_specialOf (s:={s1 with heap:=h3}) hT sk ?_);refine Qj ?_;rw[if_pos (by decide)];refine Qg (wpAny_rule (Qg ?_));unfold Builtin.List.listTouch;refine Qg (listUpdate_at (s:={s1 with heap:=h3}) t3 rfl ?_ (by decide) (by decide));obtain⟨c4,t4⟩:∃c,(h3.update S (Obj.mapSeq λx=>x.push .none)).get? S=some (seqObj "list" #[.none] c):=⟨_,get?_update_seq t3 λx=>x.push .none⟩;generalize hh4:h3.update S (Obj.mapSeq λx=>x.push .none)=h4 at t4 ⊢;refine listUpdate_at (s:={s1 with heap:=h4}) t4 rfl ?_ (by decide) (by decide);obtain⟨c5,t5⟩:∃c,(h4.update S (Obj.mapSeq λx=>x.pop)).get? S=some (seqObj "list" #[] c):=⟨_,get?_update_seq t4 λx=>x.pop⟩;generalize hh5:h4.update S (Obj.mapSeq λx=>x.pop)=h5 at t5 ⊢;have k5:∀b o,h'.get? b=some o->h5.get? b=some o:=λb o e=>by rw[<-hh5,<-hh4];exact(QN _ _ (Ne.symm (LG b o e))).trans ((QN _ _ (Ne.symm (LG b o e))).trans (k3 b o e))
 have Dx:H1 S=none:=I2.hok.fresh (by rw[<-hS];exact Qq _);have I5:Inv X pins σ (upd H1 S (.lst [])) {s1 with heap:=h5,toks:=s1.toks}:=I2.laid (t':=s1.toks) (a:=S) k5 (by rw[<-hS];exact Qq _) ⟨by simp,[],c5,.nil,t5⟩;have iT:∀b∈[N + 4,N + 2,N + 3,N,N + 1],s1.heap.objs.size<=b:=λb hb=>by rw[hN];simp only[Qx,Qy,or_false] at hb;rcases hb with h | h | h | h | h <;> (rw[h];first | exact Nat.le_add_right _ _ | exact Qq _)
 have FI:∀b∈[N + 4,N + 2,N + 3,N,N + 1],b≠S:=λb hb=>by simp only[Qx,Qy,or_false] at hb;rcases hb with h | h | h | h | h <;> (rw[h];apply QQ;lia)
 refine Qj ⟨plainId_quiet PySem.F.plain_extend_loop _,zQ (H0:=H1) (A:=X.A.in1) (I1.ok.hd hc) ap (λyl=>FI _ yl rfl) cW Dx e1 e2 _ 0 _ _ [] rfl (Nat.zero_le _) I5 (λb hb=>?_)
  ⟨k5 _ _ g2,g4.at λo e=>k5 _ o e,g5.at λo e=>k5 _ o e,.inl ⟨k5 _ _ g1,_,_,k5 _ _ g3⟩⟩ aB rfl (λj x y p' _ _ h3=>by simp at h3) (cJ Dx _) λs' H' FN I' qN AW Jz hsm'=>⟨rfl,.ref S,H',I',rfl,q S FN H' Dx hsm' qN AW Jz⟩⟩
 exact I1.pF (iT b hb) (by rw[aq (FI b hb)];exact I1.hok.fresh (iT b hb))
end
theorem uI (ns:List Int):∀j,preSum (λi=>ns.getD i 0) j=(ns.take j).sum
 | 0=>by simp[preSum]
 | j + 1=>by
  rw[preSum,uI ns j];by_cases h:j < ns.length
  ·have e:ns.take (j + 1)=ns.take j++[ns[j]]:=by rw[List.take_append_getElem h]
   rw[e,List.sum_append];simp[h]
  ·rw[List.take_of_length_le (by lia),List.take_of_length_le (by lia)];simp[show ns.length<=j by lia]
theorem int_at {ns:List Int} {its:List Value} (r:ax (ns.map V.int) its) {i:Nat} {v:Value} (h:its[i]?=some v):∃t,v= .int (ns.getD i 0) t:=by
 have hl:=r.length;have hi:i < ns.length:=by
  have:=(Qn.mp h).1;simp at hl
  lia
 obtain⟨u,hu,ru⟩:=r.get (i:=i) (x:=V.int (ns.getD i 0)) (by simp[hi]);rw[h] at hu;cases hu;exact ru
section
variable {X:Cx}
theorem yv {prog:Program} {w:World} {A:Around} {E:Value->Shared->Prop} {s:Shared} {l:Addr} {items:Array Value} {Q:Value->Shared->Prop} (hl:s.heap.IsList l items)
  (h:∀s2:Shared,s2={s with heap:=s.heap.push {cls:= .type "list_iterator",data:= .fields #[.ref l,.int 0 0]}}->(s2.heap.IsListIter s.heap.objs.size l 0/\s2.heap.IsList l items)->(∀b∈[s.heap.objs.size,l],b < s2.heap.objs.size)->l≠s.heap.objs.size->
   (∀(b:Addr) (o:Obj),s.heap.get? b=some o->b∉[s.heap.objs.size]/\s2.heap.get? b=some o)->Q (.ref s.heap.objs.size) s2):wpAny (model prog w) A (pyIter (.ref l)) Q E s:=by
 have lt:l < s.heap.objs.size:=by obtain⟨_,e,_⟩:=hl;exact Qv e
 refine wpAny_pyIter_list hl (h _ rfl ⟨⟨_,Qs _ rfl,rfl,rfl⟩,hl.push _⟩ (λb hb=>?_) (QQ lt) λb o e=>⟨?_,Qi _ e⟩)
 ·show b < (s.heap.push _).objs.size;rw[QP];simp only[Qx,Qy,or_false] at hb;have lt':l < s.heap.objs.size:=lt;rcases hb with rfl | rfl
  ·exact Nat.lt_succ_self _
  ·exact Nat.lt_succ_of_lt lt'
 ·intro hb;have:=Qv e;rw[QT.mp hb] at this;exact Nat.lt_irrefl _ this
noncomputable def L7 (K:PySem.W.Frag):List V->Hp->VK->Prop:=λxs H Q=>∃(l:Addr) (ns:List Int),xs=[.ref l]/\dY K H l (ns.map V.int)/\Q (.int ns.sum) H
theorem xj (hc:X.calm=true):gi X (.builtin "sum") (L7 X.K):=by
 intro pins s σ H xs us Q I r h;obtain⟨l,ns,rfl,hq,q⟩:=h;obtain⟨u,rfl,ru⟩:=r.one;cases ru;obtain⟨its,rv,pl,hz⟩:=I.list hq;have hl:its.length=ns.length:=by rw[<-rv.length];simp
 refine call_sum_walkG (yv pl.isList λs2 e st fp ne old=>?_);refine⟨_,_,_,_,_,_,λi=>ns.getD i 0,rfl,Walks.list (A:=X.A.in1) (I.ok.hd hc) _ l ne its.toArray,st,fp,λi v hv=>?_,λh' tk t' hk=>?_⟩
 ·have Lv:its.toArray[i]?=some v:=hv;exact int_at rv (by simpa using Lv)
 ·subst e;refine⟨.int _,H,I.kept λb o e=>hk b o (old b o e).1 (old b o e).2,⟨t',rfl⟩,?_⟩;rw[show its.toArray.size=ns.length by simp[hl],uI,List.take_length];exact q
end
theorem gn {i:Nat} {v:V} {σ:L2.St} {H:Hp} {k:L2.St->Hp->Prop} (h:k (σ.set i (some v)) H):ey i v σ H k:=h
end Mx
end
section
namespace Mx
open PySem PySem.W PySem.Spec PyProof.Rows L2 HT
open PySem.AutoSeq1 (wpAny_loadPart')
theorem tuple_addW0 (l b:Addr) (items fK:Array Value) (n n2:Nat) (dd zU:Option Addr) (sl wB:Array (Option Value)) (PV:items.isEmpty=true):
  Meets (Builtin.«tuple.__add__» ⟨[.ref l,.ref b],[]⟩) (λ_ R s=>s.heap.get? l=some {cls:= .type "tuple",dict:=dd,data:= .seq items n,slots:=sl}/\s.heap.get? b=some {cls:= .type "tuple",dict:=zU,data:= .seq fK n2,slots:=wB}/\R (.ok (.ret (Value.ref b))) s):=
 .of_wp λprog w A R s h=>by
  obtain⟨hp,g,d,tk,os⟩:=s;obtain⟨hl,hb,h⟩:=h;have f2:=sub_tuple_tuple
  wp_walk using wpAny_loadPart' hl,wpAny_loadPart' hb
  exact⟨_,rfl,h⟩
theorem yy {α:Type} (pre:List α) (x:α):mG (pre++[x]).length (-1)=some pre.length:=by
 unfold mG;rw[if_neg (by decide),if_pos (by simp;lia)];simp
 lia
theorem pe {α:Type} (pre:List α) (x:α):jE (pre++[x]) (-1)=some x:=by unfold jE;rw[yy];simp
end Mx
end
section
namespace L2
open PySem PySem.Spec PyProof.Rows
noncomputable def eh (e:Expr) (d:Nat) (it acc:Value) (env:Env) (target:Expr) (ifs:List Expr) (p:Pos) (body:Sem Unit):Sem PySem.Fin:=do
 standAt p
 match<-pyNext it with
 | none=>pure (.done .next)
 | some v=>
  letOwnedTupleGo target it v
  assign target env v
  let mut ok:=true
  for c in ifs do
   if ok then ok<-isTrue c env (eval c env)
  if ok then body
  again (.compLoop e d it acc env)
theorem nB {prog:Program} {w:World} {A:Around} {R:Result->Shared->Prop} {s:Shared} {elt target:Expr} {gens:List Comprehension} {scope:Scope} {pos:Pos} {d:Nat} {ifs:List Expr} {p:Pos} {it acc:Value} {env:Env} {body:Sem Unit} (heq:compTurn (.ListComp elt gens scope pos) d it acc env=eh (.ListComp elt gens scope pos) d it acc env target ifs p body) {EE:Value->Shared->Prop}
  (Gy:∀x s',EE x s'->notedBy (model prog w) A env (λx s'=>R (.error x) s') x s') (I:Nat->Shared->Prop)
  (turn:∀n s,I n s->wpAny (model prog w) A (pyNext it) (λr s₁=>match r with
   | none=>R (.ok .next) s₁
   | some v=>wpAny (model prog w) A (letOwnedTupleGo target it v) (λ_ s₁'=>wpAny (model prog w) A (assign target env v) (λ_ s₂=>
     wpAny (model prog w) A (forIn ifs true λc r=>if r=true then do let ok<-isTrue c env (eval c env);pure (ForInStep.yield ok) else pure (ForInStep.yield r)) (λok s₃=>
      if ok=true then wpAny (model prog w) A body (λ_ s₄=>∃m,m < n/\I m s₄) EE s₃
      else∃m,m < n/\I m s₃) EE s₂) EE s₁') EE s₁) EE s)
  (n:Nat) (h:I n s):codeAny (model prog w) A (.compLoop (.ListComp elt gens scope pos) d it acc env) R s:=by
 refine codeAny_loop rfl I (λn s hI=>?_) n h;show wpAny _ A ((compTurn (.ListComp elt gens scope pos) d it acc env).onRaise (λx=>do noteFrame x env;theTreesLotGoes x)) _ _ s;refine wpAny_noted ?_;rw[heq];unfold eh;refine Qg (wpAny_standAt (Qg (wpAny_mono (turn n s hI) (λr s₁ h₁=>?_) Gy)));cases r with
 | none=>exact Qj h₁
 | some v=>
  refine Qg (wpAny_mono h₁ (λ_ s₁' h₁'=>?_) Gy);refine Qg (wpAny_mono h₁' (λ_ s₂ h₂=>Qg (wpAny_mono h₂ (λok s₃ h₃=>?_) Gy)) Gy);cases ok with
  | false=>exact Qj ⟨rfl,h₃⟩
  | true=>exact Qg (wpAny_mono h₃ (λ_ s₄ h₄=>Qj ⟨rfl,h₄⟩) Gy)
noncomputable def gB (elt:Expr) (acc:Value) (env:Env):Sem Unit:=do let _<-call (.builtin "list.append") [acc,<-eval elt env]
noncomputable def nextOf (e:Expr) (d:Nat) (iter:Expr) (acc:Value) (env:Env):Sem Unit:=do
 let x<-eval iter env
 standAt iter.pos
 let x<-foldedSetIterable iter env x
 let _<-runOwn (.compStart e d (<-holding [x] (pyIter x)) acc env) env
theorem qC (elt target iter:Expr) (ifs:List Expr) (scope:Scope) (pos:Pos) (it acc:Value) (env:Env):
  compTurn (.ListComp elt [⟨target,iter,ifs,0⟩] scope pos) 0 it acc env=eh (.ListComp elt [⟨target,iter,ifs,0⟩] scope pos) 0 it acc env target ifs iter.pos (gB elt acc env):=by rfl
theorem qD (elt target iter ba bZ:Expr) (ifs cD:List Expr) (scope:Scope) (pos:Pos) (it acc:Value) (env:Env):
  compTurn (.ListComp elt [⟨target,iter,ifs,0⟩,⟨ba,bZ,cD,0⟩] scope pos) 0 it acc env=
   eh (.ListComp elt [⟨target,iter,ifs,0⟩,⟨ba,bZ,cD,0⟩] scope pos) 0 it acc env target ifs iter.pos (nextOf (.ListComp elt [⟨target,iter,ifs,0⟩,⟨ba,bZ,cD,0⟩] scope pos) 1 bZ acc env):=by
 unfold eh nextOf;simp only[bind_assoc,pure_bind];rfl
theorem BW (elt target iter ba bZ:Expr) (ifs cD:List Expr) (scope:Scope) (pos:Pos) (it acc:Value) (env:Env):
  compTurn (.ListComp elt [⟨target,iter,ifs,0⟩,⟨ba,bZ,cD,0⟩] scope pos) 1 it acc env=
   eh (.ListComp elt [⟨target,iter,ifs,0⟩,⟨ba,bZ,cD,0⟩] scope pos) 1 it acc env ba cD bZ.pos (gB elt acc env):=by rfl
noncomputable def Le (σ σ2:St):Prop:=σ2.length=σ.length/\∀(j:Nat) (v:V),σ[j]?=some (some v)->σ2[j]?=some (some v)
theorem Le.refl (σ:St):Le σ σ:=⟨rfl,λ_ _ h=>h⟩
noncomputable def GL (σ0:St) (g:TG):Prop:=∀x σ H (Q:St->Hp->Prop),Le σ0 σ->g x σ H Q->g x σ H λσ2 H2=>Le σ0 σ2/\Q σ2 H2
noncomputable def FU (σ0:St) (g:wI):Prop:=∀x σ H (Q:St->Hp->Prop),Le σ0 σ->g x σ H Q->g x σ H λσ2 H2=>Le σ0 σ2/\Q σ2 H2
theorem Le.set {k:Nat} {σ0 σ:St} {v:Option V} (h:σ0[k]?=some none) (q:Le σ0 σ):Le σ0 (σ.set k v):=⟨by simpa using q.1,λj w hj=>by
 rw[QC (by rintro rfl;rw[h] at hj;cases hj)];exact q.2 j w hj⟩
theorem AK {σ0:St} {k:Nat} (h:σ0[k]?=some none):GL σ0 (ey k):=λx σ H Q p q=>⟨p.set h,q⟩
theorem AL {σ0:St}:FU σ0 Dr:=λx σ H Q p q=>⟨q.1,p,q.2⟩
theorem xU {σ0:St} {k:Nat} {u:wI} (h:σ0[k]?=some none) (hu:FU σ0 u):FU σ0 (xO (ey k) u):=λx σ H Q p q=>by obtain⟨v,r,e,q⟩:=q;exact⟨v,r,e,hu r _ H Q (p.set h) q⟩
theorem Dv {σ0:St} {K:PySem.W.Frag} {n:Nat} {u:wI} (hu:FU σ0 u):GL σ0 (Ds K n u):=λx σ H Q p q=>by obtain⟨a,xs,e,h1,h2,q⟩:=q;exact⟨a,xs,e,h1,h2,hu xs σ H Q p q⟩
theorem Inv.le {X:Cx} {pins:List (Addr×Obj)} {σ σ2:St} {H:Hp} {s:Shared} (I:Inv X pins σ2 H s) (h:Le σ σ2):Inv X pins σ H s:=I.weak h.1.symm h.2
noncomputable abbrev TB:=St->Hp->(Hp->Prop)->Prop
noncomputable def PB (X:Cx) (body:Sem Unit) (tb:TB):Prop:=∀(pins:List (Addr×Obj)) (s:Shared) (σ:St) (H:Hp) (Q:Hp->Prop),Inv X pins σ H s->tb σ H Q->wpAny (model X.prog X.w) X.A body (λ_ s'=>∃H',Inv X pins σ H' s'/\Q H') X.xe s
noncomputable def o7 (J:It) (g:TG) (tt:TT) (tb:TB) (σ0:St) (F:Hp->Prop) (H1:Hp):Prop:=
 ∃W:Nat->Nat->Hp->Prop,(∃m,W 0 m H1)/\∀i m H,W i m H->
  (J.stop i H/\F H)\/(J.go i H/\∀x H',J.yld i H x H'->g x σ0 H' λσ2 H2=>tt σ2 H2 λb H3=>if b=true then tb σ2 H3 λH4=>∃m',m' < m/\W (i + 1) m' H4 else∃m',m' < m/\W (i + 1) m' H3)
section
variable {X:Cx} {g:TG} {tt:TT} {tb:TB}
theorem mq (hc:X.calm=true) {elt target:Expr} {gens:List Comprehension} {scope:Scope} {pos:Pos} {d:Nat} {ifs:List Expr} {p:Pos} {acc:Value} {body:Sem Unit} {R:Result->Shared->Prop} {pins:List (Addr×Obj)} {σ0:St} {H0:Hp} {s0:Shared} {it:Addr} {fp:List Addr} {tn:Nat->Heap->Prop} {J:It} {F:Hp->Prop}
  (heq:compTurn (.ListComp elt gens scope pos) d (.ref it) acc X.env=eh (.ListComp elt gens scope pos) d (.ref it) acc X.env target ifs p body) (hx:∀x s',X.xe x s'->notedBy (model X.prog X.w) X.A X.env (λx s'=>R (.error x) s') x s')
  (hg:PG X target g) (iT:GL σ0 g) (ht:B3 X ifs tt) (hb:PB X body tb) (I0:Inv X pins σ0 H0 s0) (T:Turn X.prog X.w X.K target J fp it tn) (dq:tn 0 s0.heap) (f0:∀b∈fp,f7 X pins H0 b)
  (hW:o7 J g tt tb σ0 F H0) (fin:∀s' H',Inv X pins σ0 H' s'->F H'->R (.ok .next) s'):codeAny (model X.prog X.w) X.A (.compLoop (.ListComp elt gens scope pos) d (.ref it) acc X.env) R s0:=by
 obtain⟨W,⟨m0,w0⟩,turn⟩:=hW;have oB:∀{H':Hp},(∀b∈fp,H' b=none)->∀b∈fp,f7 X pins H' b:=λhn b hb=>⟨hn b hb,(f0 b hb).2⟩
 refine nB heq hx (λn s'=>∃i H',Inv X pins σ0 H' s'/\tn i s'.heap/\(∀b∈fp,H' b=none)/\W i n H') ?_ m0 ⟨0,H0,I0,dq,λb hb=>(f0 b hb).1,w0⟩;rintro n s4 ⟨i,H4,I4,Ir,MR,w4⟩;rcases turn i n H4 w4 with ⟨stop,qn⟩ | ⟨go,step⟩
 ·refine bN (T.done X rfl rfl rfl hc i pins s4 _ H4 X.xe I4 (oB MR) Ir stop) λr s5 ⟨hr,I5⟩=>?_
  subst hr;exact fin s5 H4 I5 qn
 ·refine bN (T.item X rfl rfl rfl hc i pins s4 _ H4 X.xe I4 (oB MR) Ir go) λr s5 ⟨u,hr,h5⟩=>?_
  subst hr;refine bN h5 λ_ s6 ⟨x,H6,I6,r6,y6,Ml,N3⟩=>?_
  have NR:=I6.pinned (oB N3) (T.obj _ _ Ml);have again:∀{s7:Shared} {σ7:St} {H7:Hp} {m7:Nat},Inv X (pins++kX fp s6.heap) σ7 H7 s7->Le σ0 σ7->m7 < n->W (i + 1) m7 H7->
    ∃m,m < n/\∃i H',Inv X pins σ0 H' s7/\tn i s7.heap/\(∀b∈fp,H' b=none)/\W i m H':=λ {s7 σ7 H7 m7} I7 hσ hm w7=>by
   refine⟨m7,hm,i + 1,H7,I7.iR.le hσ,T.keep _ _ _ Ml λb hb o e=>(I7.pin (b,o) (QR _ (QR _ (eU hb e)))).1,λb hb=>?_,w7⟩;obtain⟨o,e,d⟩:=T.obj _ _ Ml b hb;exact(I7.pin (b,o) (QR _ (QR _ (eU hb e)))).2.1
  refine bN (hg _ s6 _ H6 x u _ NR r6 (iT x _ H6 _ (Le.refl _) (step x H6 y6))) λ_ s7 ⟨σ7,H7,I7,Nw,q7⟩=>?_
  refine bN (ht _ s7 σ7 H7 _ I7 q7) λb s8 ⟨H8,I8,q8⟩=>?_
  cases b with
  | false=>rw[if_neg (by simp)] at q8 ⊢;obtain⟨m',hm,w8⟩:=q8;exact again I8 Nw hm w8
  | true=>
   rw[if_pos rfl] at q8 ⊢;refine bN (hb _ s8 σ7 H8 _ I8 q8) λ_ s9 ⟨H9,I9,m',hm,w9⟩=>?_
   exact again I9 Nw hm w9
noncomputable def uU (D:Addr) (te:TE):TB:=λσ H Q=>te σ H λv H4=>∃dZ,H4 D=some (.lst dZ)/\dZ.length < sizeLine/\Q (upd H4 D (.lst (dZ++[v])))
theorem jX {elt:Expr} {te:TE} {D:Addr} (he:PE X elt te):PB X (gB elt (.ref D) X.env) (uU D te):=by intro pins s σ H Q I h;unfold gB;refine Qg (bN (he pins s σ H _ I h) λy s9 ⟨v,H9,I9,r9,dZ,Od,hz,q⟩=>?_);refine Qg (bN (mM _ s9 σ H9 (.ref D) [v] (.ref D) [y] (λ_ H'=>H'=upd H9 D (.lst (dZ++[v]))) I9 rfl (.cons r9 .nil) ⟨D,dZ,v,rfl,rfl,Od,hz,rfl⟩) λ_ s10 ⟨_,PJ,NP,_,NX⟩=>?_);subst NX;exact Qj ⟨_,NP,q⟩
theorem nC {prog:Program} {w:World} {A:Around} {R:Result->Shared->Prop} {s:Shared} {elt target iter ba bZ:Expr} {ifs cD:List Expr} {scope:Scope} {pos:Pos} {it acc:Value} {env:Env}
  (h0:codeAny (model prog w) A (.compLoop (.ListComp elt [⟨target,iter,ifs,0⟩,⟨ba,bZ,cD,0⟩] scope pos) 1 it acc env) R s)
  (h:wpAny (model prog w) A (pyIter it) (λjM s'=>codeAny (model prog w) A (.compLoop (.ListComp elt [⟨target,iter,ifs,0⟩,⟨ba,bZ,cD,0⟩] scope pos) 1 jM acc env) R s')
   (notedBy (model prog w) A env λx s'=>R (.error x) s') s):
  codeAny (model prog w) A (.compStart (.ListComp elt [⟨target,iter,ifs,0⟩,⟨ba,bZ,cD,0⟩] scope pos) 1 it acc env) R s:=by
 refine codeAny_of_tree ?_;show wpAny _ _ ((compStart (.ListComp elt [⟨target,iter,ifs,0⟩,⟨ba,bZ,cD,0⟩] scope pos) 1 it acc env).onRaise (λx=>do noteFrame x env;standAt theWindowsPlace)) _ _ s;refine wpAny_notedAt ?_;unfold compStart;show wpAny _ _ (ask >>=_) _ _ s;refine Qg (wpAny_askSetting (wpAny_ite ?_));split
 ·first
   | exact Qg (Qj (Qj (And.intro rfl h0)))
   | exact Qj (And.intro rfl h0)
 ·first
   | exact Qg (wpAny_rule (Qg (wpAny_standAt (Qg (wpAny_mono h (λjM s' h'=>Qj (And.intro rfl h')) λ_ _ x=>x)))))
   | (refine Qg (wpAny_rule ?_);show wpAny _ _ (standAt bZ.pos >>=_) _ _ s;exact Qg (wpAny_standAt (Qg (wpAny_mono h (λjM s' h'=>Qj (And.intro rfl h')) λ_ _ x=>x))))
noncomputable def ID (wi:TI) (g:TG) (tt:TT) (tb:TB):TB:=λσ H Q=>GL σ g/\wi σ H λJ H1=>o7 J g tt tb σ Q H1
theorem uE {elt target iter ba bZ:Expr} {ifs cD:List Expr} {scope:Scope} {pos:Pos} {acc:Value} {wi:TI} {te:TB} (hc:X.calm=true) (hp:PassesOwn (model X.prog X.w) X.A X.env X.xe) (hi:PI X ba bZ wi) (hg:PG X ba g) (ht:B3 X cD tt) (he:PB X (gB elt acc X.env) te)
  (hs:∀x,foldedSetIterable bZ X.env x=pure x:=by intro _;rfl):PB X (nextOf (.ListComp elt [⟨target,iter,ifs,0⟩,⟨ba,bZ,cD,0⟩] scope pos) 1 bZ acc X.env) (ID wi g tt te):=by
 intro pins s σ H Q I ⟨iT,h⟩;unfold nextOf;refine Qg (bN (hi pins s σ H _ I h) λx s₁ h₁=>?_);refine Qg (wpAny_standAt (Qg (wpAny_of_eq (hs x) (Qg (wpAny_holding (bN h₁ λoU s₂ h₂=>?_))))));obtain⟨it,fp,tn,J,H2,e,I2,T,dS,f2,hW⟩:=h₂;subst e;have loop:codeAny (model X.prog X.w) X.A (.compLoop (.ListComp elt [⟨target,iter,ifs,0⟩,⟨ba,bZ,cD,0⟩] scope pos) 1 (.ref it) acc X.env) (λr s'=>match r with | .ok f=>∃H',Inv X pins σ H' s'/\Q H' | .error e=>cameBackBy (model X.prog X.w) X.A X.env X.xe e s') s₂:=
  mq hc (BW ..) (λx s' q=>hp x s' q) hg iT ht he I2 T dS f2 hW λs' H' I' q=>⟨H',I',q⟩
 have run:wpAny (model X.prog X.w) X.A (runOwn (.compStart (.ListComp elt [⟨target,iter,ifs,0⟩,⟨ba,bZ,cD,0⟩] scope pos) 1 (.ref it) acc X.env) X.env) (λ_ s'=>∃H',Inv X pins σ H' s'/\Q H') X.xe s₂:=
  wpAny_runOwn (nC loop (T.self _ 0 _ _ _ dS loop))
 exact Qg (wpAny_mono run (λf s' q=>Qj q) λ_ _ z=>z)
end
theorem fS {x:Str} {c:Addr}:∀(names:List (Str×NameKind)) (n:Nat) (acc:List (Str×Addr)),(cellsFrom n names acc).lookup x=some c->(n<=c/\(x,NameKind.cell)∈names)\/acc.lookup x=some c
 | [],n,acc,h=> .inr h
 | (y,k)::r,n,acc,h=>by
  unfold cellsFrom at h;by_cases hk:(k==NameKind.cell)=true
  ·rw[if_pos hk] at h;rcases fS r (n + 1) _ h with ⟨h1,h2⟩ | h1
   ·exact .inl ⟨Qw (Nat.le_succ _) h1,Qo _ h2⟩
   ·rw[QL] at h1;cases hb:x==y with
    | true=>
     rw[hb] at h1;cases h1;have:x=y:=by simpa using hb
     subst this;have:k=NameKind.cell:=by simpa using hk
     subst this;exact .inl ⟨Qq _,Qr⟩
    | false=>rw[hb] at h1;exact .inr h1
  ·rw[if_neg hk] at h;rcases fS r n _ h with ⟨h1,h2⟩ | h1
   ·exact .inl ⟨h1,Qo _ h2⟩
   ·exact .inr h1
theorem rg {x y:Str} {c:Addr}:∀(names:List (Str×NameKind)) (n:Nat) (acc:List (Str×Addr)),(∀x c,acc.lookup x=some c->c < n)->(∀x y c,acc.lookup x=some c->acc.lookup y=some c->x=y)->
  (cellsFrom n names acc).lookup x=some c->(cellsFrom n names acc).lookup y=some c->x=y
 | [],n,acc,h1,h2,hx,hy=>h2 x y c hx hy
 | (z,k)::r,n,acc,h1,h2,hx,hy=>by
  unfold cellsFrom at hx hy;by_cases hk:(k==NameKind.cell)=true
  ·rw[if_pos hk] at hx hy;refine rg r (n + 1) _ (λa b gD=>?_) (λa b e ha hb=>?_) hx hy
   ·rw[QL] at gD;cases hq:a==z with
    | true=>rw[hq] at gD;cases gD;exact Nat.lt_succ_self _
    | false=>rw[hq] at gD;exact Nat.lt_succ_of_lt (h1 a b gD)
   ·rw[QL] at ha hb;cases hq:a==z with
    | true=>
     rw[hq] at ha;cases ha;cases DJ:b==z with
     | true=>
      have e1:a=z:=by simpa using hq
      have e2:b=z:=by simpa using DJ
      rw[e1,e2]
     | false=>rw[DJ] at hb;exact absurd (h1 b _ hb) (Nat.lt_irrefl _)
    | false=>
     rw[hq] at ha;cases DJ:b==z with
     | true=>rw[DJ] at hb;cases hb;exact absurd (h1 a _ ha) (Nat.lt_irrefl _)
     | false=>rw[DJ] at hb;exact h2 a b e ha hb
  ·rw[if_neg hk] at hx hy;exact rg r n acc h1 h2 hx hy
theorem ny {x:Str} {c:Addr}:∀(names:List (Str×NameKind)) (n:Nat) (acc:List (Str×Addr)),(x,NameKind.cell)∉names->acc.lookup x=some c->(cellsFrom n names acc).lookup x=some c
 | [],n,acc,_,h=>h
 | (z,k)::r,n,acc,hn,h=>by
  unfold cellsFrom;by_cases hk:(k==NameKind.cell)=true
  ·rw[if_pos hk];refine ny r (n + 1) _ (λz'=>hn (Qo _ z')) ?_;rw[QL];have:(x==z)=false:=by
    cases hq:x==z with
    | false=>rfl
    | true=>
     have e1:x=z:=by simpa using hq
     have e2:k=NameKind.cell:=by simpa using hk
     subst e1 e2;exact absurd Qr hn
   rw[this];exact h
  ·rw[if_neg hk];exact ny r n acc (λz'=>hn (Qo _ z')) h
theorem kl {x:Str} {c:Addr}:∀(names:List (Str×NameKind)) (h:Heap) (acc:List (Str×Addr)),(∀x c,acc.lookup x=some c->∃v,h.IsCell c v)->(cellsFrom h.objs.size names acc).lookup x=some c->∃v,(pushCells h names).IsCell c v
 | [],h,acc,ha,hx=>ha x c hx
 | (z,k)::r,h,acc,ha,hx=>by
  unfold cellsFrom at hx;unfold pushCells;by_cases hk:(k==NameKind.cell)=true
  ·rw[if_pos hk] at hx ⊢;refine kl r _ ((z,h.objs.size)::acc) (λa b gD=>?_) (by rw[QP];exact hx);rw[QL] at gD;cases hq:a==z with
   | true=>rw[hq] at gD;cases gD;exact⟨none,_,Qs _ rfl,rfl⟩
   | false=>rw[hq] at gD;obtain⟨v,o,ho,hd⟩:=ha a b gD;exact⟨v,o,Qi _ ho,hd⟩
  ·rw[if_neg hk] at hx ⊢;exact kl r h acc ha hx
theorem qI {M:Model} {A:Around} {E:Value->Shared->Prop} {s:Shared} {scope:Scope} {globals:Addr} {cl:List (Str×Addr)} {qual:Str} {out:Env} {Q:Env->Shared->Prop}
  (hQ:∀h',h'=pushCells (s.heap.push {cls:= .type "dict",data:= .dict #[]}) scope.names->Q (newEnv scope s.heap.objs.size globals (cellsFrom (s.heap.objs.size + 1) scope.names cl) qual none .none (some out) builtinsNs) {s with heap:=h'}):
  wpAny M A (newFunctionEnv scope globals cl [] qual none .none (some out)) Q E s:=by
 simp only[newFunctionEnv,Option.isSome_some,if_true];refine Qg (wpAny_alloc ?_);refine Qg (wpAny_layCells _ (λname kind cells=>by cases hkc:kind==NameKind.cell <;> simp[hkc]) _ _ _ _ ?_);rw[show ({s with heap:=s.heap.push {cls:= .type "dict",data:= .dict #[]}}:Shared).heap.objs.size=s.heap.objs.size + 1 from QP ..];rw[List.forIn_nil];exact Qg (Qj (Qj (hQ _ rfl)))
noncomputable def fv (X:Cx) (scope:Scope) (N':List Str) (C:Addr) (s:Shared) (H:Hp) (fp:List Addr) (xe:Value->Shared->Prop):Cx:=
 {X with N:=N',s₀:=s,H₀:=H,env:=compEnvC scope (cellsFrom (C + 1) scope.names (fh scope X.env)) C X.env,outer:=X.stack,stack:=X.stack,ex:=fp,fn:=λx=>scope.names.lookup x==some .cell,pn:=[],xe:=xe}
structure fg (X:Cx) (scope:Scope) (N':List Str) (cv:List (Option Nat)):Prop where
 kind:scope.kind= .function
 nd:∀y∈scope.names,scope.names.lookup y.1=some y.2
 free:∀y∈scope.names,y.2= .free->X.env.scope.names.lookup y.1=some .cell\/X.env.scope.names.lookup y.1=some .free
 Az:∀(j i:Nat),cv[j]?=some (some i)->∃x,N'[j]?=some x/\X.N[i]?=some x/\scope.names.lookup x=some .free
 len:cv.length=N'.length
section
variable {X:Cx} {scope:Scope} {N':List Str} {cv:List (Option Nat)} {pins:List (Addr×Obj)} {σ:St} {H:Hp} {s:Shared}
theorem fg.frees (B:fg X scope N' cv) (ok:X.Ok):∀y∈scope.names,y.2= .free->∃c,X.env.cells.lookup y.1=some c:=λy hy hf=>ok.has y.1 (B.free y hy hf)
theorem fg.up (B:fg X scope N' cv) (ok:X.Ok) {x:Str} {c:Addr} (h:(fh scope X.env).lookup x=some c):X.env.cells.lookup x=some c:=
 jn scope.names [] (B.frees ok) (λ_ z=>by simp at z) h
theorem fg.p6 (B:fg X scope N' cv) {x:Str} (h:scope.names.lookup x=some .free):(x,NameKind.cell)∉scope.names:=λz=>by have:=B.nd _ z;rw[h] at this;cases this
theorem q5 {xe:Value->Shared->Prop} (B:fg X scope N' cv) (I:Inv X pins σ H s) {fp:List Addr} {tk:Nat} (hf:∀b∈fp,f7 X pins H b) (cC:∀b∈fp,b < s.heap.objs.size):
  Inv (fv X scope N' s.heap.objs.size s H fp xe) [] (dc cv σ) H {s with heap:=pushCells (s.heap.push {cls:= .type "dict",data:= .dict #[]}) scope.names,toks:=tk}:=by
 have ok:=I.ok;have hz:(s.heap.push {cls:= .type "dict",data:= .dict #[]}).objs.size=s.heap.objs.size + 1:=QP ..;have hk:∀b o,s.heap.get? b=some o->(pushCells (s.heap.push {cls:= .type "dict",data:= .dict #[]}) scope.names).get? b=some o:=λb o e=>pushCells_keeps _ _ _ _ (Qi _ e)
 have FJ:(pushCells (s.heap.push {cls:= .type "dict",data:= .dict #[]}) scope.names).Ns s.heap.objs.size λ_=>none:=(Heap.Ns.new s.heap (.type "dict")).keeps (pushCells_keeps _ _)
 have NV:∀x c,(fh scope X.env).lookup x=some c->c < s.heap.objs.size:=λx c h=>by obtain⟨v,z⟩:=I.cell x c (B.up ok h);exact z.lt
 have xq:∀x c,(cellsFrom (s.heap.objs.size + 1) scope.names (fh scope X.env)).lookup x=some c->(s.heap.objs.size + 1<=c/\(x,NameKind.cell)∈scope.names)\/X.env.cells.lookup x=some c:=λx c h=>(fS _ _ _ h).imp id (B.up ok)
 have rR:∀x,scope.names.lookup x=some .free->(compEnvC scope (cellsFrom (s.heap.objs.size + 1) scope.names (fh scope X.env)) s.heap.objs.size X.env).kindOf x=some .cell\/(compEnvC scope (cellsFrom (s.heap.objs.size + 1) scope.names (fh scope X.env)) s.heap.objs.size X.env).kindOf x=some .free:=λx hx=>by
  have q:=aU (env:=X.env) hx;by_cases hc:(NameKind.free==NameKind.free&&X.env.scope.kind== .function&&X.env.kindOf x==some .cell)=true
  ·rw[if_pos hc] at q;exact .inl q
  ·rw[if_neg hc] at q;exact .inr q
 refine⟨⟨ok.mod,?kind,ok.glob,ok.blt,Qq _,?inj,?has,?B8,ok.hd,ok.frames,.inl rfl,?FC,I.bs,Qw ok.Aw I.sz,?p5,?rB,I.stack,I.oC⟩,
  rfl,I.bare,Un.kept hk,⟨_,FJ,?loc⟩,?cell,I.hok.fresh (Qq _),?dH,?pin,I.hok.kept hk,?len⟩
 case kind=>exact B.kind
 case inj=>exact λx y c h1 h2=>rg _ _ _ (λx c h=>Nat.lt_succ_of_lt (NV x c h)) (λx y c h1 h2=>ok.inj x y c (B.up ok h1) (B.up ok h2)) h1 h2
 case has=>
  intro x hx;cases hl:scope.names.lookup x with
  | none=>
   have q:=bR (env:=X.env) hl;exact absurd hx (by
    have q':(compEnvC scope (cellsFrom (s.heap.objs.size + 1) scope.names (fh scope X.env)) s.heap.objs.size X.env).kindOf x=none:=q;show¬((compEnvC scope (cellsFrom (s.heap.objs.size + 1) scope.names (fh scope X.env)) s.heap.objs.size X.env).kindOf x=some .cell\/(compEnvC scope (cellsFrom (s.heap.objs.size + 1) scope.names (fh scope X.env)) s.heap.objs.size X.env).kindOf x=some .free);rw[q'];simp)
  | some k=>
   have q:(compEnvC scope (cellsFrom (s.heap.objs.size + 1) scope.names (fh scope X.env)) s.heap.objs.size X.env).kindOf x=some (if (k==NameKind.free&&X.env.scope.kind== .function&&X.env.kindOf x==some .cell) then NameKind.cell else k):=aU (env:=X.env) hl;have hm:=PySem.mem_of_lookup hl;by_cases Dz:k= .free
   ·subst Dz;obtain⟨c,vy⟩:=km (env:=X.env) scope.names [] (.inl hm);exact⟨c,ny _ _ _ (B.p6 hl) vy⟩
   ·have hb:(k==NameKind.free)=false:=by simpa using Dz
    have pN:(compEnvC scope (cellsFrom (s.heap.objs.size + 1) scope.names (fh scope X.env)) s.heap.objs.size X.env).kindOf x=some .cell\/(compEnvC scope (cellsFrom (s.heap.objs.size + 1) scope.names (fh scope X.env)) s.heap.objs.size X.env).kindOf x=some .free:=hx;rw[q,hb] at pN;simp only[Bool.false_and,Bool.false_eq_true,if_false,Option.some.injEq] at pN;rcases pN with z | z
    ·subst z;exact Option.isSome_iff_exists.mp (PySem.W.cellsFrom_some scope.names _ _ (.inl hl))
    ·exact absurd z Dz
 case B8=>
  intro x c yd h;have yd:(scope.names.lookup x==some .cell)=true:=yd;rcases fS _ _ _ h with ⟨h1,_⟩ | h1
  ·exact Qw (Nat.le_succ _) h1
  ·exfalso;have e:=QI yd;have:∀(l:List (Str×NameKind)) (cs:List (Str×Addr)),(∀c,cs.lookup x≠some c)->(∀y∈l,y.1=x->y.2≠ .free)->(nz X.env l cs).lookup x=none:=by
    intro l
    induction l with
    | nil=>
     intro cs AQ _;cases hq:cs.lookup x with
     | none=>exact hq
     | some c=>exact absurd hq (AQ c)
    | cons y l ih=>
     intro cs AQ hl;obtain⟨n,k⟩:=y;show (nz X.env l (if (k==NameKind.free)=true then(n,(X.env.cells.lookup n).getD 0)::cs else cs)).lookup x=none;refine ih _ (λc=>?_) λy hy=>hl y (Qo _ hy)
     by_cases hk:(k==NameKind.free)=true
     ·rw[if_pos hk,QL];have:(x==n)=false:=by
       cases hq:x==n with
       | false=>rfl
       | true=>
        have e1:x=n:=by simpa using hq
        have e2:k=NameKind.free:=by simpa using hk
        exact absurd e2 (hl (n,k) Qr e1.symm)
      rw[this];exact AQ c
     ·rw[if_neg hk];exact AQ c
   have q:=this scope.names [] (λc z=>by simp at z) λy hy e1 e2=>by have:=B.nd y hy;rw[e1,e2,e] at this;cases this
   unfold fh at h1;rw[q] at h1;cases h1
 case FC=>
  intro b hb;refine⟨QQ (cC b hb),λx c e=>?_⟩;rcases xq x c e with ⟨h1,_⟩ | h1
  ·intro z;subst z;exact absurd (QG (cC c hb) (Qw (Nat.le_succ _) h1)) (Nat.lt_irrefl _)
  ·exact(hf b hb).2.2.2.2.1 x c h1
 case p5=>
  intro b o e hb;rcases (hf b hb).2.2.2.1 with z | z
  ·exact ok.p5 b o e z
  ·exact absurd (QG (Qv (ok.bs b o e).1) z) (Nat.lt_irrefl _)
 case rB=>
  intro b hb hs;rcases Qx.mp (I.lh b hs) with z | z
  ·exact(hf b hb).2.1 z
  ·exact(hf b hb).2.2.1 z
 case loc=>
  intro j x v h1 h2 h3;have hj:∃i,cv[j]?=some (some i)/\(σ[i]?).join=some v:=by
   unfold dc at h2;rw[QE] at h2;cases hc:cv[j]? with
   | none=>rw[hc] at h2;cases h2
   | some o=>
    rw[hc] at h2;cases o with
    | none=>cases h2
    | some i=>exact⟨i,rfl,by simpa using h2⟩
  obtain⟨i,hc,hv⟩:=hj;obtain⟨x',e1,e2,e3⟩:=B.Az j i hc;have ex:x'=x:=by have Gk:N'[j]?=some x:=h1;rw[Gk] at e1;injection e1 with e1;exact e1.symm
  subst ex;have Lv:σ[i]?=some (some v):=by
   cases q:σ[i]? with
   | none=>rw[q] at hv;cases hv
   | some o=>rw[q] at hv;cases o with
    | none=>cases hv
    | some z=>simp at hv;rw[hv]
  have Hb:=B.free _ (PySem.mem_of_lookup e3) rfl;obtain⟨m,hn,hl⟩:=I.loc;obtain⟨u,r,l⟩:=hl i x' v e2 Lv (.inr Hb);refine⟨u,r,?_⟩;obtain⟨c,vy⟩:=km (env:=X.env) scope.names [] (.inl (PySem.mem_of_lookup e3));have M9:=B.up ok vy;rcases l with ⟨k,_⟩ | ⟨k,c',e,z⟩
  ·exfalso;have k':X.env.scope.names.lookup x'=some .local:=k;rcases Hb with q | q
   ·rw[k'] at q;cases q
   ·rw[k'] at q;cases q
  ·have NY:c'=c:=by rw[e] at M9;injection M9
   subst NY;exact .inr ⟨rR x' e3,c',ny _ _ _ (B.p6 e3) vy,by obtain⟨o,ho,hd⟩:=z;exact⟨o,hk _ _ ho,hd⟩⟩
 case cell=>intro x c e;refine kl scope.names (s.heap.push {cls:= .type "dict",data:= .dict #[]}) (fh scope X.env) (λa b gD=>?_) (by rw[hz];exact e);obtain⟨v,o,ho,hd⟩:=I.cell a b (B.up ok gD);exact⟨v,o,Qi _ ho,hd⟩
 case dH=>
  intro x c e;rcases xq x c e with ⟨h1,_⟩ | h1
  ·exact I.hok.fresh (Qw (Nat.le_succ _) h1)
  ·exact I.dH x c h1
 case pin=>intro p hp;cases hp
 case len=>show (dc cv σ).length=N'.length;unfold dc;rw[Qu];exact B.len
noncomputable def B4 (X:Cx) (C:Addr) (x:Value) (s':Shared):Prop:=∃m,s'.heap.Ns C m/\∀h',Heap.SameBut C s'.heap h'->∀vj:Env,vj.locals=C->wpAny (model X.prog X.w) X.A (passOn "comprehension.variables-let-go" x vj:Sem Value) (λ_ _=>False) X.xe {s' with heap:=h'}
structure Ao (X:Cx) (scope:Scope) (N':List Str) (xb:Addr->Shared->Hp->List Addr->Value->Shared->Prop):Prop where
 note:∀(pins:List (Addr×Obj)) (σ:St) (C:Addr) (s s1:Shared) (H H1:Hp) (fp:List Addr) x s',Inv X pins σ H1 s1->(∀b∈fp,f7 X pins H1 b)->s1.heap.objs.size < C->s={s1 with heap:=s1.heap.push {cls:= .type "list",data:= .seq ([]:List Value).toArray},toks:=s1.toks}->H=upd H1 s1.heap.objs.size (.lst [])->C=s.heap.objs.size->
  xb C s H fp x s'->notedBy (model X.prog X.w) X.A (fv X scope N' C s H fp (xb C s H fp)).env (B4 X C) x s'
variable {elt tg iter:Expr} {ifs:List Expr} {pos:Pos} {wi:TI} {g:TG} {tt:TT}
theorem mn {gens:List Comprehension} {xb:Addr->Shared->Hp->List Addr->Value->Shared->Prop} {pins:List (Addr×Obj)} {σ:St} {H2:Hp} {s2:Shared} {it:Addr} {fp:List Addr} {tn:Nat->Heap->Prop} {J:It} {F:Hp->Prop} {tb:Addr->TB} {body:Value->Env->Sem Unit} {p:Pos} {RR:Value->Addr->Result->Shared->Prop} (hc:X.calm=true) (B:fg X scope N' cv) (hX:Ao X scope N' xb)
  (heq:∀oU acc env,compTurn (.ListComp elt (⟨tg,iter,ifs,0⟩::gens) scope pos) 0 oU acc env=eh (.ListComp elt (⟨tg,iter,ifs,0⟩::gens) scope pos) 0 oU acc env tg ifs p (body acc env))
  (iT:GL (dc cv σ) g) (hg:∀C s H fp,PG (fv X scope N' C s H fp (xb C s H fp)) tg g) (ht:∀C s H fp,B3 (fv X scope N' C s H fp (xb C s H fp)) ifs tt) (hb:∀C s H fp D,PB (fv X scope N' C s H fp (xb C s H fp)) (body (.ref D) (fv X scope N' C s H fp (xb C s H fp)).env) (tb D))
  (I2:Inv X pins σ H2 s2) (T:Turn X.prog X.w X.K tg J fp it tn) (dS:tn 0 s2.heap) (f2:∀b∈fp,f7 X pins H2 b) (hF:o7 J g tt (tb s2.heap.objs.size) (dc cv σ) F (upd H2 s2.heap.objs.size (.lst [])))
  (Ol:∀C s' H' m,s2.heap.objs.size < C->Inv X pins σ H' s'->s'.heap.Ns C m->f7 X pins H' C->F H'->RR (.ref s2.heap.objs.size) C (.ok .next) s') (M0:∀C x s',B4 X C x s'->RR (.ref s2.heap.objs.size) C (.error x) s') {E:Value->Shared->Prop}:
  wpAny (model X.prog X.w) X.A (newList []) (λacc s₃=>wpAny (model X.prog X.w) X.A (newFunctionEnv scope X.env.globals (fh scope X.env) [] X.env.qual none .none (some X.env)) (λvj s₄=>
   codeAny (model X.prog X.w) X.A (.compStart (.ListComp elt (⟨tg,iter,ifs,0⟩::gens) scope pos) 0 (.ref it) acc {vj with scope:=relabel scope X.env}) (RR acc vj.locals) s₄) E s₃) E s2:=by
 refine wpAny_newObj_type (qI λh₁ hh₁=>?_);have I3:=I2.Hk (ys:=[]) (its:=[]) (t':=s2.toks) .nil (Nat.zero_le _);dsimp only at hh₁ ⊢;have hC:(s2.heap.push {cls:= .type "list",data:= .seq ([]:List Value).toArray}).objs.size=s2.heap.objs.size + 1:=QP ..;generalize hD:s2.heap.objs.size=D at *;have zW:∀b∈fp,b < D:=λb hb=>by obtain⟨o,e,_⟩:=T.obj 0 _ dS b hb;rw[<-hD];exact Qv e
 have f3:∀b∈fp,f7 X pins (upd H2 D (.lst [])) b:=λb hb=>⟨by rw[aq (QQ (zW b hb))];exact(f2 b hb).1,(f2 b hb).2⟩
 generalize hs3:({s2 with heap:=s2.heap.push {cls:= .type "list",data:= .seq ([]:List Value).toArray},toks:=s2.toks}:Shared)=s3 at I3;have yt:s3.heap=s2.heap.push {cls:= .type "list",data:= .seq ([]:List Value).toArray}:=by rw[<-hs3]
 have Cg:s3.heap.objs.size=D + 1:=by rw[yt];exact hC
 have IB:=q5 (xe:=xb s3.heap.objs.size s3 (upd H2 D (.lst [])) fp) (tk:=s2.toks) B I3 f3 (λb hb=>by rw[Cg];exact Nat.lt_succ_of_lt (zW b hb));have hk:∀b o,s3.heap.get? b=some o->(pushCells (s3.heap.push {cls:= .type "dict",data:= .dict #[]}) scope.names).get? b=some o:=λb o e=>pushCells_keeps _ _ _ _ (Qi _ e)
 rw[<-yt] at hh₁;rw[<-hh₁] at IB hk;have e4:({s3 with heap:=h₁,toks:=s2.toks}:Shared)={s2 with heap:=h₁}:=by rw[<-hs3]
 rw[e4] at IB;rw[hC];have oB:∀{H':Hp},(∀b∈fp,H' b=none)->∀b∈fp,f7 (fv X scope N' s3.heap.objs.size s3 (upd H2 D (.lst [])) fp (xb s3.heap.objs.size s3 (upd H2 D (.lst [])) fp)) [] H' b:=λhn b hb=>
  ⟨hn b hb,by show b≠s3.heap.objs.size;rw[Cg];exact QQ (Nat.lt_succ_of_lt (zW b hb)),λz=>(by
   rcases Qx.mp (I3.lh b z) with q | q
   ·exact(f3 b hb).2.1 q
   ·exact(f3 b hb).2.2.1 q),.inl hb,(IB.ok.FC b hb).2,λp hp=>absurd hp (by intro z;cases z)⟩
 have loop:∀s':Shared,s'={s2 with heap:=h₁}->codeAny (model X.prog X.w) X.A (.compLoop (.ListComp elt (⟨tg,iter,ifs,0⟩::gens) scope pos) 0 (.ref it) (.ref D) (fv X scope N' s3.heap.objs.size s3 (upd H2 D (.lst [])) fp (xb s3.heap.objs.size s3 (upd H2 D (.lst [])) fp)).env)
   (RR (.ref D) (D + 1)) s':=by
  rintro s' rfl;refine mq (X:=fv X scope N' s3.heap.objs.size s3 (upd H2 D (.lst [])) fp (xb s3.heap.objs.size s3 (upd H2 D (.lst [])) fp)) hc (heq _ _ _) (λx s' q=>?_) (hg _ _ _ _) iT (ht _ _ _ _) (hb _ _ _ _ D) IB T (T.keep _ _ _ dS (λb hb o e=>hk b o (by rw[yt];exact Qi _ e))) (oB λb hb=>(f3 b hb).1) hF λs5 H5 I5 qn=>?_
  ·have z:=hX.note pins σ s3.heap.objs.size s3 s2 (upd H2 D (.lst [])) H2 fp x s' I2 f2 (by rw[Cg,hD];exact Nat.lt_succ_self _) hs3.symm (by rw[hD]) rfl q;rw[Cg] at z;exact wpAny_mono z (λ_ s'' w=>M0 (D + 1) x s'' w) λy s'' w=>M0 (D + 1) y s'' w
  ·obtain⟨m5,Ld,_⟩:=I5.loc;have un:Un (fk X.stack) fp H2 H5 s2.heap s5.heap:=by
    have u1:Un (fk X.stack) fp H2 (upd H2 D (.lst [])) s2.heap s3.heap:=by rw[yt];exact Un.laid (λb u e=>Qi _ e) (by rw[hD];exact Qq _) (by rw[<-hD];exact I2.fresh)
    exact u1.trans I5.base
   have hI:Inv X pins σ H5 s5:=I2.xh (ch:=fp) (I5.os.trans (by show s3.os=s2.os;rw[<-hs3])) un I5.hok I5.bare λb hb=>⟨(f2 b hb).2.2.2.1,(f2 b hb).2.1,(f2 b hb).2.2.2.2.1,(f2 b hb).2.2.2.2.2⟩
   have yo:s5.heap.Ns (D + 1) m5:=by have q:s5.heap.Ns s3.heap.objs.size m5:=Ld;rw[Cg] at q;exact q
   have Ks:H5 (D + 1)=none:=by have q:H5 s3.heap.objs.size=none:=I5.free;rw[Cg] at q;exact q
   exact Ol (D + 1) s5 H5 m5 (Nat.lt_succ_self _) hI yo (I2.pF (by rw[hD];exact Nat.le_succ _) Ks) qn
 have Kn:({newEnv scope (D + 1) X.env.globals (cellsFrom (D + 1 + 1) scope.names (fh scope X.env)) X.env.qual none .none (some X.env) builtinsNs with scope:=relabel scope X.env}:Env)=(fv X scope N' s3.heap.objs.size s3 (upd H2 D (.lst [])) fp (xb s3.heap.objs.size s3 (upd H2 D (.lst [])) fp)).env:=by unfold fv;rw[Cg];rfl
 have go:=codeAny_compStart_list (loop _ rfl) (T.self X.A 0 _ _ _ (T.keep _ _ _ dS (λb hb o e=>hk b o (by rw[yt];exact Qi _ e))) (loop _ rfl));rw[<-Kn] at go;exact go
end
noncomputable def oG (cv:List (Option Nat)) (wi:TI) (g:TG) (tt:TT) (tb:Addr->TB):TE:=λσ H Q=>wi σ H λJ H1=>∀D,H1 D=none->GL (dc cv σ) g/\o7 J g tt (tb D) (dc cv σ) (λH'=>Q (.ref D) H') (upd H1 D (.lst []))
section
variable {X:Cx} {scope:Scope} {N':List Str} {cv:List (Option Nat)} {elt tg iter:Expr} {ifs:List Expr} {gens:List Comprehension} {pos p:Pos} {wi:TI} {g:TG} {tt:TT} {tb:Addr->TB} {body:Value->Env->Sem Unit} {xb:Addr->Shared->Hp->List Addr->Value->Shared->Prop}
theorem qc (hc:X.calm=true) (B:fg X scope N' cv) (hX:Ao X scope N' xb) (hi:PI X tg iter wi) (heq:∀oU acc env,compTurn (.ListComp elt (⟨tg,iter,ifs,0⟩::gens) scope pos) 0 oU acc env=eh (.ListComp elt (⟨tg,iter,ifs,0⟩::gens) scope pos) 0 oU acc env tg ifs p (body acc env))
  (hg:∀C s H fp,PG (fv X scope N' C s H fp (xb C s H fp)) tg g) (ht:∀C s H fp,B3 (fv X scope N' C s H fp (xb C s H fp)) ifs tt) (hb:∀C s H fp D,PB (fv X scope N' C s H fp (xb C s H fp)) (body (.ref D) (fv X scope N' C s H fp (xb C s H fp)).env) (tb D))
  (hs:∀x,foldedSetIterable iter X.env x=pure x:=by intro _;rfl):PE X (.ListComp elt (⟨tg,iter,ifs,0⟩::gens) scope pos) (oG cv wi g tt tb):=by
 intro pins s σ H Q I h;rw[eval_ListComp];refine wpAny_comprehension_free (use:=none) rfl hs (gk (B.frees I.ok)) B.kind (λy hy e=>by rw[B.nd y hy,e]) (bN (hi pins s σ H _ I h) λx s₁ h₁=>bN h₁ λoU s₂ h₂=>?_);obtain⟨it,fp,tn,J,H2,e,I2,T,dS,f2,hF⟩:=h₂;subst e;obtain⟨iT,hW⟩:=hF _ I2.fresh;refine mn (RR:=λacc C=>compPost (model X.prog X.w) X.A X.xe none (EP X pins σ Q) acc C) hc B hX heq iT hg ht hb I2 T dS f2 hW (λC s' H' m hC I' hn fC q=>?_) λC x s' z=>z
 refine⟨m,hn,λh' rK=>⟨.ref _,H',I'.turned (t':=s'.toks) (λb o hb e=>(rK.2 b hb).trans e) fC.1 fC.2.1 fC.2.2.2.1 fC.2.2.2.2.1 fC.2.2.2.2.2,rfl,q⟩⟩
theorem ju {i:Nat} {x:Str} {pos' Iq:Pos} (hc:X.calm=true) (hN:X.N.Nodup) (Cr:X.N[i]?=some x) (hx:X.env.kindOf x=some .local) (B:fg X scope N' cv) (hX:Ao X scope N' xb) (hi:PI X tg iter wi) (heq:∀oU acc env,compTurn (.ListComp elt (⟨tg,iter,ifs,0⟩::gens) scope pos) 0 oU acc env=eh (.ListComp elt (⟨tg,iter,ifs,0⟩::gens) scope pos) 0 oU acc env tg ifs p (body acc env))
  (hg:∀C s H fp,PG (fv X scope N' C s H fp (xb C s H fp)) tg g) (ht:∀C s H fp,B3 (fv X scope N' C s H fp (xb C s H fp)) ifs tt) (hb:∀C s H fp D,PB (fv X scope N' C s H fp (xb C s H fp)) (body (.ref D) (fv X scope N' C s H fp (xb C s H fp)).env) (tb D))
  (hs:∀x,foldedSetIterable iter X.env x=pure x:=by intro _;rfl)
  (DK:swapsWith (.ListComp elt (⟨tg,iter,ifs,0⟩::gens) scope pos) (some (.Name x pos')) Iq.line X.env=pure true:=by rfl):
  PS X (.Assign [.Name x pos'] (.ListComp elt (⟨tg,iter,ifs,0⟩::gens) scope pos) Iq) (qw (oG cv wi g tt tb) (ey i)):=by
 intro pins s σ H D I h;rw[exec_Assign_Name_used _ _ _ _ DK];refine Qg (wpAny_standAt (Qg ?_));show wpAny _ X.A (do let _<-comprehension (.ListComp elt (⟨tg,iter,ifs,0⟩::gens) scope pos) scope X.env _ (newList []) false (eval iter X.env) (some (assign (.Name x pos') X.env))) _ _ s;refine Qg (wpAny_mono (wpAny_comprehension_free (use:=some (assign (.Name x pos') X.env)) (Q:=λ_ s'=>SP X pins D .next s') rfl hs (gk (B.frees I.ok)) B.kind (λy hy e=>by rw[B.nd y hy,e]) (bN (hi pins s σ H _ I h) λx s₁ h₁=>bN h₁ λoU s₂ h₂=>?_))
  (λ_ s' hq=>Qj (Qj hq)) λ_ _ e=>e)
 obtain⟨it,fp,tn,J,H2,e,I2,T,dS,f2,hF⟩:=h₂;subst e;obtain⟨iT,hW⟩:=hF _ I2.fresh;refine mn (RR:=λacc C=>compPost (model X.prog X.w) X.A X.xe (some (assign (.Name _ pos') X.env)) (λ_ s'=>SP X pins D .next s') acc C) hc B hX heq iT hg ht hb I2 T dS f2 hW (λC s' H' m hC I' hn fC q=>?_) λC x s' z=>z
 show wpAny _ X.A (assign (.Name _ pos') X.env (.ref _)) _ _ _;refine wpAny_assign_Name (mV (v:= .ref _) I' hN Cr (.inl hx) rfl (λs3 I3 rK=>?_) (.inr hx));obtain⟨a,sb,ha⟩:=rK;have Oc:C≠a:=by
  rcases ha with rfl | ha
  ·exact fC.2.1
  ·exact Ne.symm (fC.2.2.2.2.1 _ a ha)
 refine⟨m,hn.sameBut sb Oc,λh' hsb'=>?_⟩;exact⟨_,H',I3.turned (t':=s3.toks) (λb o hb e=>(hsb'.2 b hb).trans e) fC.1 fC.2.1 fC.2.2.2.1 fC.2.2.2.2.1 fC.2.2.2.2.2,q⟩
end
theorem kz (o:Obj) (f:Array Value->Array Value):(o.mapFields f).dict=o.dict:=by obtain⟨c,d,dt,sl⟩:=o;cases dt <;> rfl
noncomputable def dy (h:Heap) (a T:Addr):Prop:=∃o vs,h.get? a=some o/\o.data= .fields vs/\vs[1]?=some (.ref T)
structure jx (N:Nat) (cls:Value) (a:Addr) (H:Hp) (h:Heap):Prop where
 ge:N<=a
 nH:H a=none
 obj:∃o vs,h.get? a=some o/\(o.cls=cls/\o.dict=none)/\o.data= .fields vs/\(vs[1]?=some .none\/∃T,vs[1]?=some (.ref T))
 tb:∀T,dy h a T->N<=T/\H T=none/\T≠a/\∃oT ts,h.get? T=some oT/\oT.data= .fields ts/\3 < ts.size
structure qS (fs:List Addr) (a:Addr) (h h':Heap):Prop where
 keep:∀b o,h.get? b=some o->b≠a->¬dy h a b->b∉fs->h'.get? b=some o
 slot:∀b o,h.get? b=some o->b≠a->¬dy h a b->∃sl,h'.get? b=some {o with slots:=sl}
 there:∀b o,h.get? b=some o->∃o',h'.get? b=some o'
 tb:∀T,dy h' a T->dy h a T\/h.get? T=none
theorem qS.trans {fs:List Addr} {a:Addr} {h h1 h2:Heap} (x:qS fs a h h1) (y:qS fs a h1 h2):qS fs a h h2 where
 keep:=λb o e n nt nf=>by
  have e1:=x.keep b o e n nt nf;exact y.keep b o e1 n (λz=>by
   rcases x.tb b z with q | q
   ·exact nt q
   ·rw[e] at q;cases q) nf
 slot:=λb o e n nt=>by
  obtain⟨sl,e1⟩:=x.slot b o e n nt;obtain⟨wB,e2⟩:=y.slot b _ e1 n (λz=>by
   rcases x.tb b z with q | q
   ·exact nt q
   ·rw[e] at q;cases q)
  exact⟨wB,e2⟩
 there:=λb o e=>by obtain⟨o1,e1⟩:=x.there b o e;exact y.there b o1 e1
 tb:=λT z=>by
  rcases y.tb T z with q | q
  ·exact x.tb T q
  ·right;cases hq:h.get? T with
   | none=>rfl
   | some o=>obtain⟨o',e'⟩:=x.there T o hq;rw[e'] at q;cases q
theorem qS.refl {fs:List Addr} {a:Addr} {h:Heap}:qS fs a h h:=⟨λ_ _ e _ _ _=>e,λ_ o e _ _=>⟨o.slots,e⟩,λ_ o e=>⟨o,e⟩,λ_ z=> .inl z⟩
section
variable {M:Model} {A:Around} {E:Value->Shared->Prop} {s:Shared} {N:Nat} {cls:Value} {a:Addr} {H:Hp} {base:Heap} {env f9:Env} {outer:List Env} {L:Addr}
theorem jC (e:Value) (h:env.frame=f9.frame):noteFrame e env=noteFrame e f9:=by unfold noteFrame PySem.frameOf;rw[h]
theorem pD (vA:A.frames=some (env::outer)) (hl:s.heap.FunFrames base (env::outer)) (hf:env.frame=some L) (F:jx N cls a H s.heap) (fresh:∀b,s.heap.objs.size<=b->H b=none) {head:Value} {AN:Bool} {Q:Unit->Shared->Prop}
  (q:∀h',qS (fk (env::outer)) a s.heap h'->jx N cls a H h'->(∃T,dy h' a T)->Q () {s with heap:=h'}):
  wpAny M A (do let x<-frameOf env;let pl<-entryPlaceOf L AN;let b<-EntryCells.newEntry head x .none (rawInt L) .none pl;setField (.ref a) 1 b) Q E s:=by
 obtain⟨oe,vs,he,pJ,hd,h1⟩:=F.obj;have iy:1 < vs.size:=by rcases h1 with h1 | ⟨T,h1⟩ <;> exact(Array.getElem?_eq_some_iff.mp h1).1
 have K1:a∉fk (env::outer):=λhm=>by obtain⟨_,o,ho,Lf⟩:=hl.mem hm;rw[he] at ho;injection ho with ho;subst ho;exact Lf vs hd
 refine Qg (wpAny_frameOf_fun vA hl hf λh₁ hs₁=>?_);refine Qg (wpAny_entryPlaceOf λpl gG=>?_);unfold EntryCells.newEntry newFields;refine Qg (wpAny_newObj_type ?_ (gG.sizeOk5 _ _ _ _ _));have he₁:h₁.get? a=some oe:=(hs₁.2.1 a K1).trans he;generalize hT:({cls:= .type "traceback",dict:=none,data:= .fields ([head,.ref L,.none,rawInt L,.none]++(if pl.isEmpty then List.replicate 6 Value.none else pl)).toArray}:Obj)=oT;have KO:oT.data= .fields ([head,.ref L,.none,rawInt L,.none]++(if pl.isEmpty then List.replicate 6 Value.none else pl)).toArray:=by rw[<-hT]
 have Oo:oT.isFreed=false:=by rw[<-hT];rfl
 have he₂:=Qi (h:=h₁) oT he₁;refine wpAny_setField he₂ hd iy (q _ ?_ ?_ ?_)
 all_goals
  have hz:h₁.objs.size=s.heap.objs.size:=hs₁.1;have M5:h₁.objs.size≠a:=Nat.ne_of_gt (Qv he₁);have hd₃:=Obj.data_mapFields hd (·.setIfInBounds 1 (Value.ref h₁.objs.size));have he₃:=Heap.get?_update_self (Obj.mapFields (·.setIfInBounds 1 (Value.ref h₁.objs.size))) he₂ (Obj.isFreed_of_fields hd₃);have hT₃:=(QN (h₁.push oT) (Obj.mapFields (·.setIfInBounds 1 (Value.ref h₁.objs.size))) (Ne.symm M5)).trans (Qs h₁ Oo);have kp:∀b o,b≠a->h₁.get? b=some o->((h₁.push oT).update a (Obj.mapFields (·.setIfInBounds 1 (Value.ref h₁.objs.size)))).get? b=some o:=λb o hb e=>
   (QN _ _ (Ne.symm hb)).trans (Qi _ e)
  have NI:∀T,dy ((h₁.push oT).update a (Obj.mapFields (·.setIfInBounds 1 (Value.ref h₁.objs.size)))) a T->T=h₁.objs.size:=λT ⟨o,ws,z1,z2,z3⟩=>by rw[he₃] at z1;cases z1;rw[hd₃] at z2;cases z2;simp[iy] at z3;exact z3.symm
 ·refine⟨λb o e n nt nf=>kp b o n ((hs₁.2.1 b nf).trans e),λb o e n nt=>?_,λb o e=>?_,λT z=> .inr ?_⟩
  ·obtain⟨sl,e1⟩:=hs₁.2.2 b o e;exact⟨sl,kp b _ n e1⟩
  ·by_cases hb:b=a
   ·subst hb;exact⟨_,he₃⟩
   ·obtain⟨sl,e1⟩:=hs₁.2.2 b o e;exact⟨_,kp b _ hb e1⟩
  ·rw[NI T z,hz];exact Heap.get?_none_of_le (Qq _)
 ·refine⟨F.ge,F.nH,⟨_,_,he₃,⟨(Obj.cls_mapFields _ _).trans pJ.1,(kz _ _).trans pJ.2⟩,hd₃,.inr ⟨h₁.objs.size,by simp[iy]⟩⟩,λT z=>?_⟩;have e:=NI T z;subst e;refine⟨?_,fresh _ (by rw[hz];exact Qq _),M5,oT,_,hT₃,KO,by simp⟩;rw[hz];exact Qw F.ge (Nat.le_of_lt (Qv he))
 ·exact⟨h₁.objs.size,_,_,he₃,hd₃,by simp[iy]⟩
theorem xK (vA:A.frames=some (env::outer)) (hl:s.heap.FunFrames base (env::outer)) (hf:env.frame=some L) (F:jx N cls a H s.heap) (fresh:∀b,s.heap.objs.size<=b->H b=none) {Q:Unit->Shared->Prop}
  (q:∀h',qS (fk (env::outer)) a s.heap h'->jx N cls a H h'->(∃T,dy h' a T)->Q () {s with heap:=h'}):wpAny M A (noteFrame (.ref a) env) Q E s:=by
 obtain⟨oe,vs,he,pJ,hd,h1⟩:=id F.obj;unfold noteFrame;simp only[hf];rcases h1 with h1 | ⟨T,h1⟩
 ·refine Qg (wpAny_field he hd h1 ?_);rw[if_neg (by decide)];exact pD vA hl hf F fresh q
 ·have rF:dy s.heap a T:=⟨oe,vs,he,hd,h1⟩;obtain⟨t1,t2,t3,oT,ts,hT,ya,h3⟩:=F.tb T rF;refine Qg (wpAny_field he hd h1 ?_);rw[if_pos (show (Value.ref T != Value.none)=true from by simp)];refine Qg (wpAny_field hT ya (x:=ts[3]) (by simp[h3]) ?_);split
  ·have e:s={s with heap:=s.heap}:=by cases s;rfl
   rw[e];exact Qj (q s.heap qS.refl F ⟨T,rF⟩)
  ·refine Qg (wpAny_setField hT ya h3 ?_);have other:∀b,b≠T->(s.heap.update T (Obj.mapFields (·.setIfInBounds 3 Value.none))).get? b=s.heap.get? b:=λb hb=>QN _ _ (Ne.symm hb)
   have GC:=Heap.get?_update_self (Obj.mapFields (·.setIfInBounds 3 Value.none)) hT (Obj.isFreed_of_fields (Obj.data_mapFields ya _));have II:∀T',dy (s.heap.update T (Obj.mapFields (·.setIfInBounds 3 Value.none))) a T'->T'=T:=λT' ⟨o,ws,z1,z2,z3⟩=>by rw[other a (Ne.symm t3),he] at z1;cases z1;rw[hd] at z2;cases z2;rw[h1] at z3;cases z3;rfl
   have F':jx N cls a H (s.heap.update T (Obj.mapFields (·.setIfInBounds 3 Value.none))):=by refine⟨F.ge,F.nH,⟨oe,vs,(other a (Ne.symm t3)).trans he,pJ,hd,.inr ⟨T,h1⟩⟩,λT' z=>?_⟩;rw[II T' z];exact⟨t1,t2,t3,_,_,GC,Obj.data_mapFields ya _,by simpa using h3⟩
   have AW:(s.heap.update T (Obj.mapFields (·.setIfInBounds 3 Value.none))).FunFrames base (env::outer):=hl.of_keeps λb o hb Lf=>⟨o,(other b λz=>by
    subst z;rw[hT] at hb;cases hb;exact Lf ts ya).trans hb,rfl⟩
   refine pD (s:={s with heap:=s.heap.update T (Obj.mapFields (·.setIfInBounds 3 Value.none))}) vA AW hf F' (λb hb=>fresh b (by
    have:(s.heap.update T (Obj.mapFields (·.setIfInBounds 3 Value.none))).objs.size=s.heap.objs.size:=Heap.size_after_update ..;rw[this] at hb;exact hb)) λh' x f t=>q h' (qS.trans ⟨λb o e n nt nf=>(other b λz=>nt (z▸rF)).trans e,λb o e n nt=>⟨o.slots,(other b λz=>nt (z▸rF)).trans e⟩,λb o e=>?_,λT' z=> .inl (by rw[II T' z];exact rF)⟩ x) f t
   by_cases hb:b=T
   ·subst hb;exact⟨_,GC⟩
   ·exact⟨o,(other b hb).trans e⟩
theorem AH (vA:A.frames=some (f9::outer)) (hl:s.heap.FunFrames base (f9::outer)) (OA:f9.frame=some L) (hf:env.frame=f9.frame) (F:jx N cls a H s.heap) (fresh:∀b,s.heap.objs.size<=b->H b=none) {Q:Unit->Shared->Prop}
  (q:∀h',qS (fk (f9::outer)) a s.heap h'->jx N cls a H h'->(∃T,dy h' a T)->Q () {s with heap:=h'}):wpAny M A (noteFrame (.ref a) env) Q E s:=by
 rw[jC _ hf];exact xK vA hl OA F fresh q
theorem i0 {fs:List Addr} {fl:Option Addr} (F:jx N cls a H s.heap) (ht:∃T,dy s.heap a T) {Q:Unit->Shared->Prop} (q:∀h',qS fs a s.heap h'->jx N cls a H h'->(∃T,dy h' a T)->Q () {s with heap:=h'}):wpAny M A (setFlight (.ref a) fl) Q E s:=by
 obtain⟨T,rF⟩:=ht;obtain⟨t1,t2,t3,oT,ts,hT,ya,h3⟩:=F.tb T rF;obtain⟨oe,vs,he,hd,h1⟩:=id rF;obtain⟨Qf,wC,Jq,pJ,rG,_⟩:=id F.obj;rw[he] at Jq;cases Jq;unfold setFlight;refine Qg (wpAny_field he hd h1 ?_);rw[if_pos (show (Value.ref T != Value.none)=true from by simp)];refine wpAny_setField hT ya h3 ?_;generalize hx:(fl.elim Value.none λf=>rawInt f)=x;have other:∀b,b≠T->(s.heap.update T (Obj.mapFields (·.setIfInBounds 3 x))).get? b=s.heap.get? b:=λb hb=>QN _ _ (Ne.symm hb)
 have GC:=Heap.get?_update_self (Obj.mapFields (·.setIfInBounds 3 x)) hT (Obj.isFreed_of_fields (Obj.data_mapFields ya _));have II:∀T',dy (s.heap.update T (Obj.mapFields (·.setIfInBounds 3 x))) a T'->T'=T:=λT' ⟨o,ws,z1,z2,z3⟩=>by rw[other a (Ne.symm t3),he] at z1;cases z1;rw[hd] at z2;cases z2;rw[h1] at z3;cases z3;rfl
 refine q _ ⟨λb o e n nt nf=>(other b λz=>nt (z▸rF)).trans e,λb o e n nt=>⟨o.slots,(other b λz=>nt (z▸rF)).trans e⟩,λb o e=>?_,λT' z=> .inl (by rw[II T' z];exact rF)⟩ ⟨F.ge,F.nH,⟨oe,vs,(other a (Ne.symm t3)).trans he,pJ,hd,.inr ⟨T,h1⟩⟩,λT' z=>?_⟩ ⟨T,oe,vs,(other a (Ne.symm t3)).trans he,hd,h1⟩
 ·by_cases hb:b=T
  ·subst hb;exact⟨_,GC⟩
  ·exact⟨o,(other b hb).trans e⟩
 ·rw[II T' z];exact⟨t1,t2,t3,_,_,GC,Obj.data_mapFields ya _,by simpa using h3⟩
theorem AI {fs:List Addr} {MD:String} {α:Type} (F:jx N cls a H s.heap) (ht:∃T,dy s.heap a T) {Q:α->Shared->Prop} (q:∀h',qS fs a s.heap h'->jx N cls a H h'->(∃T,dy h' a T)->E (.ref a) {s with heap:=h'}):wpAny M A (passOn MD (.ref a) env:Sem α) Q E s:=by obtain⟨T,rF⟩:=id ht;obtain⟨oe,vs,he,hd,h1⟩:=rF;unfold PySem.passOn;refine Qg (wpAny_field he hd h1 ?_);rw[if_neg (show¬((Value.ref T==Value.none)=true) from by simp)];exact Qg (i0 F ht λh' x f t=>wpAny_throw (q h' x f t))
theorem AG {fs:List Addr} (F:jx N cls a H s.heap) (ht:∃T,dy s.heap a T) (q:∀h',qS fs a s.heap h'->jx N cls a H h'->(∃T,dy h' a T)->E (.ref a) {s with heap:=h'}):cameBackBy M A env E (.ref a) s:=by obtain⟨T,rF⟩:=id ht;obtain⟨oe,vs,he,hd,h1⟩:=rF;unfold cameBackBy;refine Qg (wpAny_field he hd h1 ?_);rw[if_neg (show¬((Value.ref T==Value.none)=true) from by simp)];exact i0 F ht λh' x f t=>q h' x f t
end
section
variable {X:Cx} {σ:St} {H:Hp} {s:Shared} {cls:Value} {a:Addr}
theorem Inv.JN {h':Heap} (Nk:X.pn=[]) (I:Inv X [] σ H s) (F:jx X.s₀.heap.objs.size cls a H s.heap) (x:qS (fk X.stack) a s.heap h'):Inv X [] σ H {s with heap:=h'}:=by
 obtain⟨oa,va,ha,M7,Ou,P8⟩:=F.obj;have Mv:∀b,dy s.heap a b->X.s₀.heap.objs.size<=b/\H b=none/\b≠a/\∃oT ts,s.heap.get? b=some oT/\oT.data= .fields ts/\3 < ts.size:=F.tb;have MN:∀b o,s.heap.get? b=some o->(∀vs,o.data≠ .fields vs)->b≠a/\¬dy s.heap a b:=λb o e nf=>by
  refine⟨λz=>?_,λz=>?_⟩
  ·subst z;rw[ha] at e;cases e;exact nf va Ou
  ·obtain⟨_,_,_,oT,ts,hT,ya,_⟩:=Mv b z;rw[hT] at e;cases e;exact nf ts ya
 have old:∀b o,X.s₀.heap.get? b=some o->b≠a/\¬dy s.heap a b:=λb o e=>by
  refine⟨λz=>?_,λz=>?_⟩
  ·subst z;exact absurd (QG (Qv e) F.ge) (Nat.lt_irrefl _)
  ·exact absurd (QG (Qv e) (Mv b z).1) (Nat.lt_irrefl _)
 have JG:∀b o,X.s₀.heap.get? b=some o->b≠X.env.locals:=λb o e=>QQ (QG (Qv e) I.ok.above)
 have E9:∀b o,X.s₀.heap.get? b=some o->b∈fk X.stack->b∈X.fs:=λb o e z=>by
  rcases Qx.mp (I.lh b z) with q | q
  ·exact absurd q (JG b o e)
  ·exact q
 have Fg:∀c u,H c=some u->∀v,s.heap.get? c=some v->h'.get? c=some v:=λc u hc v e=>by
  refine x.keep c v e (λz=>by subst z;rw[F.nH] at hc;cases hc) (λz=>by rw[(Mv c z).2.1] at hc;cases hc) λz=>?_
  rw[I.oC c z] at hc;cases hc
 have cellK:∀y c,X.env.cells.lookup y=some c->∀v,s.heap.IsCell c v->h'.IsCell c v:=λy c e v ⟨o,ho,hd⟩=>by
  obtain⟨n1,n2⟩:=MN c o ho λvs q=>by rw[hd] at q;cases q
  obtain⟨sl,q⟩:=x.slot c o ho n1 n2;exact⟨_,q,hd⟩
 refine⟨I.ok,I.os,I.bare,⟨λb o e n hb hx=>?_,λb o e n hb hx=>?_,I.base.free,λb o e hx=>?_,I.base.tups,I.base.frzs,I.base.tbls⟩,?_,λy c e=>?_,I.free,I.dH,λp hp=>?_,?_,I.len⟩
 ·exact x.keep b o (I.base.keep b o e n hb hx) (old b o e).1 (old b o e).2 λz=>hb (E9 b o e z)
 ·obtain⟨sl,e1⟩:=I.base.slot b o e n hb hx;obtain⟨Il,e2⟩:=x.slot b _ e1 (old b o e).1 (old b o e).2;exact⟨Il,e2⟩
 ·obtain⟨o',e1⟩:=I.base.there b o e hx;exact x.there b o' e1
 ·obtain⟨m,⟨o,es,ep,ho,hd,r⟩,hl⟩:=I.loc;obtain⟨n1,n2⟩:=MN _ o ho λvs q=>by rw[hd] at q;cases q
  obtain⟨sl,q⟩:=x.slot _ o ho n1 n2;refine⟨m,⟨_,es,ep,q,hd,r⟩,λi y v e1 e2 e3=>?_⟩;obtain⟨u,rr,l⟩:=hl i y v e1 e2 e3;refine⟨u,rr,?_⟩;rcases l with l | ⟨k,c,e,z⟩
  ·exact .inl l
  ·exact .inr ⟨k,c,e,cellK y c e _ z⟩
 ·obtain⟨v,z⟩:=I.cell y c e;exact⟨v,cellK y c e v z⟩
 ·rw[Nk] at hp;cases hp
 ·intro b u e;refine(I.hok b u e).ji (λc v hc q=>?_) (λ_ q=>q) λ_ _ q=>q
  rcases hc with rfl | hc
  ·exact Fg c u e v q
  ·exact Fg c _ hc v q
end
noncomputable def j9 (X:Cx) (E:XK) (e:Value) (s':Shared):Prop:=∃σ H' a cls,e= .ref a/\Inv X [] σ H' s'/\jx X.s₀.heap.objs.size cls a H' s'.heap/\E cls none H'
noncomputable def oO (P:Program) (w:World):j7:=λouter H s E e s'=>∃H' a cls,e= .ref a/\s'.os=s.os/\AllBare s'.gens/\Un (fk outer) [] H H' s.heap s'.heap/\eK P w H' s'.heap/\jx s.heap.objs.size cls a H' s'.heap/\E cls none H'
structure fy (X:Cx):Prop where
 pn:X.pn=[]
 st:∃f9 og L,X.stack=f9::og/\f9.frame=some L/\X.env.frame=f9.frame
section
variable {X:Cx} {E:XK}
theorem zo {CX:j7} {P:Program} {w:World} {K:PySem.W.Frag} {mg:Str->Option Value} {base:Heap} {N:List Str} {qual:Str} {scope:Scope} {f:Addr} {cd:Value} {A:Around} {outer:List Env} {s:Shared} {H:Hp}:fy (kr CX P w K mg base N qual scope f cd A outer s H E):=
 ⟨rfl,_,_,_,rfl,rfl,rfl⟩
theorem oE {scope:Scope} {N':List Str} {C:Addr} {s:Shared} {H:Hp} {fp:List Addr} {xe:Value->Shared->Prop} (st:fy X):fy (fv X scope N' C s H fp xe):=by obtain⟨hp,f9,og,L,h1,h2,h3⟩:=st;exact⟨rfl,f9,og,L,h1,h2,h3⟩
theorem jx.down {N N':Nat} {cls:Value} {a:Addr} {H:Hp} {h:Heap} (F:jx N cls a H h) (hn:N'<=N):jx N' cls a H h:=⟨Qw hn F.ge,F.nH,F.obj,λT z=>⟨Qw hn (F.tb T z).1,(F.tb T z).2⟩⟩
theorem zI {pins:List (Addr×Obj)} {σ:St} {H:Hp} {s s':Shared} {e:Value} (I:Inv X pins σ H s) (Nk:X.pn=[]) (c:oO X.prog X.w X.stack H s E e s'):j9 X E e s':=by
 obtain⟨H',a,cls,e1,h1,h2,h3,h4,h5,h6⟩:=c;have I1:Inv X pins σ H' s':=I.xh (ch:=[]) h1 h3 h4 h2 λb z=>by cases z
 refine⟨σ,H',a,cls,e1,I1.jZ (λp hp=>by cases hp),h5.down I.sz,h6⟩
theorem mY (st:fy X) {e:Value} {s:Shared} (h:j9 X E e s) {Q:Unit->Shared->Prop} {E2:Value->Shared->Prop} (q:∀σ H' a cls s',e= .ref a->Inv X [] σ H' s'->jx X.s₀.heap.objs.size cls a H' s'.heap->(∃T,dy s'.heap a T)->E cls none H'->Q () s'):wpAny (model X.prog X.w) X.A (noteFrame e X.env) Q E2 s:=by
 obtain⟨σ,H',a,cls,rfl,I,F,hE⟩:=h;obtain⟨hp,f9,og,L,h1,h2,h3⟩:=st;have vA:=I.ok.frames;have hl:=I.stack;rw[h1] at vA hl;refine AH vA hl h2 h3 F (λb hb=>I.hok.fresh hb) λh' x f t=>?_
 rw[<-h1] at x;exact q σ H' a cls _ rfl (I.JN hp F x) f t hE
theorem qJ (st:fy X) {e:Value} {s:Shared} (h:j9 X E e s) {R:Value->Shared->Prop} (q:∀σ H' a cls s',e= .ref a->Inv X [] σ H' s'->jx X.s₀.heap.objs.size cls a H' s'.heap->(∃T,dy s'.heap a T)->E cls none H'->R e s'):notedBy (model X.prog X.w) X.A X.env R e s:=
 mY st h q
theorem vc (st:fy X) (hx:∀e s',j9 X E e s'->X.xe e s') (A4:∀e s',X.xe e s'->j9 X E e s'):PassesOwn (model X.prog X.w) X.A X.env X.xe:=λe s' h=>by
 refine qJ st (A4 e s' h) λσ H' a cls s1 e1 I1 F1 t1 hE=>?_
 subst e1;exact AG (fs:=fk X.stack) F1 t1 λh' x f t=>hx _ _ ⟨σ,H',a,cls,rfl,I1.JN st.pn F1 x,f,hE⟩
end
theorem Fv {P:Program} {w:World} {K:PySem.W.Frag} {mg:Str->Option Value} {base:Heap} {N:List Str} {qual:Str} {scope:Scope} {f:Addr} {cd:Value} {A:Around} {outer:List Env} {s:Shared} {H:Hp} {E:XK} {e:Value} {s':Shared}
  (h:j9 (kr (oO P w) P w K mg base N qual scope f cd A outer s H E) E e s'):(kr (oO P w) P w K mg base N qual scope f cd A outer s H E).xe e s':=by
 have st:=zo (CX:=oO P w) (P:=P) (w:=w) (K:=K) (mg:=mg) (base:=base) (N:=N) (qual:=qual) (scope:=scope) (f:=f) (cd:=cd) (A:=A) (outer:=outer) (s:=s) (H:=H) (E:=E);show wpAny (model P w) (A.deeper (envOfC qual scope s.heap.objs.size f cd)) (leaving (envOfC qual scope s.heap.objs.size f cd) e) (λ_ s''=>oO P w outer H s E e s'') (λe' s''=>oO P w outer H s E e' s'') s';unfold leaving;refine Qg (mY st h λσ H' a cls s1 e1 I1 F1 t1 hE=>?_);subst e1;refine i0 (fs:=fk (kr (oO P w) P w K mg base N qual scope f cd A outer s H E).stack) F1 t1 λh' x f' t=>?_
 have I2:=I1.JN st.pn F1 x;exact⟨H',a,cls,rfl,I2.os,I2.bare,I2.base,I2.hok,f',hE⟩
section
variable {X:Cx} {E:XK} {scope:Scope} {N':List Str}
theorem Cx.Ok.xe {xe:Value->Shared->Prop} (k:X.Ok):Cx.Ok {X with xe:=xe}:=⟨k.mod,k.kind,k.glob,k.blt,k.above,k.inj,k.has,k.B8,k.hd,k.frames,k.E9,k.FC,k.bs,k.Aw,k.p5,k.rB,k.jy,k.Dp⟩
theorem Inv.xe {xe:Value->Shared->Prop} {pins:List (Addr×Obj)} {σ:St} {H:Hp} {s:Shared} (I:Inv X pins σ H s):Inv {X with xe:=xe} pins σ H s:=⟨I.ok.xe,I.os,I.bare,I.base,I.loc,I.cell,I.free,I.dH,I.pin,I.hok,I.len⟩
noncomputable def sZ (X:Cx) (scope:Scope) (N':List Str) (E:XK) (C:Addr) (s:Shared) (H:Hp) (fp:List Addr):Value->Shared->Prop:=j9 (fv X scope N' C s H fp λ_ _=>False) E
theorem zH {C:Addr} {s:Shared} {H:Hp} {fp:List Addr} {e:Value} {s':Shared} {xe:Value->Shared->Prop} (h:j9 (fv X scope N' C s H fp xe) E e s'):sZ X scope N' E C s H fp e s':=by obtain⟨σ,H',a,cls,e1,I,F,hE⟩:=h;exact⟨σ,H',a,cls,e1,I.xe,F,hE⟩
theorem yL {C:Addr} {s:Shared} {H:Hp} {fp:List Addr} {e:Value} {s':Shared} {xe:Value->Shared->Prop} (h:sZ X scope N' E C s H fp e s'):j9 (fv X scope N' C s H fp xe) E e s':=by obtain⟨σ,H',a,cls,e1,I,F,hE⟩:=h;exact⟨σ,H',a,cls,e1,I.xe,F,hE⟩
theorem uD {C:Addr} {s:Shared} {H:Hp} {fp:List Addr} (st:fy X):PassesOwn (model X.prog X.w) X.A (fv X scope N' C s H fp (sZ X scope N' E C s H fp)).env (sZ X scope N' E C s H fp):=
 vc (X:=fv X scope N' C s H fp (sZ X scope N' E C s H fp)) (E:=E) (oE st) (λe s' h=>zH h) (λe s' h=>yL h)
theorem jx.at {h0:Nat} {cls:Value} {a:Addr} {H:Hp} {h h':Heap} (F:jx h0 cls a H h) (k:∀b o vs,h.get? b=some o->o.data= .fields vs->h'.get? b=some o):jx h0 cls a H h':=by obtain⟨o,vs,h1,h2,h3,h4⟩:=F.obj;have e1:=k a o vs h1 h3;refine⟨F.ge,F.nH,⟨o,vs,e1,h2,h3,h4⟩,λT z=>?_⟩;obtain⟨o',ws,z1,z2,z3⟩:=z;rw[e1] at z1;cases z1;obtain⟨t1,t2,t3,oT,ts,t4,t5,t6⟩:=F.tb T ⟨o,ws,h1,z2,z3⟩;exact⟨t1,t2,t3,oT,ts,k T oT ts t4 t5,t5,t6⟩
theorem j6 (st:fy X) (O4:∀e s',j9 X E e s'->X.xe e s'):Ao X scope N' (sZ X scope N' E):=by
 refine⟨λpins σ C s s1 H H1 fp x s' I1 f1 hC hs hH Cg hxb=>?_⟩;refine qJ (X:=fv X scope N' C s H fp (sZ X scope N' E C s H fp)) (oE st) (yL hxb) λσ' H' a cls s5 e1 I5 F5 t5 hE=>?_
 subst e1;obtain⟨m5,Ld,_⟩:=I5.loc;have yo:s5.heap.Ns C m5:=Ld;refine⟨m5,yo,λh' rK vj vy=>?_⟩;have un:Un (fk X.stack) fp H1 H' s1.heap s5.heap:=by
  have u1:Un (fk X.stack) fp H1 H s1.heap s.heap:=by rw[hH,hs];exact Un.laid (λb u e=>Qi _ e) (Qq _) I1.fresh
  exact u1.trans I5.base
 have hI:Inv X pins σ H' s5:=I1.xh (ch:=fp) (I5.os.trans (by show s.os=s1.os;rw[hs])) un I5.hok I5.bare λb hb=>⟨(f1 b hb).2.2.2.1,(f1 b hb).2.1,(f1 b hb).2.2.2.2.1,(f1 b hb).2.2.2.2.2⟩
 have fC:f7 X pins H' C:=I1.pF (Nat.le_of_lt hC) I5.free;have MX:Inv X pins σ H' {s5 with heap:=h',toks:=s5.toks}:=hI.turned (t':=s5.toks) (λb o hb e=>(rK.2 b hb).trans e) fC.1 fC.2.1 fC.2.2.2.1 fC.2.2.2.2.1 fC.2.2.2.2.2;have Of:Inv X [] σ H' {s5 with heap:=h'}:=MX.jZ λp hp=>by cases hp
 have iy:s1.heap.objs.size<=s.heap.objs.size:=by rw[hs];show _<=(s1.heap.push _).objs.size;rw[QP];exact Nat.le_succ _
 have F6:jx X.s₀.heap.objs.size cls a H' h':=by
  have hd:∀b o vs,s5.heap.get? b=some o->o.data= .fields vs->h'.get? b=some o:=λb o vs e hd=>by refine(rK.2 b λz=>?_).trans e;subst z;obtain⟨o',es,ep,oQ,rG,_⟩:=yo;rw[e] at oQ;cases oQ;rw[hd] at rG;cases rG
  exact(F5.at hd).down (Qw I1.sz iy)
 have t6:∃T,dy h' a T:=by obtain⟨T,o,vs,z1,z2,z3⟩:=t5;refine⟨T,o,vs,(rK.2 a λz=>?_).trans z1,z2,z3⟩;subst z;obtain⟨o',es,ep,oQ,rG,_⟩:=yo;rw[z1] at oQ;cases oQ;rw[z2] at rG;cases rG
 exact AI (s:={s5 with heap:=h'}) (fs:=fk X.stack) F6 t6 λh'' x f t=>O4 _ _ ⟨σ,H',a,cls,rfl,Of.JN st.pn F6 x,f,hE⟩
end
end L2
end
section
namespace Rx
open PySem PySem.W PySem.Spec PyProof.Rows L2 PySem.SeqAt
inductive Dt where
 | bq | bl (b:Bool) | int (i:Int) | str (x:Str) | tup (ds:List Dt) | lst (ds:List Dt) | br (ns:List Int)
 | AC (ks vs:List Dt) | obj (c:Nat) (fs:List Dt) | exc (c:Nat)
noncomputable abbrev Frag:=PySem.W.Frag
noncomputable def KL (K:Frag) (a:Addr) (xs:List V):Prop:=∃(o:Obj) (its:Array Value) (n:Nat),K.lookup a=some o/\o.cls= .type "list"/\o.dict=none/\o.data= .seq its n/\its.size<=sizeLine/\ax xs its.toList
mutual
noncomputable def RV (K:Frag) (A:Addr->Prop) (H:Hp):V->Dt->Prop
 | x,.bq=>x= .bq
 | x,.bl b=>x= .bl b
 | x,.int i=>x= .int i
 | x,.str z=>x= .str z
 | x,.tup ds=>∃a xs,x= .ref a/\H a=some (.tup xs)/\ak K A H xs ds
 | x,.lst ds=>∃a xs,x= .ref a/\H a=some (.lst xs)/\¬A a/\ak K A H xs ds
 | x,.br ns=>∃a,x= .ref a/\((Rd H a (.lst (ns.map V.int))/\¬A a)\/KL K a (ns.map V.int))
 | _,.AC _ _=>False
 | _,.obj _ _=>False
 | _,.exc _=>False
noncomputable def ak (K:Frag) (A:Addr->Prop) (H:Hp):List V->List Dt->Prop
 | [],[]=>True
 | x::xs,d::ds=>RV K A H x d/\ak K A H xs ds
 | [],_::_=>False
 | _::_,[]=>False
end
section
variable {K:Frag} {A B:Addr->Prop} {H H':Hp}
theorem RV.aI {x:V} (h:RV K A H x .bq):x= .bq:=by unfold RV at h;exact h
theorem RV.aC {x:V} {b} (h:RV K A H x (.bl b)):x= .bl b:=by unfold RV at h;exact h
theorem RV.int_inv {x:V} {b} (h:RV K A H x (.int b)):x= .int b:=by unfold RV at h;exact h
theorem RV.str_inv {x:V} {b} (h:RV K A H x (.str b)):x= .str b:=by unfold RV at h;exact h
theorem RV.ah {x:V} {ds} (h:RV K A H x (.tup ds)):∃a xs,x= .ref a/\H a=some (.tup xs)/\ak K A H xs ds:=by unfold RV at h;exact h
theorem RV.lst_inv {x:V} {ds} (h:RV K A H x (.lst ds)):∃a xs,x= .ref a/\H a=some (.lst xs)/\¬A a/\ak K A H xs ds:=by unfold RV at h;exact h
theorem RV.fZ {x:V} {ns} (h:RV K A H x (.br ns)):∃a,x= .ref a/\((Rd H a (.lst (ns.map V.int))/\¬A a)\/KL K a (ns.map V.int)):=by unfold RV at h;exact h
theorem RV.jg {x:V} {ns} (h:RV K A H x (.br ns)):∃a,x= .ref a/\dY K H a (ns.map V.int):=by
 obtain⟨a,e,h | h⟩:=h.fZ
 ·exact⟨a,e,.inl h.1⟩
 ·exact⟨a,e,.inr h⟩
theorem RV.jH {x:V} {ks vs} (h:RV K A H x (.AC ks vs)):False:=by unfold RV at h;exact h
theorem RV.jU {x:V} {ks vs} (h:RV K A H x (.obj ks vs)):False:=by unfold RV at h;exact h
theorem RV.jI {x:V} {ks} (h:RV K A H x (.exc ks)):False:=by unfold RV at h;exact h
theorem RV.gI:RV K A H .bq .bq:=by unfold RV;rfl
theorem RV.pW {b}:RV K A H (.bl b) (.bl b):=by unfold RV;rfl
theorem RV.dI {b}:RV K A H (.int b) (.int b):=by unfold RV;rfl
theorem RV.jd {b}:RV K A H (.str b) (.str b):=by unfold RV;rfl
theorem RV.dm {a xs ds} (h:H a=some (.tup xs)) (t:ak K A H xs ds):RV K A H (.ref a) (.tup ds):=by unfold RV;exact⟨a,xs,rfl,h,t⟩
theorem RV.d8 {a xs ds} (h:H a=some (.lst xs)) (n:¬A a) (t:ak K A H xs ds):RV K A H (.ref a) (.lst ds):=by unfold RV;exact⟨a,xs,rfl,h,n,t⟩
theorem ak.nil:ak K A H [] []:=by unfold ak;trivial
theorem ak.cons {x d xs ds} (h:RV K A H x d) (t:ak K A H xs ds):ak K A H (x::xs) (d::ds):=by unfold ak;exact⟨h,t⟩
theorem ak.nil_inv {xs} (h:ak K A H xs []):xs=[]:=by
 cases xs with
 | nil=>rfl
 | cons=>unfold ak at h;exact h.elim
theorem ak.eD {ds} (h:ak K A H [] ds):ds=[]:=by
 cases ds with
 | nil=>rfl
 | cons=>unfold ak at h;exact h.elim
theorem ak.cons_inv {xs d ds} (h:ak K A H xs (d::ds)):∃x r,xs=x::r/\RV K A H x d/\ak K A H r ds:=by
 cases xs with
 | nil=>unfold ak at h;exact h.elim
 | cons x r=>unfold ak at h;exact⟨x,r,rfl,h⟩
theorem ak.vm {x xs ds} (h:ak K A H (x::xs) ds):∃d r,ds=d::r/\RV K A H x d/\ak K A H xs r:=by
 cases ds with
 | nil=>unfold ak at h;exact h.elim
 | cons d r=>unfold ak at h;exact⟨d,r,rfl,h⟩
theorem ak.length:∀{xs ds},ak K A H xs ds->xs.length=ds.length
 | [],[],_=>rfl
 | [],_::_,h=>by unfold ak at h;exact h.elim
 | _::_,[],h=>by unfold ak at h;exact h.elim
 | _::xs,_::ds,h=>by unfold ak at h;simp[ak.length h.2]
theorem ak.get:∀{xs ds} {i:Nat} {x},ak K A H xs ds->xs[i]?=some x->∃d,ds[i]?=some d/\RV K A H x d
 | [],_,_,_,_,e=>by simp at e
 | _::_,[],_,_,h,_=>by unfold ak at h;exact h.elim
 | _::_,_::_,0,_,h,e=>by unfold ak at h;simp at e;subst e;exact⟨_,rfl,h.1⟩
 | _::xs,_::ds,i + 1,x,h,e=>by unfold ak at h;obtain⟨d,e1,e2⟩:=ak.get (i:=i) h.2 (by simpa using e);exact⟨d,by simpa using e1,e2⟩
theorem ak.getD:∀{xs ds} {i:Nat} {d},ak K A H xs ds->ds[i]?=some d->∃x,xs[i]?=some x/\RV K A H x d
 | _,[],_,_,_,e=>by simp at e
 | [],_::_,_,_,h,_=>by unfold ak at h;exact h.elim
 | _::_,_::_,0,_,h,e=>by unfold ak at h;simp at e;subst e;exact⟨_,rfl,h.1⟩
 | _::xs,_::ds,i + 1,x,h,e=>by unfold ak at h;obtain⟨d,e1,e2⟩:=ak.getD (i:=i) h.2 (by simpa using e);exact⟨d,by simpa using e1,e2⟩
theorem ak.append:∀{xs ys ds es},ak K A H xs ds->ak K A H ys es->ak K A H (xs++ys) (ds++es)
 | [],_,[],_,_,h=>h
 | [],_,_::_,_,h,_=>by unfold ak at h;exact h.elim
 | _::_,_,[],_,h,_=>by unfold ak at h;exact h.elim
 | _::xs,ys,_::ds,es,h,h'=>by unfold ak at h;exact ak.cons h.1 (ak.append h.2 h')
theorem ak.take:∀{xs ds} (n:Nat),ak K A H xs ds->ak K A H (xs.take n) (ds.take n)
 | [],ds,n,h=>by rw[h.eD];simp;exact ak.nil
 | x::xs,[],n,h=>by unfold ak at h;exact h.elim
 | x::xs,d::ds,0,h=>by simp;exact ak.nil
 | x::xs,d::ds,n + 1,h=>by unfold ak at h;simp only[List.take_succ_cons];exact ak.cons h.1 (ak.take n h.2)
theorem ak.drop:∀{xs ds} (n:Nat),ak K A H xs ds->ak K A H (xs.drop n) (ds.drop n)
 | [],ds,n,h=>by rw[h.eD];simp;exact ak.nil
 | x::xs,[],n,h=>by unfold ak at h;exact h.elim
 | x::xs,d::ds,0,h=>h
 | x::xs,d::ds,n + 1,h=>by unfold ak at h;simp only[List.drop_succ_cons];exact ak.drop n h.2
theorem ak.set:∀{xs ds} (n:Nat) {x d},ak K A H xs ds->RV K A H x d->ak K A H (xs.set n x) (ds.set n d)
 | [],ds,n,_,_,h,_=>by rw[h.eD];simp;exact ak.nil
 | x::xs,[],n,_,_,h,_=>by unfold ak at h;exact h.elim
 | x::xs,d::ds,0,_,_,h,h'=>by unfold ak at h;simp only[List.set_cons_zero];exact ak.cons h' h.2
 | x::xs,d::ds,n + 1,_,_,h,h'=>by unfold ak at h;simp only[List.set_cons_succ];exact ak.cons h.1 (ak.set n h.2 h')
structure aW (X:Addr->Prop) (H H':Hp):Prop where
 kp:∀b o,H b=some o->¬X b->H' b=some o
 tp:∀b xs,H b=some (.tup xs)->H' b=some (.tup xs)
theorem aW.of_same {X:Addr->Prop} (s:bE H H'):aW X H H':=⟨λb o e _=>s b o e,λb xs e=>s b _ e⟩
theorem aW.refl {X:Addr->Prop}:aW X H H:=⟨λ_ _ e _=>e,λ_ _ e=>e⟩
theorem aW.trans {X:Addr->Prop} {H1:Hp} (a:aW X H H1) (b:aW X H1 H'):aW X H H':=⟨λc o e n=>b.kp c o (a.kp c o e n) n,λc xs e=>b.tp c xs (a.tp c xs e)⟩
theorem aW.mono {X Y:Addr->Prop} (a:aW X H H') (h:∀b,X b->Y b):aW Y H H':=⟨λb o e n=>a.kp b o e λz=>n (h b z),a.tp⟩
theorem y9 {X:Addr->Prop} {a:Addr} {u:HO} (e:aW X H H') (n:¬X a) (h:Rd H a u):Rd H' a u:=by
 rcases h with h | ⟨o,h⟩
 ·exact .inl (e.kp _ _ h n)
 ·exact .inr ⟨o,e.kp _ _ h n⟩
mutual
theorem RV.mono {X:Addr->Prop} (e:aW X H H') (hX:∀b,X b->A b) (hB:∀b,B b->A b):∀{x d},RV K A H x d->RV K B H' x d
 | x,.bq,h=>by rw[h.aI];exact RV.gI
 | x,.bl b,h=>by rw[h.aC];exact RV.pW
 | x,.int b,h=>by rw[h.int_inv];exact RV.dI
 | x,.str b,h=>by rw[h.str_inv];exact RV.jd
 | x,.tup ds,h=>by obtain⟨a,xs,rfl,h1,h2⟩:=h.ah;exact RV.dm (e.tp _ _ h1) (ak.mono e hX hB h2)
 | x,.lst ds,h=>by obtain⟨a,xs,rfl,h1,h3,h2⟩:=h.lst_inv;exact RV.d8 (e.kp _ _ h1 λz=>h3 (hX _ z)) (λz=>h3 (hB _ z)) (ak.mono e hX hB h2)
 | x,.br ns,h=>by
  obtain⟨a,rfl,⟨h1,h3⟩ | h1⟩:=h.fZ
  ·unfold RV;exact⟨a,rfl,.inl ⟨y9 e (λz=>h3 (hX _ z)) h1,λz=>h3 (hB _ z)⟩⟩
  ·unfold RV;exact⟨a,rfl,.inr h1⟩
 | x,.AC ..,h=>h.jH.elim
 | x,.obj ..,h=>h.jU.elim
 | x,.exc ..,h=>h.jI.elim
theorem ak.mono {X:Addr->Prop} (e:aW X H H') (hX:∀b,X b->A b) (hB:∀b,B b->A b):∀{xs ds},ak K A H xs ds->ak K B H' xs ds
 | [],[],_=>ak.nil
 | [],_::_,h=>by unfold ak at h;exact h.elim
 | _::_,[],h=>by unfold ak at h;exact h.elim
 | _::xs,_::ds,h=>by unfold ak at h;exact ak.cons (RV.mono e hX hB h.1) (ak.mono e hX hB h.2)
end
theorem RV.same {x d} (h:RV K A H x d) (s:bE H H'):RV K A H' x d:=h.mono (X:=λ_=>False) (aW.of_same s) (λ_ z=>z.elim) λ_ z=>z
theorem ak.same {x d} (h:ak K A H x d) (s:bE H H'):ak K A H' x d:=h.mono (X:=λ_=>False) (aW.of_same s) (λ_ z=>z.elim) λ_ z=>z
theorem RV.weak {x d} (h:RV K A H x d) (hB:∀b,B b->A b):RV K B H x d:=h.mono (X:=λ_=>False) aW.refl (λ_ z=>z.elim) hB
theorem ak.weak {x d} (h:ak K A H x d) (hB:∀b,B b->A b):ak K B H x d:=h.mono (X:=λ_=>False) aW.refl (λ_ z=>z.elim) hB
mutual
theorem RV.avoid {p:Addr} (hp:H p=none):∀{x d},RV K A H x d->RV K (λb=>A b\/b=p) H x d
 | x,.bq,h=>by rw[h.aI];exact RV.gI
 | x,.bl b,h=>by rw[h.aC];exact RV.pW
 | x,.int b,h=>by rw[h.int_inv];exact RV.dI
 | x,.str b,h=>by rw[h.str_inv];exact RV.jd
 | x,.tup ds,h=>by obtain⟨a,xs,rfl,h1,h2⟩:=h.ah;exact RV.dm h1 (ak.avoid hp h2)
 | x,.lst ds,h=>by obtain⟨a,xs,rfl,h1,h3,h2⟩:=h.lst_inv;exact RV.d8 h1 (λz=>z.elim h3 λe=>by rw[e,hp] at h1;cases h1) (ak.avoid hp h2)
 | x,.br ns,h=>by
  obtain⟨a,rfl,⟨h1,h3⟩ | h1⟩:=h.fZ
  ·unfold RV;refine⟨a,rfl,.inl ⟨h1,λz=>z.elim h3 λe=>?_⟩⟩;subst e;rcases h1 with h1 | ⟨o,h1⟩ <;> (rw[hp] at h1;cases h1)
  ·unfold RV;exact⟨a,rfl,.inr h1⟩
 | x,.AC ..,h=>h.jH.elim
 | x,.obj ..,h=>h.jU.elim
 | x,.exc ..,h=>h.jI.elim
theorem ak.avoid {p:Addr} (hp:H p=none):∀{xs ds},ak K A H xs ds->ak K (λb=>A b\/b=p) H xs ds
 | [],[],_=>ak.nil
 | [],_::_,h=>by unfold ak at h;exact h.elim
 | _::_,[],h=>by unfold ak at h;exact h.elim
 | _::xs,_::ds,h=>by unfold ak at h;exact ak.cons (RV.avoid hp h.1) (ak.avoid hp h.2)
end
end
section
variable {K:Frag} {A B:Addr->Prop} {H:Hp}
mutual
theorem RV.bF (hp:∀b,B b->A b\/H b=none):∀{x d},RV K A H x d->RV K B H x d
 | x,.bq,h=>by rw[h.aI];exact RV.gI
 | x,.bl b,h=>by rw[h.aC];exact RV.pW
 | x,.int b,h=>by rw[h.int_inv];exact RV.dI
 | x,.str b,h=>by rw[h.str_inv];exact RV.jd
 | x,.tup ds,h=>by obtain⟨a,xs,rfl,h1,h2⟩:=h.ah;exact RV.dm h1 (ak.bF hp h2)
 | x,.lst ds,h=>by obtain⟨a,xs,rfl,h1,h3,h2⟩:=h.lst_inv;exact RV.d8 h1 (λz=>(hp a z).elim h3 λe=>by rw[e] at h1;cases h1) (ak.bF hp h2)
 | x,.br ns,h=>by
  obtain⟨a,rfl,⟨h1,h3⟩ | h1⟩:=h.fZ
  ·unfold RV;refine⟨a,rfl,.inl ⟨h1,λz=>(hp a z).elim h3 λe=>?_⟩⟩;rcases h1 with h1 | ⟨o,h1⟩ <;> (rw[e] at h1;cases h1)
  ·unfold RV;exact⟨a,rfl,.inr h1⟩
 | x,.AC ..,h=>h.jH.elim
 | x,.obj ..,h=>h.jU.elim
 | x,.exc ..,h=>h.jI.elim
theorem ak.bF (hp:∀b,B b->A b\/H b=none):∀{xs ds},ak K A H xs ds->ak K B H xs ds
 | [],[],_=>ak.nil
 | [],_::_,h=>by unfold ak at h;exact h.elim
 | _::_,[],h=>by unfold ak at h;exact h.elim
 | _::xs,_::ds,h=>by unfold ak at h;exact ak.cons (RV.bF hp h.1) (ak.bF hp h.2)
end
end
mutual
noncomputable def lI:Dt->Bool
 | .bq | .bl _ | .int _ | .str _=>true
 | .tup ds=>iI ds
 | _=>false
noncomputable def iI:List Dt->Bool
 | []=>true
 | d::ds=>lI d&&iI ds
end
mutual
theorem RV.lI {K:Frag} {A B:Addr->Prop} {H:Hp}:∀{x d},RV K A H x d->lI d=true->RV K B H x d
 | x,.bq,h,_=>by rw[h.aI];exact RV.gI
 | x,.bl b,h,_=>by rw[h.aC];exact RV.pW
 | x,.int b,h,_=>by rw[h.int_inv];exact RV.dI
 | x,.str b,h,_=>by rw[h.str_inv];exact RV.jd
 | x,.tup ds,h,n=>by obtain⟨a,xs,rfl,h1,h2⟩:=h.ah;exact RV.dm h1 (ak.iI h2 (by simpa [Rx.lI] using n))
 | x,.lst ds,_,n=>by simp[Rx.lI] at n
 | x,.br ds,_,n=>by simp[Rx.lI] at n
 | x,.AC ..,h,_=>h.jH.elim
 | x,.obj ..,h,_=>h.jU.elim
 | x,.exc ..,h,_=>h.jI.elim
theorem ak.iI {K:Frag} {A B:Addr->Prop} {H:Hp}:∀{xs ds},ak K A H xs ds->iI ds=true->ak K B H xs ds
 | [],[],_,_=>ak.nil
 | [],_::_,h,_=>by unfold ak at h;exact h.elim
 | _::_,[],h,_=>by unfold ak at h;exact h.elim
 | _::xs,_::ds,h,n=>by unfold ak at h;simp only[Rx.iI,Qk] at n;exact ak.cons (RV.lI h.1 n.1) (ak.iI h.2 n.2)
end
mutual
noncomputable def toD:Dt->Option Mx.D
 | .int i=>some (.int i)
 | .str x=>some (.str x)
 | .tup ds=>(lz ds).map Mx.D.tup
 | _=>none
noncomputable def lz:List Dt->Option (List Mx.D)
 | []=>some []
 | d::ds=>(toD d).bind λm=>(lz ds).map (m:: ·)
end
mutual
noncomputable def ofD:Mx.D->Dt
 | .int i=> .int i
 | .str x=> .str x
 | .tup ds=> .tup (aa ds)
noncomputable def aa:List Mx.D->List Dt
 | []=>[]
 | d::ds=>ofD d::aa ds
end
theorem aK:∀ds:List Mx.D,aa ds=ds.map ofD
 | []=>by simp[aa]
 | d::ds=>by simp[aa,aK ds]
mutual
theorem Ff:∀m:Mx.D,toD (ofD m)=some m
 | .int i=>by simp[ofD,toD]
 | .str x=>by simp[ofD,toD]
 | .tup ds=>by simp[ofD,toD,f6 ds]
theorem f6:∀ms:List Mx.D,lz (aa ms)=some ms
 | []=>by simp[aa,lz]
 | m::ms=>by simp[aa,lz,Ff m,f6 ms]
end
mutual
theorem D9:∀{d:Dt} {m:Mx.D},toD d=some m->d=ofD m
 | .int i,m,h=>by simp[toD] at h;subst h;simp[ofD]
 | .str i,m,h=>by simp[toD] at h;subst h;simp[ofD]
 | .tup ds,m,h=>by simp only[toD,QA] at h;obtain⟨ms,h1,rfl⟩:=h;rw[n9 h1];simp[ofD]
 | .bq,m,h=>by simp[toD] at h
 | .bl _,m,h=>by simp[toD] at h
 | .lst _,m,h=>by simp[toD] at h
 | .br _,m,h=>by simp[toD] at h
 | .AC _ _,m,h=>by simp[toD] at h
 | .obj _ _,m,h=>by simp[toD] at h
 | .exc _,m,h=>by simp[toD] at h
theorem n9:∀{ds:List Dt} {ms:List Mx.D},lz ds=some ms->ds=aa ms
 | [],ms,h=>by simp[lz] at h;subst h;simp[aa]
 | d::ds,ms,h=>by simp only[lz,Qh,QA] at h;obtain⟨m,h1,r,h2,rfl⟩:=h;rw[D9 h1,n9 h2];simp[aa]
end
mutual
theorem RV.dv {K:Frag} {A:Addr->Prop} {H:Hp}:∀{x} {m:Mx.D},RV K A H x (ofD m)->Mx.DV H x m
 | x,.int i,h=>by simp only[ofD] at h;rw[h.int_inv];exact Mx.DV.int
 | x,.str i,h=>by simp only[ofD] at h;rw[h.str_inv];exact Mx.DV.str
 | x,.tup ms,h=>by simp only[ofD] at h;obtain⟨a,xs,rfl,h1,h2⟩:=h.ah;exact Mx.DV.tup h1 (ak.vn h2)
theorem ak.vn {K:Frag} {A:Addr->Prop} {H:Hp}:∀{xs} {ms:List Mx.D},ak K A H xs (aa ms)->Mx.aY H xs ms
 | [],[],_=>Mx.aY.nil
 | [],_::_,h=>by simp only[aa] at h;unfold ak at h;exact h.elim
 | _::_,[],h=>by simp only[aa] at h;unfold ak at h;exact h.elim
 | _::xs,_::ds,h=>by simp only[aa] at h;unfold ak at h;exact Mx.aY.cons (RV.dv h.1) (ak.vn h.2)
end
mutual
theorem RV.Hw {K:Frag} {A:Addr->Prop} {H:Hp}:∀{x} {m:Mx.D},Mx.DV H x m->RV K A H x (ofD m)
 | x,.int i,h=>by simp only[ofD];rw[h.int_inv];exact RV.dI
 | x,.str i,h=>by simp only[ofD];rw[h.str_inv];exact RV.jd
 | x,.tup ms,h=>by simp only[ofD];obtain⟨a,xs,rfl,h1,h2⟩:=h.ah;exact RV.dm h1 (ak.n8 h2)
theorem ak.n8 {K:Frag} {A:Addr->Prop} {H:Hp}:∀{xs} {ms:List Mx.D},Mx.aY H xs ms->ak K A H xs (aa ms)
 | [],[],_=>by simp only[aa];exact ak.nil
 | [],_::_,h=>by unfold Mx.aY at h;exact h.elim
 | _::_,[],h=>by unfold Mx.aY at h;exact h.elim
 | _::xs,_::ds,h=>by simp only[aa];unfold Mx.aY at h;exact ak.cons (RV.Hw h.1) (ak.n8 h.2)
end
mutual
noncomputable def bT:Dt->Dt->Bool
 | .bq,.bq=>true
 | .bl a,.bl b=>a==b
 | .int a,.int b=>a==b
 | .bl a,.int b=>(if a then(1:Int) else 0)==b
 | .int a,.bl b=>a==(if b then(1:Int) else 0)
 | .str a,.str b=>a==b
 | .tup a,.tup b=>b9 a b
 | .lst a,.lst b=>b9 a b
 | _,_=>false
noncomputable def b9:List Dt->List Dt->Bool
 | [],[]=>true
 | x::xs,y::ys=>bT x y&&b9 xs ys
 | _,_=>false
end
mutual
noncomputable def pl:Dt->Bool
 | .bq | .bl _ | .int _ | .str _=>true
 | .tup ds=>oj ds
 | .lst ds=>oj ds
 | _=>false
noncomputable def oj:List Dt->Bool
 | []=>true
 | d::ds=>pl d&&oj ds
end
mutual
noncomputable def dp:Dt->Nat
 | .tup ds=>rj ds + 1
 | .lst ds=>rj ds + 1
 | _=>0
noncomputable def rj:List Dt->Nat
 | []=>0
 | d::ds=>max (dp d) (rj ds)
end
mutual
theorem jf:∀d:Dt,pl d=true->bT d d=true
 | .bq,_=>by simp[bT]
 | .bl b,_=>by simp[bT]
 | .int b,_=>by simp[bT]
 | .str b,_=>by simp[bT]
 | .tup ds,h=>by simp only[bT];exact gO ds (by simpa [pl] using h)
 | .lst ds,h=>by simp only[bT];exact gO ds (by simpa [pl] using h)
 | .br _,h=>by simp[pl] at h
 | .AC _ _,h=>by simp[pl] at h
 | .obj _ _,h=>by simp[pl] at h
 | .exc _,h=>by simp[pl] at h
theorem gO:∀ds:List Dt,oj ds=true->b9 ds ds=true
 | [],_=>by simp[b9]
 | d::ds,h=>by simp only[oj,Qk] at h;simp only[b9,Qk];exact⟨jf d h.1,gO ds h.2⟩
end
noncomputable def Po:Dt->Nat
 | .bq=>0 | .bl _=>1 | .int _=>2 | .str _=>3 | .tup _=>4 | .lst _=>5 | _=>6
noncomputable def Mw (H:Hp):V->Nat
 | .bq=>0 | .bl _=>1 | .int _=>2 | .str _=>3
 | .ref a=>(match H a with | some (.tup _)=>4 | some (.lst _)=>5 | _=>6)
 | _=>6
theorem RV.tg {K:Frag} {A:Addr->Prop} {H:Hp} {x:V} {d:Dt} (h:RV K A H x d) (n:pl d=true):Mw H x=Po d:=by
 cases d with
 | bq=>rw[h.aI];rfl
 | bl=>rw[h.aC];rfl
 | int=>rw[h.int_inv];rfl
 | str=>rw[h.str_inv];rfl
 | tup=>obtain⟨a,xs,rfl,h1,_⟩:=h.ah;unfold Mw;dsimp only;rw[h1];rfl
 | lst=>obtain⟨a,xs,rfl,h1,_⟩:=h.lst_inv;unfold Mw;dsimp only;rw[h1];rfl
 | _=>simp[pl] at n
mutual
theorem RV.inj {K:Frag} {A B:Addr->Prop} {H:Hp}:∀{x d e},RV K A H x d->RV K B H x e->pl d=true->pl e=true->d=e
 | x,.bq,e,h,g,m,n=>by have t:=(h.tg m).symm.trans (g.tg n);cases e <;> first | rfl | exact absurd t (of_decide_eq_false rfl)
 | x,.bl b,e,h,g,m,n=>by have t:=(h.tg m).symm.trans (g.tg n);cases e <;> first | exact absurd t (of_decide_eq_false rfl) | (cases h.aC.symm.trans g.aC;rfl)
 | x,.int b,e,h,g,m,n=>by have t:=(h.tg m).symm.trans (g.tg n);cases e <;> first | exact absurd t (of_decide_eq_false rfl) | (cases h.int_inv.symm.trans g.int_inv;rfl)
 | x,.str b,e,h,g,m,n=>by have t:=(h.tg m).symm.trans (g.tg n);cases e <;> first | exact absurd t (of_decide_eq_false rfl) | (cases h.str_inv.symm.trans g.str_inv;rfl)
 | x,.tup ds,e,h,g,m,n=>by
  have t:=(h.tg m).symm.trans (g.tg n);cases e with
  | tup es=>obtain⟨a,xs,rfl,h1,h2⟩:=h.ah;obtain⟨b,ys,q,g1,g2⟩:=g.ah;cases q;rw[h1] at g1;cases g1;rw[ak.inj h2 g2 (by simpa [pl] using m) (by simpa [pl] using n)]
  | _=>exact absurd t (of_decide_eq_false rfl)
 | x,.lst ds,e,h,g,m,n=>by
  have t:=(h.tg m).symm.trans (g.tg n);cases e with
  | lst es=>obtain⟨a,xs,rfl,h1,_,h2⟩:=h.lst_inv;obtain⟨b,ys,q,g1,_,g2⟩:=g.lst_inv;cases q;rw[h1] at g1;cases g1;rw[ak.inj h2 g2 (by simpa [pl] using m) (by simpa [pl] using n)]
  | _=>exact absurd t (of_decide_eq_false rfl)
 | x,.br ds,_,_,_,n,_=>by simp[pl] at n
 | x,.AC ..,_,_,_,n,_=>by simp[pl] at n
 | x,.obj ..,_,_,_,n,_=>by simp[pl] at n
 | x,.exc ..,_,_,_,n,_=>by simp[pl] at n
theorem ak.inj {K:Frag} {A B:Addr->Prop} {H:Hp}:∀{xs ds es},ak K A H xs ds->ak K B H xs es->oj ds=true->oj es=true->ds=es
 | xs,[],es,h,g,_,_=>by
  cases xs with
  | nil=>rw[g.eD]
  | cons=>unfold ak at h;exact h.elim
 | xs,d::ds,es,h,g,m,n=>by
  cases xs with
  | nil=>unfold ak at h;exact h.elim
  | cons x xs=>unfold ak at h;obtain⟨e,t,rfl,g1,g2⟩:=g.vm;have m':=Bool.and_eq_true_iff.mp m;have n':=Bool.and_eq_true_iff.mp n;rw[RV.inj h.1 g1 m'.1 n'.1,ak.inj h.2 g2 m'.2 n'.2]
end
noncomputable def uK (ds es:List Dt) (j:Nat):Bool:=match ds[j]?,es[j]? with
 | some d,some e=>bT d e
 | _,_=>true
theorem cT:∀ds es:List Dt,((List.range (min ds.length es.length)).all (uK ds es)&&ds.length==es.length)=b9 ds es
 | [],[]=>by simp[b9]
 | [],_::_=>by simp[b9]
 | _::_,[]=>by simp[b9]
 | d::ds,e::es=>by
  have ih:=cT ds es;have hm:min (d::ds).length (e::es).length=min ds.length es.length + 1:=by simp only[QD];lia
  have e1:((d::ds).length==(e::es).length)=(ds.length==es.length):=by rw[Bool.eq_iff_iff];simp
  rw[hm,List.range_succ_eq_map,List.all_cons,List.all_map,e1,b9,<-ih,Bool.and_assoc];rfl
theorem nG {d:Dt}:∀{ds:List Dt} {j:Nat},ds[j]?=some d->dp d<=rj ds
 | [],_,h=>by simp at h
 | d'::ds,0,h=>by simp at h;subst h;unfold rj;lia
 | d'::ds,j + 1,h=>by have:=nG (ds:=ds) (j:=j) (by simpa using h);unfold rj;lia
theorem gM {d:Dt}:∀{ds:List Dt} {j:Nat},oj ds=true->ds[j]?=some d->pl d=true
 | [],_,_,h=>by simp at h
 | d'::ds,0,n,h=>by simp at h;subst h;simp only[oj,Qk] at n;exact n.1
 | d'::ds,j + 1,n,h=>by simp only[oj,Qk] at n;exact gM (ds:=ds) (j:=j) n.2 (by simpa using h)
section
variable {P:Program} {w:World} {K:Frag} {A B:Addr->Prop} {H:Hp} {s:Shared}
theorem aP (hok:eK P w H s.heap) {a:Addr} {xs:List V} (h:H a=some (.lst xs)):∃its:List Value,ax xs its/\s.heap.IsList a its.toArray:=by obtain⟨_,its,n,r,t⟩:=hok a _ h;exact⟨its,r,⟨_,t,rfl,_,rfl⟩⟩
theorem Gp (hok:eK P w H s.heap):∀(n:Nat) (d e:Dt) (x y:V) (u v:Value) (R:Around),dp d<=n->pl d=true->pl e=true->R.units + n < cLine->RV K A H x d->RV K B H y e->RelV x u->RelV y v->EqAt R s u v (bT d e):=by
 intro n
 induction n with
 | zero=>
  intro d e x y u v R hd jA fH hu hx hy rx ry;cases d with
  | bq=>
   have:=hx.aI;subst this;cases rx;cases e with
   | bq=>have:=hy.aI;subst this;cases ry;exact EqAt.same _
   | bl j=>have:=hy.aC;subst this;cases ry;exact EqAt.none_bool j
   | int j=>have:=hy.int_inv;subst this;obtain⟨t',rfl⟩:=ry;exact EqAt.none_int j t'
   | str j=>have:=hy.str_inv;subst this;obtain⟨t',rfl⟩:=ry;exact EqAt.none_str j t'
   | tup j=>obtain⟨b,ys,q,f1,f2⟩:=hy.ah;subst q;cases ry;obtain⟨its,_,ht⟩:=Mx.ay hok f1;exact EqAt.none_tuple ht (by lia)
   | lst j=>obtain⟨b,ys,q,f1,_,f2⟩:=hy.lst_inv;subst q;cases ry;obtain⟨its,_,ht⟩:=aP hok f1;exact EqAt.none_list ht (by lia)
   | _=>simp[pl] at fH
  | bl i=>
   have:=hx.aC;subst this;cases rx;cases e with
   | bq=>have:=hy.aI;subst this;cases ry;exact EqAt.bool_none _
   | bl j=>have:=hy.aC;subst this;cases ry;exact EqAt.bool_bool i j
   | int j=>have:=hy.int_inv;subst this;obtain⟨t',rfl⟩:=ry;exact EqAt.bool_int i j t'
   | str j=>have:=hy.str_inv;subst this;obtain⟨t',rfl⟩:=ry;exact EqAt.bool_str i j t'
   | tup j=>obtain⟨b,ys,q,f1,f2⟩:=hy.ah;subst q;cases ry;obtain⟨its,_,ht⟩:=Mx.ay hok f1;exact EqAt.bool_tuple i ht (by lia)
   | lst j=>obtain⟨b,ys,q,f1,_,f2⟩:=hy.lst_inv;subst q;cases ry;obtain⟨its,_,ht⟩:=aP hok f1;exact EqAt.bool_list i ht (by lia)
   | _=>simp[pl] at fH
  | int i=>
   have:=hx.int_inv;subst this;obtain⟨t,rfl⟩:=rx;cases e with
   | bq=>have:=hy.aI;subst this;cases ry;exact EqAt.int_none i t
   | bl j=>have:=hy.aC;subst this;cases ry;exact EqAt.int_bool i t j
   | int j=>have:=hy.int_inv;subst this;obtain⟨t',rfl⟩:=ry;exact EqAt.int_int i t j t'
   | str j=>have:=hy.str_inv;subst this;obtain⟨t',rfl⟩:=ry;exact EqAt.int_str i t j t'
   | tup j=>obtain⟨b,ys,q,f1,f2⟩:=hy.ah;subst q;cases ry;obtain⟨its,_,ht⟩:=Mx.ay hok f1;exact EqAt.int_tuple i t ht (by lia)
   | lst j=>obtain⟨b,ys,q,f1,_,f2⟩:=hy.lst_inv;subst q;cases ry;obtain⟨its,_,ht⟩:=aP hok f1;exact EqAt.int_list i t ht (by lia)
   | _=>simp[pl] at fH
  | str i=>
   have:=hx.str_inv;subst this;obtain⟨t,rfl⟩:=rx;cases e with
   | bq=>have:=hy.aI;subst this;cases ry;exact EqAt.str_none i t
   | bl j=>have:=hy.aC;subst this;cases ry;exact EqAt.str_bool i t j
   | int j=>have:=hy.int_inv;subst this;obtain⟨t',rfl⟩:=ry;exact EqAt.str_int i t j t'
   | str j=>have:=hy.str_inv;subst this;obtain⟨t',rfl⟩:=ry;exact EqAt.str_str i t j t'
   | tup j=>obtain⟨b,ys,q,f1,f2⟩:=hy.ah;subst q;cases ry;obtain⟨its,_,ht⟩:=Mx.ay hok f1;exact EqAt.str_tuple i t ht (by lia)
   | lst j=>obtain⟨b,ys,q,f1,_,f2⟩:=hy.lst_inv;subst q;cases ry;obtain⟨its,_,ht⟩:=aP hok f1;exact EqAt.str_list i t ht (by lia)
   | _=>simp[pl] at fH
  | tup ds=>unfold dp at hd;lia
  | lst ds=>unfold dp at hd;lia
  | _=>simp[pl] at jA
 | succ n ih=>
  intro d e x y u v R hd jA fH hu hx hy rx ry;cases d with
  | tup ds=>
   obtain⟨a,xs,q,e1,e2⟩:=hx.ah;subst q;cases rx;obtain⟨its,r1,ht⟩:=Mx.ay hok e1;cases e with
   | bq=>have:=hy.aI;subst this;cases ry;exact EqAt.tuple_none ht (by lia)
   | bl j=>have:=hy.aC;subst this;cases ry;exact EqAt.tuple_bool j ht (by lia)
   | int j=>have:=hy.int_inv;subst this;obtain⟨t',rfl⟩:=ry;exact EqAt.tuple_int j t' ht (by lia)
   | str j=>have:=hy.str_inv;subst this;obtain⟨t',rfl⟩:=ry;exact EqAt.tuple_str j t' ht (by lia)
   | lst j=>obtain⟨b,ys,q,f1,_,f2⟩:=hy.lst_inv;subst q;cases ry;obtain⟨aM,_,cq⟩:=aP hok f1;exact EqAt.tuple_list ht cq (by lia)
   | tup es=>
    obtain⟨b,ys,q,f1,f2⟩:=hy.ah;subst q;cases ry;obtain⟨aM,r2,cq⟩:=Mx.ay hok f1;by_cases gD:a=b
    ·subst gD;have:=RV.inj hx hy jA fH;cases this;rw[jf _ jA];exact EqAt.same _
    ·have l1:its.toArray.size=ds.length:=by rw[Ql,<-r1.length,e2.length]
     have l2:aM.toArray.size=es.length:=by rw[Ql,<-r2.length,f2.length]
     have key:=RcAt.tuples (A:=R) (e:=uK ds es) ht cq (by lia) (λj h1 h2=>?_)
     ·have q:=cT ds es;rw[<-l1,<-l2] at q;rw[q] at key;exact EqAt.of_refs gD key
     ·have gT:j < xs.length:=by rw[e2.length,<-l1];exact h1
      have mB:j < ys.length:=by rw[f2.length,<-l2];exact h2
      obtain⟨d,g1,g2⟩:=e2.get (i:=j) (x:=xs[j]) (by simp[gT]);obtain⟨e,k1,k2⟩:=f2.get (i:=j) (x:=ys[j]) (by simp[mB]);obtain⟨u,ua,ru⟩:=r1.get (i:=j) (x:=xs[j]) (by simp[gT]);obtain⟨v,A2,rv⟩:=r2.get (i:=j) (x:=ys[j]) (by simp[mB]);have eu:its.toArray[j]=u:=by simp only[List.getElem_toArray];exact(Qn.mp ua).2
      have ev:aM.toArray[j]=v:=by simp only[List.getElem_toArray];exact(Qn.mp A2).2
      rw[eu,ev,show uK ds es j=bT d e by unfold uK;rw[g1,k1]];have:=nG g1;unfold dp at hd;exact ih d e xs[j] ys[j] u v R.in1 (by lia) (gM (by simpa [pl] using jA) g1) (gM (by simpa [pl] using fH) k1) (by show R.units + 1 + n < cLine;lia) g2 k2 ru rv
   | _=>simp[pl] at fH
  | lst ds=>
   obtain⟨a,xs,q,e1,_,e2⟩:=hx.lst_inv;subst q;cases rx;obtain⟨its,r1,ht⟩:=aP hok e1;cases e with
   | bq=>have:=hy.aI;subst this;cases ry;exact EqAt.list_none ht (by lia)
   | bl j=>have:=hy.aC;subst this;cases ry;exact EqAt.list_bool j ht (by lia)
   | int j=>have:=hy.int_inv;subst this;obtain⟨t',rfl⟩:=ry;exact EqAt.list_int j t' ht (by lia)
   | str j=>have:=hy.str_inv;subst this;obtain⟨t',rfl⟩:=ry;exact EqAt.list_str j t' ht (by lia)
   | tup j=>obtain⟨b,ys,q,f1,f2⟩:=hy.ah;subst q;cases ry;obtain⟨aM,_,cq⟩:=Mx.ay hok f1;exact EqAt.list_tuple ht cq (by lia)
   | lst es=>
    obtain⟨b,ys,q,f1,_,f2⟩:=hy.lst_inv;subst q;cases ry;obtain⟨aM,r2,cq⟩:=aP hok f1;by_cases gD:a=b
    ·subst gD;have:=RV.inj hx hy jA fH;cases this;rw[jf _ jA];exact EqAt.same _
    ·have l1:its.toArray.size=ds.length:=by rw[Ql,<-r1.length,e2.length]
     have l2:aM.toArray.size=es.length:=by rw[Ql,<-r2.length,f2.length]
     have q:=cT ds es;by_cases hl:ds.length=es.length
     ·have key:=RcAt.lists (A:=R) (e:=uK ds es) ht cq (by lia) (by lia) (λj h1 h2=>?_)
      ·rw[hl,Nat.min_self,beq_self_eq_true,Bool.and_true] at q;rw[l1,hl,q] at key;exact EqAt.of_refs gD key
      ·have gT:j < xs.length:=by rw[e2.length,<-l1];exact h1
       have mB:j < ys.length:=by rw[f2.length,<-l2];exact h2
       obtain⟨d,g1,g2⟩:=e2.get (i:=j) (x:=xs[j]) (by simp[gT]);obtain⟨e,k1,k2⟩:=f2.get (i:=j) (x:=ys[j]) (by simp[mB]);obtain⟨u,ua,ru⟩:=r1.get (i:=j) (x:=xs[j]) (by simp[gT]);obtain⟨v,A2,rv⟩:=r2.get (i:=j) (x:=ys[j]) (by simp[mB]);have eu:its.toArray[j]=u:=by simp only[List.getElem_toArray];exact(Qn.mp ua).2
       have ev:aM.toArray[j]=v:=by simp only[List.getElem_toArray];exact(Qn.mp A2).2
       rw[eu,ev,show uK ds es j=bT d e by unfold uK;rw[g1,k1]];have:=nG g1;unfold dp at hd;exact ih d e xs[j] ys[j] u v R.in1 (by lia) (gM (by simpa [pl] using jA) g1) (gM (by simpa [pl] using fH) k1) (by show R.units + 1 + n < cLine;lia) g2 k2 ru rv
     ·have key:=RcAt.lists_lengths (A:=R) ht cq (by rw[l1,l2];simpa using hl) (by lia);have hb:(ds.length==es.length)=false:=by simpa using hl
      rw[hb,Bool.and_false] at q;show EqAt R s _ _ (b9 ds es);rw[<-q];exact EqAt.of_refs gD key
   | _=>simp[pl] at fH
  | _=>exact ih _ e x y u v R (by unfold dp;lia) jA fH (by lia) hx hy rx ry
end
inductive R (α:Type) where
 | ok (a:α) | ex (c:Nat) | bad
noncomputable def R.bind {α β:Type}:R α->(α->R β)->R β
 | .ok a,f=>f a
 | .ex c,_=> .ex c
 | .bad,_=> .bad
@[simp] theorem R.ao {α β:Type} (a:α) (f:α->R β):(R.ok a).bind f=f a:=rfl
noncomputable def R.nx {α:Type}:R α->R α
 | .ok a=> .ok a
 | _=> .bad
noncomputable abbrev lim:Nat:=1000000
noncomputable abbrev aj:=List (Option Dt)
noncomputable abbrev Sx:=Option (List Int)
noncomputable def ag (b:Bool) {α:Type} (r:R α):R α:=if b then r else .bad
@[simp] theorem guard_true {α:Type} (r:R α):ag true r=r:=rfl
noncomputable def qa (o:Operator) (a b:Dt):R Dt:=match o with
 | .Add=>match a,b with
  | .int i,.int j=> .ok (.int (i + j))
  | .str x,.str y=>ag (decide (x.length + y.length<=lim)) (.ok (.str (x++y)))
  | .lst x,.lst y=>ag (decide (x.length + y.length<=lim)) (.ok (.lst (x++y)))
  | .tup x,.tup y=>ag (decide (x.length + y.length<=lim)) (.ok (.tup (x++y)))
  | _,_=> .bad
 | .Sub=>match a,b with
  | .int i,.int j=> .ok (.int (i - j))
  | _,_=> .bad
 | .Mult=>match a,b with
  | .int i,.int j=>ag (decide (i.natAbs < 2 ^ 64)||decide (j.natAbs < 2 ^ 64)) (.ok (.int (i * j)))
  | _,_=> .bad
 | .FloorDiv=>match a,b with
  | .int i,.int j=>ag (decide (0 < j)&&decide (j.natAbs.log2 < 9000)) (.ok (.int (i / j)))
  | _,_=> .bad
 | .Mod=>match a,b with
  | .int i,.int j=>ag (decide (0 < j)) (.ok (.int (i % j)))
  | _,_=> .bad
 | .Pow=>match a,b with
  | .int i,.int j=>ag (decide (0<=j)&&decide (j<=1000)&&decide (i.natAbs < 2 ^ 64)) (.ok (.int (i ^ j.toNat)))
  | _,_=> .bad
 | _=> .bad
noncomputable def gd (d e:Dt):Bool:=pl d&&pl e&&decide (dp d<=100)
noncomputable def itemsOf:Dt->Option (List Dt)
 | .lst ds=>some ds
 | .tup ds=>some ds
 | .br ns=>some (ns.map Dt.int)
 | _=>none
noncomputable def bw:Dt->Option (List Dt)
 | .lst ds=>some ds
 | .tup ds=>some ds
 | _=>none
noncomputable def de:CmpOp->Dt->Dt->R Bool
 | .Eq,a,b=>ag (gd a b) (.ok (bT a b))
 | .NotEq,a,b=>ag (gd a b) (.ok (!bT a b))
 | .Lt,.int i,.int j=> .ok (decide (i < j))
 | .LtE,.int i,.int j=> .ok (decide (i<=j))
 | .Gt,.int i,.int j=> .ok (decide (j < i))
 | .GtE,.int i,.int j=> .ok (decide (j<=i))
 | _,_,_=> .bad
noncomputable def dU:Dt->R Bool
 | .bq=> .ok false
 | .bl b=> .ok b
 | .int i=> .ok (i != 0)
 | .str y=>ag (decide (y.length<=lim)) (.ok ((y.length:Int) != 0))
 | .lst ds=> .ok !ds.isEmpty
 | .tup ds=> .ok !ds.isEmpty
 | .br ds=> .ok !ds.isEmpty
 | _=> .bad
noncomputable def vf (ds:List Dt) (i:Int):R Dt:=match jE ds i with
 | some d=> .ok d
 | none=> .bad
noncomputable def dk:Dt->Dt->R Dt
 | .lst ds,.int i=>vf ds i
 | .tup ds,.int i=>vf ds i
 | .br ns,.int i=>vf (ns.map Dt.int) i
 | .str z,.int i=>ag (decide (z.length<=lim)) (match jE z.cps.toList i with | some c=> .ok (.str ⟨#[c]⟩) | none=> .bad)
 | _,_=> .bad
noncomputable def cutD {α:Type} (xs:List α) (lo hi:Option Int):List α:=(xs.drop (HT.bU xs.length 0 lo)).take (HT.bU xs.length xs.length hi - HT.bU xs.length 0 lo)
noncomputable def iN:Dt->Option Int->Option Int->R Dt
 | .lst ds,lo,hi=> .ok (.lst (cutD ds lo hi))
 | .br ds,lo,hi=> .ok (.lst (cutD (ds.map Dt.int) lo hi))
 | .tup ds,lo,hi=> .ok (.tup (cutD ds lo hi))
 | .str z,lo,hi=>ag (decide (z.length<=lim)) (.ok (.str (PySem.Txt.slice z lo hi)))
 | _,_,_=> .bad
inductive BI where
 | len | min2 | sum | sorted | tuple | list | isi (T:String) | sset | zipL
 deriving DecidableEq
noncomputable def intsOf:List Dt->Option (List Int)
 | []=>some []
 | .int i::r=>(intsOf r).map (i:: ·)
 | _=>none
noncomputable def Gb:List Dt->Option (List Bool)
 | []=>some []
 | .bl i::r=>(Gb r).map (i:: ·)
 | _=>none
noncomputable def oV (a b:Mx.D):Bool:= !Mx.D.lt b a
noncomputable def aS (ds:List Mx.D):List Mx.D:=ds.mergeSort oV
mutual
noncomputable def jQ:Mx.D->Mx.D->Bool
 | .int _,.int _=>true
 | .str _,.str _=>true
 | .tup a,.tup b=>jb a b
 | _,_=>false
noncomputable def jb:List Mx.D->List Mx.D->Bool
 | x::xs,y::ys=>jQ x y&&jb xs ys
 | _,_=>true
end
noncomputable def Hi (k:Mx.SK):Mx.D->Bool
 | .tup (.tup _::_)=>k== .tt
 | .tup (.str _::_)=>k== .ts
 | .tup (.int _::_)=>k== .ti
 | .str _=>k== .s
 | .int _=>k== .i
 | _=>false
noncomputable def gA (ds:List Mx.D):Bool:=decide (ds.length < 1000000)&&(decide (ds.length < 2)||(decide (Mx.D.bX ds<=100)&&([Mx.SK.tt,.ts,.ti,.s,.i].any λk=>ds.all (Hi k))&&ds.all λd=>ds.all λe=>jQ d e))
noncomputable def dd:List Str->List Str
 | []=>[]
 | x::r=>if x∈dd r then dd r else x::dd r
noncomputable def LJ:List Int->Int
 | []=>0
 | [a]=>a
 | a::r=>min a (LJ r)
noncomputable def strsOf:List Dt->Option (List Str)
 | []=>some []
 | .str i::r=>(strsOf r).map (i:: ·)
 | _=>none
noncomputable def dR (xs ys:List Dt):List Dt:=List.zipWith (λx y=>Dt.tup [x,y]) xs ys
noncomputable def dG:Nat->List Dt->List Dt
 | _,[]=>[]
 | i,x::xs=>Dt.tup [.int i,x]::dG (i + 1) xs
noncomputable def vG (T:String):Dt->R Bool
 | .str _=> .ok (T=="str")
 | .int _=> .ok (T=="int")
 | .bl _=> .ok (T=="bool"||T=="int")
 | .lst _=> .ok (T=="list")
 | .tup _=> .ok (T=="tuple")
 | .bq=> .ok false
 | _=> .bad
noncomputable def d5 (b:BI) (as:List Dt):R Dt:=match b with
 | .len=>match as with
  | [.str x]=>ag (decide (x.length<=lim)) (.ok (.int x.length))
  | [.lst ds]=> .ok (.int ds.length)
  | [.tup ds]=> .ok (.int ds.length)
  | [.br ds]=> .ok (.int ds.length)
  | _=> .bad
 | .min2=>match as with
  | [.int i,.int j]=> .ok (.int (if j < i then j else i))
  | _=> .bad
 | .sum=>match as with
  | [.lst ds]=>match intsOf ds with | some ns=> .ok (.int ns.sum) | none=> .bad
  | _=> .bad
 | .sorted=>match as with
  | [d]=>match itemsOf d with
   | some ds=>match lz ds with
    | some ms=>ag (gA ms) (.ok (.lst (aa (aS ms))))
    | none=> .bad
   | none=> .bad
  | _=> .bad
 | .tuple=>match as with
  | [.lst ds]=> .ok (.tup ds)
  | [.tup ds]=> .ok (.tup ds)
  | _=> .bad
 | .list=>match as with
  | [.lst ds]=> .ok (.lst ds)
  | [.tup ds]=> .ok (.lst ds)
  | [.br ns]=> .ok (.lst (ns.map Dt.int))
  | _=> .bad
 | .isi T=>match as with
  | [d]=>(vG T d).bind λb=> .ok (.bl b)
  | _=> .bad
 | .sset=>match as with
  | [d]=>match bw d with
   | some ds=>match strsOf ds with
    | some ys=>ag (decide (ys.length < 4000)) (.ok (.lst (aa (aS ((dd ys).map Mx.D.str)))))
    | none=> .bad
   | none=> .bad
  | _=> .bad
 | .zipL=>match as with
  | [a,b]=>match bw a,bw b with
   | some xs,some ys=>ag (decide (xs.length<=lim)) (.ok (.lst (dR xs ys)))
   | _,_=> .bad
  | _=> .bad
noncomputable def isStr:Dt->Bool
 | .str _=>true
 | _=>false
inductive MT where
 | join
 deriving DecidableEq
noncomputable def Pc:MT->Dt->List Dt->R Dt
 | .join,.str z,[.lst ds]=>match strsOf ds with
  | some ys=>ag (decide ((ys.map (·.length)).sum + ys.length * z.length<=lim)) (.ok (.str (PySem.Txt.join z ys)))
  | none=> .bad
 | _,_,_=> .bad
inductive Tg where
 | nm (i:Nat) | tp (is:List Nat)
 deriving DecidableEq
mutual
inductive C where
 | con (d:Dt) | var (i:Nat) | mvr (i:Nat)
 | bin (o:Operator) (a b:C) | cmp (o:CmpOp) (a b:C) | ch (o p:CmpOp) (a b c:C)
 | neg (a:C) | nt (a:C) | and (a b:C) | or (a b:C) | ite (t a b:C)
 | idx (a b:C) | sliL (a lo:C) | sliH (a hi:C) | sliB (a lo hi:C)
 | tup (es:Cs) | lst (es:Cs)
 | call (f:Nat) (es:Cs) (ds:List Dt) | callD (f:Nat) (es:Cs) | popD | lenD
 | bi (b:BI) (es:Cs) | mt (m:MT) (o:C) (es:Cs)
 | comp (cv:List (Option Nat)) (it:o6) (tg:Tg) (ts:Cs) (e:C)
 | ml (cv:List (Option Nat)) (it:o6) (tg:Tg) (ts:Cs) (jN:o6) (oY:Tg) (FQ:Cs) (e:C)
inductive Cs where
 | nil | cons (c:C) (cs:Cs)
inductive o6 where
 | seq (c:C) | rng1 (c:C) | rng2 (a b:C) | zip (a b:C) | enum (c:C)
end
noncomputable def Cs.all (p:C->Bool):Cs->Bool
 | .nil=>true
 | .cons c cs=>p c&&cs.all p
mutual
noncomputable def lk:C->Nat
 | .mvr _=>1
 | .and _ _=>0
 | .or _ _=>0
 | .ite _ a b=>max (lk a) (lk b)
 | .idx a _=>if lk a<=1 then 0 else 2
 | .sliL a _=>if lk a<=1 then 0 else 2
 | .sliH a _=>if lk a<=1 then 0 else 2
 | .sliB a _ _=>if lk a<=1 then 0 else 2
 | .bin _ a b=>if lk a<=1/\lk b<=1 then 0 else 2
 | .tup es=>if mI es=0 then 0 else 2
 | .lst es=>if mI es=0 then 0 else 2
 | .call _ es _=>if mI es=0 then 0 else 2
 | .callD _ es=>if mI es=0 then 0 else 2
 | .bi _ es=>if mI es<=1 then 0 else 2
 | _=>0
noncomputable def mI:Cs->Nat
 | .nil=>0
 | .cons c cs=>max (lk c) (mI cs)
end
noncomputable def vK:o6->Nat
 | .seq c=>lk c
 | .zip a b=>max (lk a) (lk b)
 | .enum c=>lk c
 | _=>0
noncomputable def fresh (fr:Nat->Bool):C->Bool
 | .lst _=>true
 | .comp ..=>true
 | .ml ..=>true
 | .bi .sorted _=>true
 | .bi .list _=>true
 | .bi .sset _=>true
 | .bi .zipL _=>true
 | .bin ..=>true
 | .call f _ _=>fr f
 | .callD f _=>fr f
 | _=>false
noncomputable def eI (c:C) (d:Dt):Bool:=decide (lk c=0)||lI d
noncomputable def jw (c:C) (d:Dt):Bool:=decide (lk c=0)||match d with | .lst ds=>iI ds | d=>lI d
noncomputable def fG (ρ:aj) (i:Nat):R Dt:=match ρ[i]? with
 | some (some d)=> .ok d
 | _=> .bad
noncomputable def lK (cv:List (Option Nat)) (ρ:aj):aj:=cv.map λo=>o.bind λi=>(ρ[i]?).join
noncomputable def dX:List Nat->List Dt->aj->R aj
 | [],[],ρ=> .ok ρ
 | i::is,d::ds,ρ=>dX is ds (ρ.set i (some d))
 | _,_,_=> .bad
noncomputable def cM:Tg->Dt->aj->R aj
 | .nm i,d,ρ=> .ok (ρ.set i (some d))
 | .tp is,.tup ds,ρ=>dX is ds ρ
 | _,_,_=> .bad
noncomputable def a9 (f:Dt->Sx->R (List Dt×Sx)):List Dt->Sx->R (List Dt×Sx)
 | [],S=> .ok ([],S)
 | x::xs,S=>(f x S).bind λp=>(a9 f xs p.2).bind λq=> .ok (p.1++q.1,q.2)
noncomputable def bJ (tg:Tg) (Mz:aj->Sx->R (Bool×Sx)) (body:aj->Sx->R (List Dt×Sx)) (ρ:aj) (d:Dt) (S:Sx):R (List Dt×Sx):=
 (cM tg d ρ).bind λρ1=>(Mz ρ1 S).bind λb=>if b.1 then body ρ1 b.2 else .ok ([],b.2)
noncomputable def bj (lo:Int) (n:Nat):List Dt:=(List.range n).map λ(i:Nat)=>Dt.int (lo + (i:Int))
noncomputable abbrev FT:=Nat->List Dt->Sx->R (Dt×Sx)
mutual
noncomputable def ev (F:FT):C->aj->Sx->R (Dt×Sx)
 | .con d,_,S=> .ok (d,S)
 | .var i,ρ,S=>(fG ρ i).bind λd=> .ok (d,S)
 | .mvr i,ρ,S=>(fG ρ i).bind λd=> .ok (d,S)
 | .bin o a b,ρ,S=>(ev F a ρ S).bind λx=>(ev F b ρ x.2).bind λy=>(qa o x.1 y.1).bind λd=> .ok (d,y.2)
 | .cmp o a b,ρ,S=>(ev F a ρ S).bind λx=>(ev F b ρ x.2).bind λy=>(de o x.1 y.1).bind λd=> .ok (.bl d,y.2)
 | .ch o p a b c,ρ,S=>(ev F a ρ S).bind λx=>(ev F b ρ x.2).bind λy=>(de o x.1 y.1).bind λd=>
   if d then(ev F c ρ y.2).bind λz=>(de p y.1 z.1).bind λe=> .ok (.bl e,z.2) else .ok (.bl false,y.2)
 | .neg a,ρ,S=>(ev F a ρ S).bind λx=>match x.1 with | .int i=> .ok (.int (-i),x.2) | _=> .bad
 | .nt a,ρ,S=>(ev F a ρ S).bind λx=>match x.1 with | .bl b=> .ok (.bl !b,x.2) | _=> .bad
 | .and a b,ρ,S=>(ev F a ρ S).bind λx=>match x.1 with | .bl true=>(ev F b ρ x.2).bind λy=>(match y.1 with | .bl c=> .ok (.bl c,y.2) | _=> .bad) | .bl false=> .ok (.bl false,x.2) | _=> .bad
 | .or a b,ρ,S=>(ev F a ρ S).bind λx=>match x.1 with | .bl false=>(ev F b ρ x.2).bind λy=>(match y.1 with | .bl c=> .ok (.bl c,y.2) | _=> .bad) | .bl true=> .ok (.bl true,x.2) | _=> .bad
 | .ite t a b,ρ,S=>(dw F t ρ S).bind λx=>if x.1 then ev F a ρ x.2 else ev F b ρ x.2
 | .idx a b,ρ,S=>(ev F a ρ S).bind λx=>(ev F b ρ x.2).bind λy=>(dk x.1 y.1).bind λd=> .ok (d,y.2)
 | .sliL a l,ρ,S=>(ev F a ρ S).bind λx=>(ev F l ρ x.2).bind λy=>match y.1 with | .int i=>(iN x.1 (some i) none).bind λd=> .ok (d,y.2) | _=> .bad
 | .sliH a h,ρ,S=>(ev F a ρ S).bind λx=>(ev F h ρ x.2).bind λy=>match y.1 with | .int i=>(iN x.1 none (some i)).bind λd=> .ok (d,y.2) | _=> .bad
 | .sliB a l h,ρ,S=>(ev F a ρ S).bind λx=>(ev F l ρ x.2).bind λy=>match y.1 with | .int i=>(ev F h ρ y.2).bind λz=>(match z.1 with | .int j=>(iN x.1 (some i) (some j)).bind λd=> .ok (d,z.2) | _=> .bad) | _=> .bad
 | .tup es,ρ,S=>(gq F es ρ S).bind λx=>ag (decide (x.1.length<=lim)) (.ok (.tup x.1,x.2))
 | .lst es,ρ,S=>(gq F es ρ S).bind λx=>ag (decide (x.1.length<=lim)) (.ok (.lst x.1,x.2))
 | .call f es ds,ρ,S=>(gq F es ρ S).bind λx=>(F f (x.1++ds) none).bind λy=> .ok (y.1,x.2)
 | .callD f es,ρ,S=>ag S.isSome ((gq F es ρ S).bind λx=>match x.2 with | some s=>F f x.1 (some s) | none=> .bad)
 | .popD,_,S=>match S with | some ns=>ag (!ns.isEmpty) (.ok (.int (ns.getLastD 0),some ns.dropLast)) | none=> .bad
 | .lenD,_,S=>match S with | some ns=> .ok (.int ns.length,S) | none=> .bad
 | .bi b es,ρ,S=>(gq F es ρ S).bind λx=>(d5 b x.1).bind λd=> .ok (d,x.2)
 | .mt m o es,ρ,S=>(ev F o ρ S).bind λy=>ag (isStr y.1) ((gq F es ρ y.2).bind λx=>(Pc m y.1 x.1).bind λd=> .ok (d,x.2))
 | .comp cv it tg ts e,ρ,S=>(fj F it ρ S).bind λx=>ag (decide (x.1.length<=lim)&&(decide (vK it<=1)||iY F it ρ S))
   ((a9 (bJ tg (cV F ts) (λρ1 S1=>(ev F e ρ1 S1).bind λy=>ag (eI e y.1) (.ok ([y.1],y.2))) (lK cv ρ)) x.1 x.2).bind λq=> .ok (.lst q.1,q.2))
 | .ml cv it tg ts jN oY FQ e,ρ,S=>(fj F it ρ S).bind λx=>ag (decide (x.1.length<=lim)&&(decide (vK it<=1)||iY F it ρ S))
   ((a9 (bJ tg (cV F ts) (λρ1 S1=>(fj F jN ρ1 S1).bind λx2=>ag (decide (x.1.length * x2.1.length<=lim)&&decide (vK jN=0))
    (a9 (bJ oY (cV F FQ) (λρ2 S2=>(ev F e ρ2 S2).bind λy=>ag (eI e y.1) (.ok ([y.1],y.2))) ρ1) x2.1 x2.2)) (lK cv ρ)) x.1 x.2).bind λq=> .ok (.lst q.1,q.2))
noncomputable def dw (F:FT):C->aj->Sx->R (Bool×Sx)
 | .nt a,ρ,S=>(dw F a ρ S).bind λx=> .ok (!x.1,x.2)
 | .and a b,ρ,S=>(dw F a ρ S).bind λx=>if x.1 then dw F b ρ x.2 else .ok (false,x.2)
 | .or a b,ρ,S=>(dw F a ρ S).bind λx=>if x.1 then .ok (true,x.2) else dw F b ρ x.2
 | .cmp o a b,ρ,S=>(ev F a ρ S).bind λx=>(ev F b ρ x.2).bind λy=>(de o x.1 y.1).bind λd=> .ok (d,y.2)
 | .ch o p a b c,ρ,S=>(ev F a ρ S).bind λx=>(ev F b ρ x.2).bind λy=>(de o x.1 y.1).bind λd=>
   if d then(ev F c ρ y.2).bind λz=>(de p y.1 z.1).bind λe=> .ok (e,z.2) else .ok (false,y.2)
 | .var i,ρ,S=>(fG ρ i).bind λd=>(dU d).bind λb=> .ok (b,S)
 | .mvr i,ρ,S=>(fG ρ i).bind λd=>(dU d).bind λb=> .ok (b,S)
 | .call f es ds,ρ,S=>(gq F es ρ S).bind λx=>(F f (x.1++ds) none).bind λy=>(dU y.1).bind λb=> .ok (b,x.2)
 | .callD f es,ρ,S=>ag S.isSome ((gq F es ρ S).bind λx=>match x.2 with | some s=>(F f x.1 (some s)).bind λy=>(dU y.1).bind λb=> .ok (b,y.2) | none=> .bad)
 | .bi b es,ρ,S=>(gq F es ρ S).bind λx=>(d5 b x.1).bind λd=>(dU d).bind λb=> .ok (b,x.2)
 | .idx a b,ρ,S=>(ev F a ρ S).bind λx=>(ev F b ρ x.2).bind λy=>(dk x.1 y.1).bind λd=>(dU d).bind λb=> .ok (b,y.2)
 | _,_,_=> .bad
noncomputable def gq (F:FT):Cs->aj->Sx->R (List Dt×Sx)
 | .nil,_,S=> .ok ([],S)
 | .cons c cs,ρ,S=>(ev F c ρ S).bind λx=>(gq F cs ρ x.2).bind λy=> .ok (x.1::y.1,y.2)
noncomputable def cV (F:FT):Cs->aj->Sx->R (Bool×Sx)
 | .nil,_,S=> .ok (true,S)
 | .cons c .nil,ρ,S=>dw F c ρ S
 | _,_,_=> .bad
noncomputable def fj (F:FT):o6->aj->Sx->R (List Dt×Sx)
 | .seq c,ρ,S=>(ev F c ρ S).bind λx=>match itemsOf x.1 with | some ds=> .ok (ds,x.2) | none=> .bad
 | .rng1 c,ρ,S=>(ev F c ρ S).bind λx=>match x.1 with | .int j=>ag (decide (j<=lim)&&decide (-lim<=j)) (.ok (bj 0 j.toNat,x.2)) | _=> .bad
 | .rng2 a b,ρ,S=>(ev F a ρ S).bind λx=>(ev F b ρ x.2).bind λy=>match x.1,y.1 with
   | .int i,.int j=>ag (decide (i.natAbs<=lim)&&decide (j.natAbs<=lim)) (.ok (bj i (j - i).toNat,y.2)) | _,_=> .bad
 | .zip a b,ρ,S=>(ev F a ρ S).bind λx=>(ev F b ρ x.2).bind λy=>match bw x.1,bw y.1 with
   | some xs,some ys=> .ok (dR xs ys,y.2) | _,_=> .bad
 | .enum c,ρ,S=>(ev F c ρ S).bind λx=>match bw x.1 with | some ds=> .ok (dG 0 ds,x.2) | none=> .bad
noncomputable def iY (F:FT):o6->aj->Sx->Bool
 | .seq c,ρ,S=>match ev F c ρ S with | .ok x=>lI x.1 | _=>false
 | _,_,_=>false
end
inductive Fl where
 | next | brk | cnt | ret (d:Dt)
mutual
inductive T where
 | asg (i:Nat) (c:C) | asgM (i:Nat) (c:C) | asgD (i:Nat) (c:C) | mov (i j:Nat) | asgT (is:List Nat) (c:C)
 | aug (i:Nat) (o:Operator) (c:C)
 | vY (i:Nat) (k v:C) | app (i:Nat) (c:C) | xtd (i:Nat) (c:C) | clr (i:Nat)
 | Kl (c:C) | ret (c:C) | retN | ifs (t:C) (a b:Ts) | fr (tg:Tg) (it:o6) (b:Ts) | wh (t:C) (b:Ts)
 | rs (k:Nat) (vs:List Nat) | tr (b:Ts) (Ae:List (Option Bool)) | brk | cnt | pas
inductive Ts where
 | nil | cons (t:T) (ts:Ts)
end
noncomputable abbrev RS:=R (Fl×aj×Sx)
noncomputable def LK (ρ:aj) (i:Nat):Bool:=match ρ[i]? with
 | some (some (.int n))=>decide (0<=n)&&decide (n < 10 ^ 19)
 | _=>false
noncomputable def forL (tg:Tg) (body:aj->Sx->RS):List Dt->aj->Sx->RS
 | [],ρ,S=> .ok (.next,ρ,S)
 | x::xs,ρ,S=>(cM tg x ρ).bind λρ1=>(body ρ1 S).bind λp=>match p.1 with
  | .next=>forL tg body xs p.2.1 p.2.2
  | .cnt=>forL tg body xs p.2.1 p.2.2
  | .brk=> .ok (.next,p.2)
  | .ret d=> .ok (.ret d,p.2)
noncomputable def MC (test:aj->Sx->R (Bool×Sx)) (body:aj->Sx->RS):Nat->aj->Sx->RS
 | 0,_,_=> .bad
 | n + 1,ρ,S=>(test ρ S).bind λb=>if b.1 then(body ρ b.2).bind λp=>match p.1 with
   | .next=>MC test body n p.2.1 p.2.2
   | .cnt=>MC test body n p.2.1 p.2.2
   | .brk=> .ok (.next,p.2)
   | .ret d=> .ok (.ret d,p.2)
  else .ok (.next,ρ,b.2)
noncomputable def IJ:Nat:=100000
noncomputable def isLE (ρ:aj) (i:Nat):Bool:=match ρ[i]? with
 | some (some (.lst _))=>true
 | _=>false
noncomputable def pS (ρ:aj) (i:Nat):R (List Dt):=match ρ[i]? with
 | some (some (.lst ds))=> .ok ds
 | _=> .bad
mutual
noncomputable def ex (F:FT):T->aj->Sx->RS
 | .asg i c,ρ,S=>(ev F c ρ S).bind λx=>ag (eI c x.1) (.ok (.next,ρ.set i (some x.1),x.2))
 | .asgM i c,ρ,S=>(ev F c ρ S).bind λx=>ag (jw c x.1) (.ok (.next,ρ.set i (some x.1),x.2))
 | .asgD i c,ρ,S=>(ev F c ρ S).bind λx=>match x.1 with | .lst ds=>(match intsOf ds with | some ns=>ag (decide (lk c=0)&&decide (i < ρ.length)) (.ok (.next,ρ.set i none,some ns)) | none=> .bad) | _=> .bad
 | .mov i j,ρ,S=>(fG ρ j).bind λd=> .ok (.next,(ρ.set j none).set i (some d),S)
 | .asgT is c,ρ,S=>(ev F c ρ S).bind λx=>ag (eI c x.1) ((cM (.tp is) x.1 ρ).bind λρ1=> .ok (.next,ρ1,x.2))
 | .aug i o c,ρ,S=>(fG ρ i).bind λd=>(ev F c ρ S).bind λx=>match d,x.1 with
   | .int _,.int _=>(qa o d x.1).bind λz=> .ok (.next,ρ.set i (some z),x.2)
   | .str _,.str _=>(qa o d x.1).bind λz=> .ok (.next,ρ.set i (some z),x.2)
   | _,_=> .bad
 | .vY i k v,ρ,S=>ag (isLE ρ i) ((ev F v ρ S).bind λx=>(ev F k ρ x.2).bind λy=>ag (eI v x.1) ((pS ρ i).bind λds=>match y.1 with
   | .int n=>(match mG ds.length n with | some j=> .ok (.next,ρ.set i (some (.lst (ds.set j x.1))),y.2) | none=> .bad) | _=> .bad))
 | .app i c,ρ,S=>ag (isLE ρ i) ((ev F c ρ S).bind λx=>ag (eI c x.1) ((pS ρ i).bind λds=>ag (decide (ds.length<=lim)) (.ok (.next,ρ.set i (some (.lst (ds++[x.1]))),x.2))))
 | .xtd i c,ρ,S=>ag (isLE ρ i) ((ev F c ρ S).bind λx=>ag (decide (lk c<=1)) ((pS ρ i).bind λds=>match x.1 with
   | .lst es=>ag (decide (ds.length + es.length<=lim)) (.ok (.next,ρ.set i (some (.lst (ds++es))),x.2)) | _=> .bad))
 | .clr i,ρ,S=>(pS ρ i).bind λ_=> .ok (.next,ρ.set i (some (.lst [])),S)
 | .Kl c,ρ,S=>(ev F c ρ S).bind λx=> .ok (.next,ρ,x.2)
 | .ret c,ρ,S=>(ev F c ρ S).bind λx=> .ok (.ret x.1,ρ,x.2)
 | .retN,ρ,S=> .ok (.ret .bq,ρ,S)
 | .ifs t a b,ρ,S=>(dw F t ρ S).bind λx=>if x.1 then aO F a ρ x.2 else aO F b ρ x.2
 | .fr tg it b,ρ,S=>(fj F it ρ S).bind λx=>ag (decide (vK it=0)||iY F it ρ S) (forL tg (aO F b) x.1 ρ x.2)
 | .wh t b,ρ,S=>MC (dw F t) (aO F b) IJ ρ S
 | .rs k vs,ρ,S=>ag (vs.all (LK ρ)) (.ex k)
 | .tr b Ae,ρ,S=>ag S.isNone (match aO F b ρ S with | .ex k=>(match Ae[k]? with | some (some v)=> .ok (.ret (.bl v),ρ,S) | _=> .bad) | r=>r)
 | .brk,ρ,S=> .ok (.brk,ρ,S)
 | .cnt,ρ,S=> .ok (.cnt,ρ,S)
 | .pas,ρ,S=> .ok (.next,ρ,S)
noncomputable def aO (F:FT):Ts->aj->Sx->RS
 | .nil,ρ,S=> .ok (.next,ρ,S)
 | .cons t ts,ρ,S=>(ex F t ρ S).bind λp=>match p.1 with
  | .next=>aO F ts p.2.1 p.2.2
  | f=> .ok (f,p.2)
end
structure Fn where
 ps:Nat
 n:Nat
 bb:Bool
 body:Ts
noncomputable def gv (F:FT) (f:Fn) (args:List Dt) (S:Sx):R (Dt×Sx):=
 if args.length + (if f.bb then 1 else 0)=f.ps then
  (aO F f.body ((if f.bb then[none] else[])++args.map some++List.replicate (f.n - f.ps) none) S).bind λp=>match p.1 with
   | .next=> .ok (.bq,p.2.2)
   | .ret d=> .ok (d,p.2.2)
   | _=> .bad
 else .bad
noncomputable def aF (fs:List Fn):Nat->FT
 | 0,_,_,_=> .bad
 | n + 1,f,args,S=>match fs[f]? with
  | some g=>gv (aF fs n) g args S
  | none=> .bad
structure G where
 fns:List (Str×Nat×List Dt×Bool)
 cons:List (Str×Dt)
 bls:List Str
 fr:Nat->Bool
 xs:List (Str×List (Str×Bool))
structure Gm where
 names:List (Str×NameKind)
 N:List Str
 M:List Bool
 δ:Option Nat
noncomputable def zD:Option NameKind->Bool
 | some .local=>true
 | some .cell=>true
 | some .free=>true
 | _=>false
noncomputable def yD:Option NameKind->Bool
 | some .local=>true
 | some .cell=>true
 | _=>false
noncomputable def vv:Option NameKind->Bool
 | some .globalImplicit=>true
 | _=>false
noncomputable def Cv (x:Str):List Str->Option Nat
 | []=>none
 | y::r=>if x==y then some 0 else(Cv x r).map (· + 1)
theorem nU {x:Str}:∀{l:List Str} {i:Nat},Cv x l=some i->l[i]?=some x
 | [],i,h=>by simp[Cv] at h
 | y::r,i,h=>by
  unfold Cv at h;by_cases e:(x==y)=true
  ·rw[if_pos e] at h;cases h;have:x=y:=by simpa using e
   simp[this]
  ·rw[if_neg e] at h;obtain⟨j,h1,rfl⟩:=QA.mp h;simp[nU h1]
noncomputable def d9 (x:Str):Bool:= !(x==("__debug__":Str))&& !(x==("__classdict__":Str))&& !(x==("__name__":Str))
noncomputable def slot (Γ:Gm) (x:Str):Option Nat:=if zD (Γ.names.lookup x)&&d9 x then Cv x Γ.N else none
noncomputable def fO (Γ:Gm) (x:Str):Option Nat:=if yD (Γ.names.lookup x)&&d9 x then Cv x Γ.N else none
noncomputable def fm (Γ:Gm) (i:Nat):Bool:=Γ.M[i]?==some true
noncomputable def plainS (Γ:Gm) (i:Nat):Bool:= !fm Γ i&& !(Γ.δ==some i)
noncomputable def rE (x:Str):List (Str×Nat×List Dt×Bool)->Option (Nat×Nat×List Dt×Bool)
 | []=>none
 | y::r=>if x==y.1 then some (0,y.2) else(rE x r).map λp=>(p.1 + 1,p.2)
noncomputable def wZ:List (Str×Nat×BI):=[("len",1,.len),("min",2,.min2),("sum",1,.sum),("sorted",1,.sorted),("tuple",1,.tuple),("list",1,.list)]
noncomputable def qZ (x:Str) (n:Nat):Option BI:=(wZ.find? λt=>t.1==x&&t.2.1==n).map (·.2.2)
noncomputable def sV (x:Str):Option String:=
 if x==("str":Str) then some "str" else if x==("int":Str) then some "int" else if x==("bool":Str) then some "bool"
 else if x==("list":Str) then some "list" else if x==("tuple":Str) then some "tuple" else none
noncomputable def p9 (Γ:Gm):Expr->Option Nat
 | .Name x _=>(fO Γ x).bind λi=>if plainS Γ i then some i else none
 | _=>none
noncomputable def jc (Γ:Gm):List Expr->Option (List Nat)
 | []=>some []
 | e::es=>(p9 Γ e).bind λi=>(jc Γ es).map (i:: ·)
noncomputable def ra (Γ:Gm):Expr->Option Tg
 | .Name x p=>(p9 Γ (.Name x p)).map .nm
 | .Tuple es _ _=>(jc Γ es).map .tp
 | _=>none
noncomputable def Kg (names:List (Str×NameKind)):List Str:=names.filterMap λp=>if zD (some p.2) then some p.1 else none
noncomputable def C7 (names:List (Str×NameKind)) (N:List Str):List (Option Nat):=names.filterMap λp=>match p.2 with
 | .local=>some none
 | .free=>some (Cv p.1 N)
 | .cell=>some none
 | _=>none
noncomputable def C8 (cv:List (Option Nat)) (M:List Bool):List Bool:=cv.map λo=>o.elim false λi=>M[i]?==some true
noncomputable def FL (δ:Option Nat):List (Option Nat)->Option Nat
 | []=>none
 | o::r=>if δ.isSome&&o==δ then some 0 else(FL δ r).map (· + 1)
noncomputable def aX (Γ:Gm) (sc:Scope):Gm×List (Option Nat):=
 let cv:=C7 sc.names Γ.N
 (⟨sc.names,Kg sc.names,C8 cv Γ.M,FL Γ.δ cv⟩,cv)
noncomputable def aT:Tg->List Nat
 | .nm i=>[i]
 | .tp is=>is
noncomputable def xa (names on:List (Str×NameKind)) (N' Nn:List Str) (cv:List (Option Nat)):Bool:=
 names.all (λy=>names.lookup y.1==some y.2&&(y.2 != .free||(on.lookup y.1==some .cell||on.lookup y.1==some .free)))&&
 (cv.length==N'.length)&&(List.range cv.length).all (λj=>match cv[j]? with
  | some (some i)=>(match N'[j]? with
   | some x=>Nn[i]?==some x&&names.lookup x==some .free
   | none=>false)
  | _=>true)
noncomputable def Ly (Γ:Gm):Expr->Bool
 | .Name x _=>match slot Γ x with
  | some i=>Γ.δ==some i
  | none=>false
 | _=>false
mutual
noncomputable def cE:Nat->G->Gm->Expr->Option C
 | 0,_,_,_=>none
 | n + 1,g,Γ,e=>match e with
  | .Constant k _ _=>match k with
   | .int i=>some (.con (.int i))
   | .str x=>some (.con (.str x))
   | .bool x=>some (.con (.bl x))
   | .none=>some (.con .bq)
   | _=>none
  | .Name x _=>match slot Γ x with
   | some i=>if Γ.δ==some i then none else if fm Γ i then some (.mvr i) else some (.var i)
   | none=>if vv (Γ.names.lookup x)&&d9 x then(g.cons.lookup x).map .con else none
  | .BinOp a o b _=>(cE n g Γ a).bind λa'=>(cE n g Γ b).bind λb'=>some (.bin o a' b')
  | .UnaryOp o a _=>(cE n g Γ a).bind λa'=>match o with
   | .USub=>some (.neg a')
   | .Not=>some (.nt a')
   | _=>none
  | .BoolOp o vs _=>cB n g Γ o vs
  | .Compare a os bs _=>match os,bs with
   | [o],[b]=>(cE n g Γ a).bind λa'=>(cE n g Γ b).bind λb'=>some (.cmp o a' b')
   | _,_=>none
  | .Subscript a b _=>match b with
   | .Slice (some l) none none _=>(cE n g Γ a).bind λa'=>(cE n g Γ l).bind λl'=>some (.sliL a' l')
   | .Slice none (some h) none _=>(cE n g Γ a).bind λa'=>(cE n g Γ h).bind λh'=>some (.sliH a' h')
   | b=>(cE n g Γ a).bind λa'=>(cE n g Γ b).bind λb'=>some (.idx a' b')
  | .Tuple es _ _=>(wx n g Γ es).bind λdf=>some (.tup df)
  | .List es _=>(wx n g Γ es).bind λdf=>some (.lst df)
  | .Call f as ks pos=>match f,as,ks with
   | .Name f _,a::as,[]=>tI n g Γ f a as
   | _,_,_=>none
  | .ListComp elt gens sc _=>
   let b:=aX Γ sc
   if sc.kind== .function then(match gens with
   | [⟨tg,it,ifs,0⟩]=>(cI n g Γ tg it).bind λjM=>(ra b.1 tg).bind λlq=>(Ax n g b.1 ifs).bind λoJ=>(cE n g b.1 elt).bind λe'=>
    if xa sc.names Γ.names b.1.N Γ.N b.2&&decide b.1.N.Nodup then some (.comp b.2 jM lq oJ e') else none
   | [⟨tg,it,ifs,0⟩,⟨oY,jN,cD,0⟩]=>(cI n g Γ tg it).bind λjM=>(ra b.1 tg).bind λlq=>(Ax n g b.1 ifs).bind λoJ=>(cI n g b.1 oY jN).bind λpP=>(ra b.1 oY).bind λlu=>(Ax n g b.1 cD).bind λqB=>(cE n g b.1 elt).bind λe'=>
    if xa sc.names Γ.names b.1.N Γ.N b.2&&decide b.1.N.Nodup&&(aT lu).all (λi=> !(aT lq).contains i) then some (.ml b.2 jM lq oJ pP lu qB e') else none
   | _=>none) else none
  | _=>none
noncomputable def wx:Nat->G->Gm->List Expr->Option Cs
 | 0,_,_,_=>none
 | n + 1,g,Γ,es=>match es with
  | []=>some .nil
  | e::es=>(cE n g Γ e).bind λe'=>(wx n g Γ es).bind λdf=>some (.cons e' df)
noncomputable def Ax:Nat->G->Gm->List Expr->Option Cs
 | 0,_,_,_=>none
 | n + 1,g,Γ,es=>match es with
  | []=>some .nil
  | [e]=>(cE n g Γ e).bind λe'=>some (.cons e' .nil)
  | _=>none
noncomputable def cB:Nat->G->Gm->BoolOp->List Expr->Option C
 | 0,_,_,_,_=>none
 | n + 1,g,Γ,o,es=>match es with
  | [e]=>cE n g Γ e
  | e::es=>(cE n g Γ e).bind λe'=>(cB n g Γ o es).bind λdf=>some (match o with | .And=> .and e' df | .Or=> .or e' df)
  | []=>none
noncomputable def cI:Nat->G->Gm->Expr->Expr->Option o6
 | 0,_,_,_,_=>none
 | n + 1,g,Γ,tg,e=>match e with
  | .Call (.Name f p) [a] [] q=>if f==("range":Str) then(if vv (Γ.names.lookup f)&&g.bls.contains f then(cE n g Γ a).bind λa'=>some (.rng1 a') else none)
   else if f==("enumerate":Str) then(match tg with
    | .Tuple ..=>if vv (Γ.names.lookup f)&&g.bls.contains f then(cE n g Γ a).bind λa'=>some (.enum a') else none
    | _=>none)
   else(cE n g Γ (.Call (.Name f p) [a] [] q)).bind λc=>some (.seq c)
  | .Call (.Name f p) [a,b] [] q=>if f==("range":Str) then(if vv (Γ.names.lookup f)&&g.bls.contains f then none else none)
   else if f==("zip":Str) then(match tg with
    | .Tuple ..=>if vv (Γ.names.lookup f)&&g.bls.contains f then(cE n g Γ a).bind λa'=>(cE n g Γ b).bind λb'=>some (.zip a' b') else none
    | _=>none)
   else(cE n g Γ (.Call (.Name f p) [a,b] [] q)).bind λc=>some (.seq c)
  | e=>(cE n g Γ e).bind λc=>some (.seq c)
noncomputable def tI:Nat->G->Gm->Str->Expr->List Expr->Option C
 | 0,_,_,_,_,_=>none
 | n + 1,g,Γ,f,a,as=>if vv (Γ.names.lookup f)&&d9 f then(match rE f g.fns with
  | some (k,np,fB,bb)=>if bb then(match a with
    | .Name x _=>match slot Γ x with
     | some i=>if Γ.δ==some i&&as.length + 1==np then none else none
     | none=>none
    | _=>none)
   else if as.length + 1<=np&&np - (as.length + 1)<=fB.length then(wx n g Γ (a::as)).bind λes=>some (.call k es (fB.drop (fB.length - (np - (as.length + 1))))) else none
  | none=>if g.bls.contains f then
    (if f==("len":Str)&&Ly Γ a&&as.isEmpty then none
    else if f==("isinstance":Str) then(match as with
     | [.Name t _]=>if vv (Γ.names.lookup t)&&g.bls.contains t then(sV t).bind λT=>(cE n g Γ a).bind λa'=>some (.bi (.isi T) (.cons a' .nil)) else none
     | _=>none)
    else match a,as with
     | .Call (.Name r _) [b] [] _,[]=>if r==("reversed":Str) then none
       else if r==("set":Str) then(if vv (Γ.names.lookup r)&&g.bls.contains r&&f==("sorted":Str) then(cE n g Γ b).bind λb'=>some (.bi .sset (.cons b' .nil)) else none)
       else(qZ f (as.length + 1)).bind λi=>(wx n g Γ (a::as)).bind λes=>some (.bi i es)
     | .Call (.Name r _) [b,c] [] _,[]=>if r==("zip":Str) then(if vv (Γ.names.lookup r)&&g.bls.contains r&&f==("list":Str) then(wx n g Γ [b,c]).bind λes=>some (.bi .zipL es) else none)
       else(qZ f (as.length + 1)).bind λi=>(wx n g Γ (a::as)).bind λes=>some (.bi i es)
     | _,_=>(qZ f (as.length + 1)).bind λi=>(wx n g Γ (a::as)).bind λes=>some (.bi i es))
    else none)
  else none
end
section
variable {P:Program} {w:World} {K:Frag} {A B:Addr->Prop} {H:Hp} {s:Shared}
theorem elts (hok:eK P w H s.heap) {Ah gU:List V} {i1 i2:List Dt} {cY aM:List Value} {R:Around} {n:Nat} (g1:ak K A H Ah i1) (g2:ak K B H gU i2) (r1:ax Ah cY) (r2:ax gU aM) (l1:cY.toArray.size=i1.length) (l2:aM.toArray.size=i2.length)
  (p1:oj i1=true) (p2:oj i2=true) (hd:rj i1<=n) (hu:R.in1.units + n < cLine) (j:Nat) (h1:j < cY.toArray.size) (h2:j < aM.toArray.size):EqAt R.in1 s cY.toArray[j] aM.toArray[j] (uK i1 i2 j):=by
 have gT:j < Ah.length:=by rw[g1.length,<-l1];exact h1
 have mB:j < gU.length:=by rw[g2.length,<-l2];exact h2
 obtain⟨d,c1,c2⟩:=g1.get (i:=j) (x:=Ah[j]) (by simp[gT]);obtain⟨e,k1,k2⟩:=g2.get (i:=j) (x:=gU[j]) (by simp[mB]);obtain⟨u,ua,ru⟩:=r1.get (i:=j) (x:=Ah[j]) (by simp[gT]);obtain⟨v,A2,rv⟩:=r2.get (i:=j) (x:=gU[j]) (by simp[mB]);have eu:cY.toArray[j]=u:=by simp only[List.getElem_toArray];exact(Qn.mp ua).2
 have ev:aM.toArray[j]=v:=by simp only[List.getElem_toArray];exact(Qn.mp A2).2
 rw[eu,ev,show uK i1 i2 j=bT d e by unfold uK;rw[c1,k1]];exact Gp hok n d e Ah[j] gU[j] u v R.in1 (Qw (nG c1) hd) (gM p1 c1) (gM p2 k1) hu c2 k2 ru rv
theorem HQ (hok:eK P w H s.heap) (n:Nat) (d e:Dt) (x y:V) (u v:Value) (R:Around) (hd:dp d<=n + 1) (jA:pl d=true) (fH:pl e=true) (hu:R.units + n + 1 < cLine) (hx:RV K A H x d) (hy:RV K B H y e) (rx:RelV x u) (ry:RelV y v):RcAt R s u v (bT d e):=by
 cases d with
 | bq=>
  have:=hx.aI;subst this;cases rx;cases e with
  | bq=>have:=hy.aI;subst this;cases ry;exact RcAt.none_none
  | bl i2=>have:=hy.aC;subst this;cases ry;exact RcAt.none_bool i2
  | int i2=>have:=hy.int_inv;subst this;obtain⟨t2,rfl⟩:=ry;exact RcAt.none_int i2 t2
  | str i2=>have:=hy.str_inv;subst this;obtain⟨t2,rfl⟩:=ry;exact RcAt.none_str i2 t2
  | tup i2=>obtain⟨a2,gU,q2,f2,g2⟩:=hy.ah;subst q2;cases ry;obtain⟨aM,r2,cq⟩:=Mx.ay hok f2;exact RcAt.none_tuple cq (by lia)
  | lst i2=>obtain⟨a2,gU,q2,f2,_,g2⟩:=hy.lst_inv;subst q2;cases ry;obtain⟨aM,r2,cq⟩:=aP hok f2;exact RcAt.none_list cq (by lia)
  | _=>simp[pl] at fH
 | bl i1=>
  have:=hx.aC;subst this;cases rx;cases e with
  | bq=>have:=hy.aI;subst this;cases ry;exact RcAt.bool_none i1
  | bl i2=>have:=hy.aC;subst this;cases ry;exact RcAt.bool_bool i1 i2
  | int i2=>have:=hy.int_inv;subst this;obtain⟨t2,rfl⟩:=ry;exact RcAt.bool_int i1 i2 t2
  | str i2=>have:=hy.str_inv;subst this;obtain⟨t2,rfl⟩:=ry;exact RcAt.bool_str i1 i2 t2
  | tup i2=>obtain⟨a2,gU,q2,f2,g2⟩:=hy.ah;subst q2;cases ry;obtain⟨aM,r2,cq⟩:=Mx.ay hok f2;exact RcAt.bool_tuple i1 cq (by lia)
  | lst i2=>obtain⟨a2,gU,q2,f2,_,g2⟩:=hy.lst_inv;subst q2;cases ry;obtain⟨aM,r2,cq⟩:=aP hok f2;exact RcAt.bool_list i1 cq (by lia)
  | _=>simp[pl] at fH
 | int i1=>
  have:=hx.int_inv;subst this;obtain⟨t1,rfl⟩:=rx;cases e with
  | bq=>have:=hy.aI;subst this;cases ry;exact RcAt.int_none i1 t1
  | bl i2=>have:=hy.aC;subst this;cases ry;exact RcAt.int_bool i1 t1 i2
  | int i2=>have:=hy.int_inv;subst this;obtain⟨t2,rfl⟩:=ry;exact RcAt.int_int i1 t1 i2 t2
  | str i2=>have:=hy.str_inv;subst this;obtain⟨t2,rfl⟩:=ry;exact RcAt.int_str i1 t1 i2 t2
  | tup i2=>obtain⟨a2,gU,q2,f2,g2⟩:=hy.ah;subst q2;cases ry;obtain⟨aM,r2,cq⟩:=Mx.ay hok f2;exact RcAt.int_tuple i1 t1 cq (by lia)
  | lst i2=>obtain⟨a2,gU,q2,f2,_,g2⟩:=hy.lst_inv;subst q2;cases ry;obtain⟨aM,r2,cq⟩:=aP hok f2;exact RcAt.int_list i1 t1 cq (by lia)
  | _=>simp[pl] at fH
 | str i1=>
  have:=hx.str_inv;subst this;obtain⟨t1,rfl⟩:=rx;cases e with
  | bq=>have:=hy.aI;subst this;cases ry;exact RcAt.str_none i1 t1
  | bl i2=>have:=hy.aC;subst this;cases ry;exact RcAt.str_bool i1 t1 i2
  | int i2=>have:=hy.int_inv;subst this;obtain⟨t2,rfl⟩:=ry;exact RcAt.str_int i1 t1 i2 t2
  | str i2=>have:=hy.str_inv;subst this;obtain⟨t2,rfl⟩:=ry;exact RcAt.str_str i1 t1 i2 t2
  | tup i2=>obtain⟨a2,gU,q2,f2,g2⟩:=hy.ah;subst q2;cases ry;obtain⟨aM,r2,cq⟩:=Mx.ay hok f2;exact RcAt.str_tuple i1 t1 cq (by lia)
  | lst i2=>obtain⟨a2,gU,q2,f2,_,g2⟩:=hy.lst_inv;subst q2;cases ry;obtain⟨aM,r2,cq⟩:=aP hok f2;exact RcAt.str_list i1 t1 cq (by lia)
  | _=>simp[pl] at fH
 | tup i1=>
  obtain⟨a1,Ah,q1,f1,g1⟩:=hx.ah;subst q1;cases rx;obtain⟨cY,r1,iz⟩:=Mx.ay hok f1;cases e with
  | bq=>have:=hy.aI;subst this;cases ry;exact RcAt.tuple_none iz (by lia)
  | bl i2=>have:=hy.aC;subst this;cases ry;exact RcAt.tuple_bool i2 iz (by lia)
  | int i2=>have:=hy.int_inv;subst this;obtain⟨t2,rfl⟩:=ry;exact RcAt.tuple_int i2 t2 iz (by lia)
  | str i2=>have:=hy.str_inv;subst this;obtain⟨t2,rfl⟩:=ry;exact RcAt.tuple_str i2 t2 iz (by lia)
  | tup i2=>
   obtain⟨a2,gU,q2,f2,g2⟩:=hy.ah;subst q2;cases ry;obtain⟨aM,r2,cq⟩:=Mx.ay hok f2;have l1:cY.toArray.size=i1.length:=by rw[Ql,<-r1.length,g1.length]
   have l2:aM.toArray.size=i2.length:=by rw[Ql,<-r2.length,g2.length]
   have key:=RcAt.tuples (A:=R) (e:=uK i1 i2) iz cq (by lia) (elts hok g1 g2 r1 r2 l1 l2 (by simpa [pl] using jA) (by simpa [pl] using fH) (n:=n) (by unfold dp at hd;lia) (by show R.units + 1 + n < cLine;lia));have q:=cT i1 i2;rw[<-l1,<-l2] at q;rw[q] at key;exact key
  | lst i2=>obtain⟨a2,gU,q2,f2,_,g2⟩:=hy.lst_inv;subst q2;cases ry;obtain⟨aM,r2,cq⟩:=aP hok f2;exact RcAt.tuple_list iz cq (by lia)
  | _=>simp[pl] at fH
 | lst i1=>
  obtain⟨a1,Ah,q1,f1,_,g1⟩:=hx.lst_inv;subst q1;cases rx;obtain⟨cY,r1,iz⟩:=aP hok f1;cases e with
  | bq=>have:=hy.aI;subst this;cases ry;exact RcAt.list_none iz (by lia)
  | bl i2=>have:=hy.aC;subst this;cases ry;exact RcAt.list_bool i2 iz (by lia)
  | int i2=>have:=hy.int_inv;subst this;obtain⟨t2,rfl⟩:=ry;exact RcAt.list_int i2 t2 iz (by lia)
  | str i2=>have:=hy.str_inv;subst this;obtain⟨t2,rfl⟩:=ry;exact RcAt.list_str i2 t2 iz (by lia)
  | tup i2=>obtain⟨a2,gU,q2,f2,g2⟩:=hy.ah;subst q2;cases ry;obtain⟨aM,r2,cq⟩:=Mx.ay hok f2;exact RcAt.list_tuple iz cq (by lia)
  | lst i2=>
   obtain⟨a2,gU,q2,f2,_,g2⟩:=hy.lst_inv;subst q2;cases ry;obtain⟨aM,r2,cq⟩:=aP hok f2;have l1:cY.toArray.size=i1.length:=by rw[Ql,<-r1.length,g1.length]
   have l2:aM.toArray.size=i2.length:=by rw[Ql,<-r2.length,g2.length]
   have q:=cT i1 i2;by_cases hl:i1.length=i2.length
   ·have key:=RcAt.lists (A:=R) (e:=uK i1 i2) iz cq (by lia) (by lia) (elts hok g1 g2 r1 r2 l1 l2 (by simpa [pl] using jA) (by simpa [pl] using fH) (n:=n) (by unfold dp at hd;lia) (by show R.units + 1 + n < cLine;lia));rw[hl,Nat.min_self,beq_self_eq_true,Bool.and_true] at q;rw[l1,hl,q] at key;exact key
   ·have key:=RcAt.lists_lengths (A:=R) iz cq (by rw[l1,l2];simpa using hl) (by lia);have hb:(i1.length==i2.length)=false:=by simpa using hl
    rw[hb,Bool.and_false] at q;show RcAt R s _ _ (b9 i1 i2);rw[<-q];exact key
  | _=>simp[pl] at fH
 | _=>simp[pl] at jA
theorem BJ (hok:eK P w H s.heap) (n:Nat) (d e:Dt) (x y:V) (u v:Value) (R:Around) (hd:dp d<=n + 1) (jA:pl d=true) (fH:pl e=true) (hu:R.units + n + 1 < cLine) (hx:RV K A H x d) (hy:RV K B H y e) (rx:RelV x u) (ry:RelV y v):RcNeAt R s u v (!bT d e):=by
 cases d with
 | bq=>
  have:=hx.aI;subst this;cases rx;cases e with
  | bq=>have:=hy.aI;subst this;cases ry;exact RcNeAt.none_none
  | bl i2=>have:=hy.aC;subst this;cases ry;exact RcNeAt.none_bool i2
  | int i2=>have:=hy.int_inv;subst this;obtain⟨t2,rfl⟩:=ry;exact RcNeAt.none_int i2 t2
  | str i2=>have:=hy.str_inv;subst this;obtain⟨t2,rfl⟩:=ry;exact RcNeAt.none_str i2 t2
  | tup i2=>obtain⟨a2,gU,q2,f2,g2⟩:=hy.ah;subst q2;cases ry;obtain⟨aM,r2,cq⟩:=Mx.ay hok f2;exact RcNeAt.none_tuple cq (by lia)
  | lst i2=>obtain⟨a2,gU,q2,f2,_,g2⟩:=hy.lst_inv;subst q2;cases ry;obtain⟨aM,r2,cq⟩:=aP hok f2;exact RcNeAt.none_list cq (by lia)
  | _=>simp[pl] at fH
 | bl i1=>
  have:=hx.aC;subst this;cases rx;cases e with
  | bq=>have:=hy.aI;subst this;cases ry;exact RcNeAt.bool_none i1
  | bl i2=>have:=hy.aC;subst this;cases ry;exact RcNeAt.bool_bool i1 i2
  | int i2=>have:=hy.int_inv;subst this;obtain⟨t2,rfl⟩:=ry;exact RcNeAt.bool_int i1 i2 t2
  | str i2=>have:=hy.str_inv;subst this;obtain⟨t2,rfl⟩:=ry;exact RcNeAt.bool_str i1 i2 t2
  | tup i2=>obtain⟨a2,gU,q2,f2,g2⟩:=hy.ah;subst q2;cases ry;obtain⟨aM,r2,cq⟩:=Mx.ay hok f2;exact RcNeAt.bool_tuple i1 cq (by lia)
  | lst i2=>obtain⟨a2,gU,q2,f2,_,g2⟩:=hy.lst_inv;subst q2;cases ry;obtain⟨aM,r2,cq⟩:=aP hok f2;exact RcNeAt.bool_list i1 cq (by lia)
  | _=>simp[pl] at fH
 | int i1=>
  have:=hx.int_inv;subst this;obtain⟨t1,rfl⟩:=rx;cases e with
  | bq=>have:=hy.aI;subst this;cases ry;exact RcNeAt.int_none i1 t1
  | bl i2=>have:=hy.aC;subst this;cases ry;exact RcNeAt.int_bool i1 t1 i2
  | int i2=>have:=hy.int_inv;subst this;obtain⟨t2,rfl⟩:=ry;exact RcNeAt.int_int i1 t1 i2 t2
  | str i2=>have:=hy.str_inv;subst this;obtain⟨t2,rfl⟩:=ry;exact RcNeAt.int_str i1 t1 i2 t2
  | tup i2=>obtain⟨a2,gU,q2,f2,g2⟩:=hy.ah;subst q2;cases ry;obtain⟨aM,r2,cq⟩:=Mx.ay hok f2;exact RcNeAt.int_tuple i1 t1 cq (by lia)
  | lst i2=>obtain⟨a2,gU,q2,f2,_,g2⟩:=hy.lst_inv;subst q2;cases ry;obtain⟨aM,r2,cq⟩:=aP hok f2;exact RcNeAt.int_list i1 t1 cq (by lia)
  | _=>simp[pl] at fH
 | str i1=>
  have:=hx.str_inv;subst this;obtain⟨t1,rfl⟩:=rx;cases e with
  | bq=>have:=hy.aI;subst this;cases ry;exact RcNeAt.str_none i1 t1
  | bl i2=>have:=hy.aC;subst this;cases ry;exact RcNeAt.str_bool i1 t1 i2
  | int i2=>have:=hy.int_inv;subst this;obtain⟨t2,rfl⟩:=ry;exact RcNeAt.str_int i1 t1 i2 t2
  | str i2=>have:=hy.str_inv;subst this;obtain⟨t2,rfl⟩:=ry;exact RcNeAt.str_str i1 t1 i2 t2
  | tup i2=>obtain⟨a2,gU,q2,f2,g2⟩:=hy.ah;subst q2;cases ry;obtain⟨aM,r2,cq⟩:=Mx.ay hok f2;exact RcNeAt.str_tuple i1 t1 cq (by lia)
  | lst i2=>obtain⟨a2,gU,q2,f2,_,g2⟩:=hy.lst_inv;subst q2;cases ry;obtain⟨aM,r2,cq⟩:=aP hok f2;exact RcNeAt.str_list i1 t1 cq (by lia)
  | _=>simp[pl] at fH
 | tup i1=>
  obtain⟨a1,Ah,q1,f1,g1⟩:=hx.ah;subst q1;cases rx;obtain⟨cY,r1,iz⟩:=Mx.ay hok f1;cases e with
  | bq=>have:=hy.aI;subst this;cases ry;exact RcNeAt.tuple_none iz (by lia)
  | bl i2=>have:=hy.aC;subst this;cases ry;exact RcNeAt.tuple_bool i2 iz (by lia)
  | int i2=>have:=hy.int_inv;subst this;obtain⟨t2,rfl⟩:=ry;exact RcNeAt.tuple_int i2 t2 iz (by lia)
  | str i2=>have:=hy.str_inv;subst this;obtain⟨t2,rfl⟩:=ry;exact RcNeAt.tuple_str i2 t2 iz (by lia)
  | tup i2=>
   obtain⟨a2,gU,q2,f2,g2⟩:=hy.ah;subst q2;cases ry;obtain⟨aM,r2,cq⟩:=Mx.ay hok f2;have l1:cY.toArray.size=i1.length:=by rw[Ql,<-r1.length,g1.length]
   have l2:aM.toArray.size=i2.length:=by rw[Ql,<-r2.length,g2.length]
   have key:=RcNeAt.tuples (A:=R) (e:=uK i1 i2) iz cq (by lia) (elts hok g1 g2 r1 r2 l1 l2 (by simpa [pl] using jA) (by simpa [pl] using fH) (n:=n) (by unfold dp at hd;lia) (by show R.units + 1 + n < cLine;lia));have q:=cT i1 i2;rw[<-l1,<-l2] at q;rw[q] at key;exact key
  | lst i2=>obtain⟨a2,gU,q2,f2,_,g2⟩:=hy.lst_inv;subst q2;cases ry;obtain⟨aM,r2,cq⟩:=aP hok f2;exact RcNeAt.tuple_list iz cq (by lia)
  | _=>simp[pl] at fH
 | lst i1=>
  obtain⟨a1,Ah,q1,f1,_,g1⟩:=hx.lst_inv;subst q1;cases rx;obtain⟨cY,r1,iz⟩:=aP hok f1;cases e with
  | bq=>have:=hy.aI;subst this;cases ry;exact RcNeAt.list_none iz (by lia)
  | bl i2=>have:=hy.aC;subst this;cases ry;exact RcNeAt.list_bool i2 iz (by lia)
  | int i2=>have:=hy.int_inv;subst this;obtain⟨t2,rfl⟩:=ry;exact RcNeAt.list_int i2 t2 iz (by lia)
  | str i2=>have:=hy.str_inv;subst this;obtain⟨t2,rfl⟩:=ry;exact RcNeAt.list_str i2 t2 iz (by lia)
  | tup i2=>obtain⟨a2,gU,q2,f2,g2⟩:=hy.ah;subst q2;cases ry;obtain⟨aM,r2,cq⟩:=Mx.ay hok f2;exact RcNeAt.list_tuple iz cq (by lia)
  | lst i2=>
   obtain⟨a2,gU,q2,f2,_,g2⟩:=hy.lst_inv;subst q2;cases ry;obtain⟨aM,r2,cq⟩:=aP hok f2;have l1:cY.toArray.size=i1.length:=by rw[Ql,<-r1.length,g1.length]
   have l2:aM.toArray.size=i2.length:=by rw[Ql,<-r2.length,g2.length]
   have q:=cT i1 i2;by_cases hl:i1.length=i2.length
   ·have key:=RcNeAt.lists (A:=R) (e:=uK i1 i2) iz cq (by lia) (by lia) (elts hok g1 g2 r1 r2 l1 l2 (by simpa [pl] using jA) (by simpa [pl] using fH) (n:=n) (by unfold dp at hd;lia) (by show R.units + 1 + n < cLine;lia));rw[hl,Nat.min_self,beq_self_eq_true,Bool.and_true] at q;rw[l1,hl,q] at key;exact key
   ·have key:=RcNeAt.lists_lengths (A:=R) iz cq (by rw[l1,l2];simpa using hl) (by lia);have hb:(i1.length==i2.length)=false:=by simpa using hl
    rw[hb,Bool.and_false] at q;show RcNeAt R s _ _ (!b9 i1 i2);rw[<-q];exact key
  | _=>simp[pl] at fH
 | _=>simp[pl] at jA
end
end Rx
end
section
namespace HT
open PySem PyProof.Rows
section
variable {prog:Program} {w:World} {A:Around} {E:Value->Shared->Prop} {s:Shared}
theorem gg {t sl:Addr} {items:Array Value} {vl vu:Value} {lo hi:Option Int} {Q:Value->Shared->Prop} (ht:IsTup s.heap t items) (hs:s.heap.IsSliceOf sl vl vu .none) (pl:IsPart vl lo) (pu:IsPart vu hi)
  (hw:bU items.size 0 lo=0/\bU items.size items.size hi=items.size) (h:Q (.ref t) s) (iy:items.size<=sizeLine):wpAny (model prog w) A (getItem (.ref t) (.ref sl)) Q E s:=by
 obtain⟨os,DG,AQ,yc⟩:=id hs;have KQ:s.TypeIs (.ref sl) "slice":=⟨os,DG,AQ⟩;unfold getItem
 try with_reducible refine wpAny_holding ?_
 first | refine Qg (Qj ?_) | skip
 refine Qg (wpAny_sequenceKey ht.typeIs (by decide) ?_);refine Qg (wpAny_callSpecial?_slot (name:=Str.ofString "__getitem__") ht.typeIs PyProof.Rows.slot_tuple_getitem
  (wpAny_call_entry PyProof.Rows.slot_tuple_getitem ht.typeIs entry_tuple_getitem ?_ (args_tuple_getitem _ _)))
 show wpAny _ _ (Builtin.Tuple.tupleItemsOf (.ref t) >>=_) _ _ s;refine Qg (tupleItemsOf_ ht ?_);refine Qg (wpAny_typeOf KQ ?_);rw[if_pos (by decide)];refine Qg (eG hs pl pu ?_);show wpAny _ _ (if (((bU items.size 0 lo:Nat):Int)==0&&(1:Int)==1&&(bU items.size items.size hi - bU items.size 0 lo)==items.size)=true then _ else _) _ _ s;rw[if_pos (by rw[hw.1,hw.2];simp)];refine Qg (Qg (wpAny_typeOf ht.typeIs (Qj ?_)));rw[if_pos (by decide)];refine Qg (wpAny_rule ?_);exact Qj ⟨_,rfl,Qj h⟩
end
end HT
namespace Rx
open PySem PySem.W PySem.Spec PyProof.Rows L2 PySem.SeqAt
noncomputable abbrev N0:Addr->Prop:=λ_=>False
noncomputable def ft (K:Frag) (A:Addr->Prop) (H:Hp) (v:V):Dt->Prop
 | .lst ds=>∃a xs,v= .ref a/\H a=some (.lst xs)/\ak K A H xs ds
 | d=>RV K A H v d
noncomputable def lJ (K:Frag) (A:Addr->Prop) (H:Hp):List V->List Dt->Prop
 | [],[]=>True
 | x::xs,d::ds=>ft K A H x d/\lJ K A H xs ds
 | _,_=>False
section
variable {K:Frag} {A B:Addr->Prop} {H H':Hp}
theorem RV.one {v d} (h:RV K A H v d):ft K A H v d:=by
 cases d with
 | lst ds=>obtain⟨a,xs,h1,h2,_,h3⟩:=h.lst_inv;exact⟨a,xs,h1,h2,h3⟩
 | _=>exact h
theorem ft.ext {X:Addr->Prop} {v d} (h:ft K A H v d) (e:aW X H H') (hX:∀b,X b->A b) (hv:∀ds a,d= .lst ds->v= .ref a->¬X a):ft K A H' v d:=by
 cases d with
 | lst ds=>obtain⟨a,xs,h1,h2,h3⟩:=h;exact⟨a,xs,h1,e.kp _ _ h2 (hv ds a rfl h1),h3.mono e hX λ_ z=>z⟩
 | _=>exact RV.mono e hX (λ_ z=>z) h
theorem ak.ones:∀{vs ds},ak K A H vs ds->lJ K A H vs ds
 | [],[],_=>trivial
 | [],_::_,h=>by unfold ak at h;exact h.elim
 | _::_,[],h=>by unfold ak at h;exact h.elim
 | _::_,_::_,h=>by unfold ak at h;exact⟨h.1.one,h.2.ones⟩
end
structure PR (K:Frag) (fr:Bool) (xs:List V) (ds:List Dt) (H:Hp) (d:Dt) (v:V) (H':Hp):Prop where
 same:bE H H'
 val:∀A:Addr->Prop,(∀a,A a->∃o,H a=some o)->lJ K A H xs ds->RV K A H' v d
 fk:fr=true->∀es,d= .lst es->∃a ys,v= .ref a/\H a=none/\H' a=some (.lst ys)/\∀A:Addr->Prop,(∀a,A a->∃o,H a=some o)->lJ K A H xs ds->ak K (λb=>A b\/b=a) H' ys es
noncomputable def rP (K:Frag) (fr:Bool) (f:List Dt->R Dt):List V->Hp->VK->Prop:=λxs H Q=>∃ds d,ak K N0 H xs ds/\f ds= .ok d/\∀v H',PR K fr xs ds H d v H'->Q v H'
section
variable {K:Frag} {fr:Bool} {xs:List V} {ds:List Dt} {H H':Hp} {d:Dt} {v:V}
noncomputable def oX:Dt->Bool
 | .bq | .bl _ | .int _ | .str _=>true
 | _=>false
noncomputable def qO:Dt->V
 | .bl b=> .bl b
 | .int b=> .int b
 | .str b=> .str b
 | _=> .bq
theorem qk {A:Addr->Prop} (h:oX d=true):RV K A H (qO d) d:=by
 cases d with
 | bq=>exact RV.gI
 | bl b=>exact RV.pW
 | int b=>exact RV.dI
 | str b=>exact RV.jd
 | _=>simp[oX] at h
theorem PR.sc (h:oX d=true):PR K fr xs ds H d (qO d) H:=⟨bE.refl _,λA _ _=>qk h,λ_ es e=>by subst e;simp[oX] at h⟩
theorem PR.pY {p:Addr} {ys:List V} {es:List Dt} (hp:H p=none) (h:∀A:Addr->Prop,lJ K A H xs ds->ak K A H ys es):PR K fr xs ds H (.lst es) (.ref p) (upd H p (.lst ys)):=by
 have s:=Mx.cJ hp (.lst ys);refine⟨s,λA hA q=>RV.d8 aB (λz=>?_) ((h A q).same s),λ_ df e=>?_⟩
 ·obtain⟨o,e⟩:=hA p z;rw[hp] at e;cases e
 ·cases e;exact⟨p,ys,rfl,hp,aB,λA hA q=>((h A q).avoid hp).same s⟩
theorem PR.D7 {p:Addr} {ys:List V} {es:List Dt} (hp:H p=none) (h:∀A:Addr->Prop,lJ K A H xs ds->ak K A H ys es):PR K fr xs ds H (.tup es) (.ref p) (upd H p (.tup ys)):=by have s:=Mx.cJ hp (.tup ys);exact⟨s,λA hA q=>RV.dm aB ((h A q).same s),λ_ df e=>by cases e⟩
theorem PR.uh {p:Addr} {ys:List V} {es:List Dt} (hp:H p=some (.tup ys)) (h:∀A:Addr->Prop,lJ K A H xs ds->ak K A H ys es):PR K fr xs ds H (.tup es) (.ref p) H:=
 ⟨bE.refl _,λA hA q=>RV.dm hp (h A q),λ_ df e=>by cases e⟩
theorem b8:lim<=sizeLine:=by rw[sizeLine_eq];decide
theorem bg {b:Bool} {α:Type} {r:R α} {a:α} (h:ag b r= .ok a):b=true/\r= .ok a:=by
 cases b with
 | true=>exact⟨rfl,h⟩
 | false=>cases h
theorem ft.aP {A:Addr->Prop} {a:Addr} {xs:List V} {es:List Dt} (h:ft K A H (.ref a) (.lst es)) (e:H a=some (.lst xs)):ak K A H xs es:=by obtain⟨b,ys,q,h1,h2⟩:=h;cases q;rw[e] at h1;cases h1;exact h2
theorem ft.ay {A:Addr->Prop} {a:Addr} {xs:List V} {es:List Dt} (h:ft K A H (.ref a) (.tup es)) (e:H a=some (.tup xs)):ak K A H xs es:=by obtain⟨b,ys,q,h1,h2⟩:=RV.ah h;cases q;rw[e] at h1;cases h1;exact h2
end
section
variable {X:Cx}
noncomputable def r2 (K:Frag) (f:Dt->Dt->R Dt):R2:=λx y H Q=>∃d e z,RV K N0 H x d/\RV K N0 H y e/\f d e= .ok z/\∀v H',PR K true [x,y] [d,e] H z v H'->Q v H'
theorem mN {i:Int} (h:i.natAbs < 2 ^ 64): -(2 ^ 64) < i/\i < 2 ^ 64:=by lia
theorem Ee:lF X (binaryOp .FloorDiv) (rI (λ_ j=>0 < j/\j.natAbs.log2 < 9000) λi j=> .int (i / j)):=Hx λi j _ _ _ _ _ hc q=>by have h1:(0:Int) < j:=hc.1;exact floordiv_int (by lia) (by rw[Int.fdiv_eq_ediv_of_nonneg i (by lia)];exact q) (.inl (PyProof.noPylong_of_log2 hc.2))
theorem Ed (o:Operator):lF X (binaryOp o) (r2 X.K (qa o)):=by
 intro pins s σ H x y v u Q I rx ry h;obtain⟨d,e,z,hx,hy,he,q⟩:=h;have GU:=b8;unfold qa at he;split at he
 ·split at he
  ·rename_i i j;cases he;exact Ec pins s σ H x y v u Q I rx ry ⟨i,j,hx.int_inv,hy.int_inv,q _ _ (PR.sc (d:= .int _) rfl)⟩
  ·rename_i i j;obtain⟨g,he⟩:=bg he;cases he;exact su pins s σ H x y v u Q I rx ry ⟨i,j,hx.str_inv,hy.str_inv,Qw (Qm g) GU,q _ _ (PR.sc (d:= .str _) rfl)⟩
  ·rename_i i j;obtain⟨g,he⟩:=bg he;cases he;obtain⟨a,xs,rfl,h1,_,h2⟩:=hx.lst_inv;obtain⟨b,ys,rfl,k1,_,k2⟩:=hy.lst_inv;refine fM pins s σ H _ _ v u Q I rx ry ⟨a,b,xs,ys,rfl,rfl,h1,k1,?_,λp hp=>q _ _ (PR.pY hp λA w=>?_)⟩
   ·rw[h2.length,k2.length];exact Qw (Qm g) GU
   ·exact(ft.aP w.1 h1).append (ft.aP w.2.1 k1)
  ·rename_i i j;obtain⟨g,he⟩:=bg he;cases he;obtain⟨a,xs,rfl,h1,h2⟩:=hx.ah;obtain⟨b,ys,rfl,k1,k2⟩:=hy.ah;by_cases hd:xs=[]
   ·subst hd;cases h2.eD;cases rx;cases ry;obtain⟨its,r1,p1,_⟩:=I.tuple (eL.of h1);obtain⟨aM,r2,p2,_⟩:=I.tuple (eL.of k1);cases r1;obtain⟨⟨cls,dd,data,sl⟩,ho,hc,n,AU⟩:=p1;obtain⟨⟨Gg,zU,data2,wB⟩,oR,vx,n2,rH⟩:=p2;simp only at hc AU vx rH;subst hc AU vx rH;exact concat_meets ⟨_,ho,rfl⟩ ⟨_,oR,rfl⟩ noFill_tuple_add seq_tuple_add PySem.F.slot_tuple_add PySem.F.entry_tuple_add (PySem.F.args_tuple_add_2 _ _)
     (Mx.tuple_addW0 a b _ _ n n2 dd zU sl wB rfl) ⟨ho,oR,⟨.ref b,H,I,rfl,q _ _ (PR.uh k1 λA w=>ft.ay w.2.1 k1)⟩⟩
   ·refine jW pins s σ H (.ref a) (.ref b) v u Q I rx ry ⟨a,b,xs,ys,rfl,rfl,eL.of h1,eL.of k1,hd,?_,λe=>?_,λe p hp=>?_⟩
    ·rw[h2.length,k2.length];exact Qw (Qm g) GU
    ·subst e;cases k2.eD;rw[QY] at q;exact q _ _ (PR.uh h1 λA w=>ft.ay w.1 h1)
    ·exact q _ _ (PR.D7 hp λA w=>(ft.ay w.1 h1).append (ft.ay w.2.1 k1))
  ·cases he
 ·split at he
  ·rename_i i j;cases he;exact Ei pins s σ H x y v u Q I rx ry ⟨i,j,hx.int_inv,hy.int_inv,q _ _ (PR.sc (d:= .int _) rfl)⟩
  ·cases he
 ·split at he
  ·rename_i i j;obtain⟨g,he⟩:=bg he;cases he;refine Eg pins s σ H x y v u Q I rx ry ⟨i,j,hx.int_inv,hy.int_inv,?_,q _ _ (PR.sc (d:= .int _) rfl)⟩;rw[QZ] at g;rcases g with g | g
   ·exact .inl (mN (Qm g))
   ·exact .inr (mN (Qm g))
  ·cases he
 ·split at he
  ·rename_i i j;obtain⟨g,he⟩:=bg he;cases he;rw[Qk] at g;exact Ee pins s σ H x y v u Q I rx ry ⟨i,j,hx.int_inv,hy.int_inv,⟨Qm g.1,Qm g.2⟩,q _ _ (PR.sc (d:= .int _) rfl)⟩
  ·cases he
 ·split at he
  ·rename_i i j;obtain⟨g,he⟩:=bg he;cases he;exact Ef pins s σ H x y v u Q I rx ry ⟨i,j,hx.int_inv,hy.int_inv,Qm g,q _ _ (PR.sc (d:= .int _) rfl)⟩
  ·cases he
 ·split at he
  ·rename_i i j;obtain⟨g,he⟩:=bg he;cases he;rw[Qk,Qk] at g;have g1:=Qm g.1.1;have g2:=Qm g.1.2;have g3:=Qm g.2;exact Eh pins s σ H x y v u Q I rx ry ⟨i,j,hx.int_inv,hy.int_inv,⟨g1,by lia,g3⟩,q _ _ (PR.sc (d:= .int _) rfl)⟩
  ·cases he
 ·cases he
noncomputable def rC (K:Frag) (o:CmpOp):R2:=λx y H Q=>∃d e z,RV K N0 H x d/\RV K N0 H y e/\de o d e= .ok z/\Q (.bl z) H
theorem yM (o:CmpOp) (hu:X.A.units + 150 < cLine):lF X (compareOp o) (rC X.K o):=by
 intro pins s σ H x y v u Q I rx ry h;obtain⟨d,e,z,hx,hy,he,q⟩:=h;unfold de at he;split at he
 ·obtain⟨g,he⟩:=bg he;cases he;unfold gd at g;rw[Qk,Qk] at g;exact HQ I.hok 100 d e x y v u X.A (Nat.le_succ_of_le (Qm g.2)) g.1.1 g.1.2 (by lia) hx hy rx ry X.prog X.w X.xe (EP X pins σ Q) ⟨.bl _,H,I,rfl,q⟩
 ·obtain⟨g,he⟩:=bg he;cases he;unfold gd at g;rw[Qk,Qk] at g;exact BJ I.hok 100 d e x y v u X.A (Nat.le_succ_of_le (Qm g.2)) g.1.1 g.1.2 (by lia) hx hy rx ry X.prog X.w X.xe (EP X pins σ Q) ⟨.bl _,H,I,rfl,q⟩
 ·rename_i i j;cases he;exact HC pins s σ H x y v u Q I rx ry ⟨i,j,hx.int_inv,hy.int_inv,q⟩
 ·rename_i i j;cases he;exact HB pins s σ H x y v u Q I rx ry ⟨i,j,hx.int_inv,hy.int_inv,q⟩
 ·rename_i i j;cases he;exact HA pins s σ H x y v u Q I rx ry ⟨i,j,hx.int_inv,hy.int_inv,q⟩
 ·rename_i i j;cases he;exact Hz pins s σ H x y v u Q I rx ry ⟨i,j,hx.int_inv,hy.int_inv,q⟩
 ·cases he
theorem qV {ds:List Dt} {i:Int} {d:Dt} (h:vf ds i= .ok d):jE ds i=some d:=by
 unfold vf at h;split at h
 ·cases h;assumption
 ·cases h
theorem jF {K:Frag} {A:Addr->Prop} {H:Hp} {xs:List V} {ds:List Dt} {i:Int} {d:Dt} (g:ak K A H xs ds) (h:jE ds i=some d):∃v,jE xs i=some v/\RV K A H v d:=by
 unfold jE at h ⊢;rw[g.length];cases e:mG ds.length i with
 | none=>rw[e] at h;cases h
 | some j=>rw[e] at h;obtain⟨v,h1,h2⟩:=g.getD (i:=j) h;exact⟨v,h1,h2⟩
noncomputable def rX (K:Frag):R2:=λx y H Q=>∃d e z,RV K N0 H x d/\RV K N0 H y e/\dk d e= .ok z/\∀v,PR K false [x,y] [d,e] H z v H->Q v H
theorem DO:FV X (rX X.K):=by
 intro value slice pins s σ H x y v u Q I rx ry h hs;obtain⟨d,e,z,hx,hy,he,q⟩:=h;unfold dk at he;split at he
 ·rename_i ds i;obtain⟨a,xs,rfl,h1,_,h2⟩:=hx.lst_inv;have lG:=qV he;obtain⟨w,k1,k2⟩:=jF h2 lG;refine ue value slice pins s σ H _ y v u Q I rx ry ⟨a,xs,i,w,rfl,hy.int_inv,dY.of h1,k1,q w ⟨bE.refl _,λA _ q'=>?_,λz=>by cases z⟩⟩ hs;obtain⟨w',m1,m2⟩:=jF (ft.aP q'.1 h1) lG;rw[k1] at m1;cases m1;exact m2
 ·rename_i ds i;obtain⟨a,xs,rfl,h1,h2⟩:=hx.ah;have lG:=qV he;obtain⟨w,k1,k2⟩:=jF h2 lG;refine DQ value slice pins s σ H _ y v u Q I rx ry ⟨a,xs,i,w,rfl,hy.int_inv,eL.of h1,k1,q w ⟨bE.refl _,λA _ q'=>?_,λz=>by cases z⟩⟩ hs;obtain⟨w',m1,m2⟩:=jF (ft.ay q'.1 h1) lG;rw[k1] at m1;cases m1;exact m2
 ·rename_i ns i;obtain⟨a,rfl,h1⟩:=hx.jg;have lG:=qV he;have e1:jE ((ns.map V.int)) i=some (qO z)/\oX z=true:=by
   unfold jE at lG ⊢;rw[Qu] at lG ⊢;cases e:mG ns.length i with
   | none=>rw[e] at lG;cases lG
   | some j=>
    rw[e] at lG;simp only[Option.bind_some,QE] at lG ⊢;cases en:ns[j]? with
    | none=>rw[en] at lG;cases lG
    | some k=>rw[en] at lG;simp at lG;subst lG;exact⟨rfl,rfl⟩
  exact ue value slice pins s σ H _ y v u Q I rx ry ⟨a,_,i,_,rfl,hy.int_inv,h1,e1.1,q _ (PR.sc e1.2)⟩ hs
 ·rename_i w i;obtain⟨g,he⟩:=bg he;split at he
  ·rename_i c hc;cases he;exact DP value slice pins s σ H _ y v u Q I rx ry ⟨w,i,c,hx.str_inv,hy.int_inv,Qw (Qm g) b8,hc,q _ (PR.sc (d:= .str _) rfl)⟩ hs
  ·cases he
 ·cases he
noncomputable def rS (K:Frag):V->Option Int->Option Int->Hp->VK->Prop:=λx lo hi H Q=>∃d z,RV K N0 H x d/\iN d lo hi= .ok z/\∀v H',PR K true [x] [d] H z v H'->Q v H'
theorem ak.cut {K:Frag} {A:Addr->Prop} {H:Hp} {xs:List V} {ds:List Dt} {lo hi:Option Int} (g:ak K A H xs ds):ak K A H (lL xs lo hi) (cutD ds lo hi):=by unfold lL cutD;rw[g.length];exact(g.drop _).take _
theorem rh {xs:List V} {lo hi:Option Int} (h:HT.bU xs.length 0 lo=0/\HT.bU xs.length xs.length hi=xs.length):lL xs lo hi=xs:=by unfold lL;rw[h.1,h.2];simp
theorem ou:FA X (λx lo hi H Q=>∃a xs,x= .ref a/\H a=some (.tup xs)/\(HT.bU xs.length 0 lo=0/\HT.bU xs.length xs.length hi=xs.length)/\Q (.ref a) H):=by
 intro pins s σ H x v vl vu lo hi sl Q I rx hs pl pu h;obtain⟨a,xs,rfl,hx,hw,q⟩:=h;cases rx;obtain⟨its,r,ht,hz⟩:=I.tuple (eL.of hx);have hlen:its.toArray.size=xs.length:=by rw[Ql];exact r.length.symm
 refine⟨"tuple",_,PyProof.Rows.slot_tuple_getitem.lookup,ht.typeIs,?_⟩;refine HT.gg ht hs pl pu (by rw[hlen];exact hw) ⟨.ref a,H,I,rfl,q⟩ (by rw[hlen];exact hz)
theorem iA {K:Frag} {A:Addr->Prop} {H:Hp}:∀{ns:List Int},ak K A H (ns.map V.int) (ns.map Dt.int)
 | []=>ak.nil
 | _::_=>ak.cons RV.dI iA
theorem zj:FA X (rS X.K):=by
 intro pins s σ H x v vl vu lo hi sl Q I rx hs pl pu h;obtain⟨d,z,hx,he,q⟩:=h;unfold iN at he;split at he
 ·cases he;obtain⟨a,xs,rfl,h1,_,h2⟩:=hx.lst_inv;exact uQ pins s σ H _ v vl vu lo hi sl Q I rx hs pl pu ⟨a,xs,rfl,dY.of h1,λp hp=>q _ _ (PR.pY hp λA w=>(ft.aP w.1 h1).cut)⟩
 ·cases he;obtain⟨a,rfl,h1⟩:=hx.jg;exact uQ pins s σ H _ v vl vu lo hi sl Q I rx hs pl pu ⟨a,_,rfl,h1,λp hp=>q _ _ (PR.pY hp λA w=>ak.cut iA)⟩
 ·cases he;obtain⟨a,xs,rfl,h1,h2⟩:=hx.ah;by_cases hw:HT.bU xs.length 0 lo=0/\HT.bU xs.length xs.length hi=xs.length
  ·refine ou pins s σ H _ v vl vu lo hi sl Q I rx hs pl pu ⟨a,xs,rfl,h1,hw,q _ _ (PR.uh h1 λA w=>?_)⟩;have:=(ft.ay w.1 h1).cut (lo:=lo) (hi:=hi);rw[rh hw] at this;exact this
  ·exact E5 pins s σ H _ v vl vu lo hi sl Q I rx hs pl pu ⟨a,xs,rfl,eL.of h1,hw,λp hp=>q _ _ (PR.D7 hp λA w=>(ft.ay w.1 h1).cut)⟩
 ·obtain⟨g,he⟩:=bg he;cases he;exact Mx.E4 pins s σ H _ v vl vu lo hi sl Q I rx hs pl pu ⟨_,hx.str_inv,Qw (Qm g) b8,q _ _ (PR.sc (d:= .str _) rfl)⟩
 ·cases he
theorem pO {K:Frag} {A:Addr->Prop} {H:Hp}:∀{xs:List V} {ds:List Dt} {ns:List Int},ak K A H xs ds->intsOf ds=some ns->xs=ns.map V.int
 | xs,[],ns,g,h=>by simp[intsOf] at h;subst h;exact g.nil_inv
 | xs,d::ds,ns,g,h=>by
  obtain⟨x,r,rfl,g1,g2⟩:=g.cons_inv;cases d with
  | int i=>simp only[intsOf,QA] at h;obtain⟨ms,h1,rfl⟩:=h;rw[pO g2 h1,g1.int_inv];rfl
  | _=>simp[intsOf] at h
theorem qu {K:Frag} {A:Addr->Prop} {H:Hp}:∀{xs:List V} {ds:List Dt} {ns:List Str},ak K A H xs ds->strsOf ds=some ns->xs=ns.map V.str
 | xs,[],ns,g,h=>by simp[strsOf] at h;subst h;exact g.nil_inv
 | xs,d::ds,ns,g,h=>by
  obtain⟨x,r,rfl,g1,g2⟩:=g.cons_inv;cases d with
  | str i=>simp only[strsOf,QA] at h;obtain⟨ms,h1,rfl⟩:=h;rw[qu g2 h1,g1.str_inv];rfl
  | _=>simp[strsOf] at h
theorem gw:∀{l l':List Mx.D},l.Perm l'->(l.Pairwise λa b=>Mx.D.lt b a=false)->(l'.Pairwise λa b=>Mx.D.lt b a=false)->l=l'
 | [],l',p,_,_=>(List.nil_perm.mp p).symm
 | a::t,l',p,h1,h2=>by
  cases l' with
  | nil=>exact absurd p.length_eq (by simp)
  | cons b t'=>
   rw[List.pairwise_cons] at h1 h2;have gD:a=b:=by
    have ha:a∈b::t':=p.mem_iff.mp Qr;have hb:b∈a::t:=p.mem_iff.mpr Qr;rcases Qx.mp ha with e | ha
    ·exact e
    rcases Qx.mp hb with e | hb
    ·exact e.symm
    exact Mx.D.eA a b (h2.1 a ha) (h1.1 b hb)
   subst gD;rw[gw (List.perm_cons a |>.mp p) h1.2 h2.2]
theorem k9 (ms:List Mx.D):(aS ms).Perm ms/\(aS ms).Pairwise λa b=>Mx.D.lt b a=false:=by
 unfold aS;refine⟨List.mergeSort_perm ms oV,?_⟩;have h:=List.pairwise_mergeSort (le:=oV) (λa b c h1 h2=>by
  unfold oV at *;simp only[Bool.not_eq_true'] at *;cases h3:Mx.D.lt c a with
  | false=>rfl
  | true=>
   rcases Mx.Gi.negTrans c b a h3 with h | h
   ·have h:Mx.D.lt c b=true:=h;rw[h2] at h;cases h
   ·have h:Mx.D.lt b a=true:=h;rw[h1] at h;cases h) (λa b=>by
  unfold oV;cases h:Mx.D.lt b a with
  | false=>rfl
  | true=>
   cases h':Mx.D.lt a b with
   | false=>rfl
   | true=>have:=Mx.D.lt_trans a b a h' h;rw[Mx.D.lt_irrefl] at this;cases this) ms
 exact h.imp λq=>by unfold oV at q;simpa using q
theorem qp {ms es:List Mx.D} (h:Mx.gX ms es):es=aS ms:=gw (h.1.trans (k9 ms).1.symm) h.2 (k9 ms).2
mutual
theorem uw:∀{d e:Mx.D},jQ d e=true->Mx.D.eS d e
 | .int _,.int _,_=>by unfold Mx.D.eS;trivial
 | .str _,.str _,_=>by unfold Mx.D.eS;trivial
 | .tup a,.tup b,h=>by unfold Mx.D.eS;exact mJ (by simpa [jQ] using h)
 | .int _,.str _,h=>by simp[jQ] at h
 | .int _,.tup _,h=>by simp[jQ] at h
 | .str _,.int _,h=>by simp[jQ] at h
 | .str _,.tup _,h=>by simp[jQ] at h
 | .tup _,.int _,h=>by simp[jQ] at h
 | .tup _,.str _,h=>by simp[jQ] at h
theorem mJ:∀{d e:List Mx.D},jb d e=true->Mx.D.gu d e
 | [],_,_=>by unfold Mx.D.gu;trivial
 | _::_,[],_=>by unfold Mx.D.gu;trivial
 | x::xs,y::ys,h=>by simp only[jb,Qk] at h;unfold Mx.D.gu;exact⟨uw h.1,mJ h.2⟩
end
theorem DR {k:Mx.SK} {d:Mx.D} (h:Hi k d=true):k.ok d:=by
 unfold Hi at h;split at h
 ·have e:=QI h;subst e;exact⟨_,_,rfl⟩
 ·have e:=QI h;subst e;exact⟨_,_,rfl⟩
 ·have e:=QI h;subst e;exact⟨_,_,rfl⟩
 ·have e:=QI h;subst e;exact⟨_,rfl⟩
 ·have e:=QI h;subst e;exact⟨_,rfl⟩
 ·cases h
theorem Ay {ms:List Mx.D} (h:gA ms=true):Mx.j8 ms:=by
 unfold gA at h;rw[Qk,QZ] at h;obtain⟨h1,h2⟩:=h;refine⟨Qm h1,λh3=>?_⟩;rcases h2 with h2 | h2
 ·have:=Qm h2
  lia
 ·rw[Qk,Qk] at h2;obtain⟨⟨h4,h5⟩,h6⟩:=h2;refine⟨Qm h4,?_,λd hd e he=>uw (QV.mp (QV.mp h6 d hd) e he)⟩;obtain⟨k,_,hk⟩:=List.any_eq_true.mp h5;exact⟨k,λd hd=>DR (QV.mp hk d hd)⟩
theorem nD:∀(ys:List Str) (y:Str),y∈dd ys↔y∈ys
 | [],y=>by simp[dd]
 | x::r,y=>by
  unfold dd;by_cases h:x∈dd r
  ·rw[if_pos h,nD r y,Qx];constructor
   ·exact .inr
   ·rintro(rfl | q)
    ·exact(nD r y).mp h
    ·exact q
  ·rw[if_neg h,Qx,Qx,nD r y]
theorem kv:∀ys:List Str,(dd ys).Nodup
 | []=>List.nodup_nil
 | x::r=>by
  unfold dd;by_cases h:x∈dd r
  ·rw[if_pos h];exact kv r
  ·rw[if_neg h];exact List.nodup_cons.mpr ⟨h,kv r⟩
theorem lR {α:Type} [DecidableEq α] {a b:List α} (ha:a.Nodup) (hb:b.Nodup) (h:∀x,x∈a↔x∈b):a.Perm b:=by rw[List.perm_iff_count];intro x;rw[ha.count,hb.count];simp[h x]
theorem xu:∀ys:List Str,(dd ys).length<=ys.length
 | []=>Qq _
 | x::r=>by
  have:=xu r;unfold dd;by_cases h:x∈dd r
  ·rw[if_pos h,QD];lia
  ·rw[if_neg h,QD,QD];lia
end
end Rx
end
section
namespace Rx
open PySem PySem.W PySem.Spec PyProof.Rows L2 PySem.SeqAt
section
variable {X:Cx}
noncomputable def FB:BI->Value
 | .len=> .builtin "len" | .min2=> .builtin "min" | .sum=> .builtin "sum"
 | .sorted=> .builtin "sorted" | .tuple=> .type "tuple" | .list=> .type "list" | _=> .none
noncomputable def EJ:BI->Bool
 | .isi _=>false | .sset=>false | .zipL=>false | _=>true
theorem cc {K:Frag} {A:Addr->Prop} {H:Hp} {xs:List V} {d:Dt} (h:ak K A H xs [d]):∃x,xs=[x]/\RV K A H x d:=by obtain⟨x,r,rfl,h1,h2⟩:=h.cons_inv;rw[h2.nil_inv];exact⟨x,rfl,h1⟩
theorem uY {K:Frag} {A:Addr->Prop} {H:Hp} {xs:List V} {d e:Dt} (h:ak K A H xs [d,e]):∃x y,xs=[x,y]/\RV K A H x d/\RV K A H y e:=by obtain⟨x,r,rfl,h1,h2⟩:=h.cons_inv;obtain⟨y,rfl,h3⟩:=cc h2;exact⟨x,y,rfl,h1,h3⟩
theorem Ar (b:BI) (hr:EJ b=true) (hc:X.calm=true) (hu:X.A.units + 150 < cLine):gi X (FB b) (rP X.K true (d5 b)):=by
 intro pins s σ H xs us Q I r h;obtain⟨ds,d,hx,he,q⟩:=h;have GU:=b8;unfold d5 at he;split at he
 ·split at he
  ·obtain⟨g,he⟩:=bg he;cases he;obtain⟨x,rfl,h1⟩:=cc hx;exact hJ pins s σ H _ us Q I r ⟨x,_,rfl,by rw[h1.str_inv];exact⟨Qw (Qm g) GU,rfl⟩,q _ _ (PR.sc (d:= .int _) rfl)⟩
  ·cases he;obtain⟨x,rfl,h1⟩:=cc hx;obtain⟨a,ys,rfl,h2,_,h3⟩:=h1.lst_inv;exact hJ pins s σ H _ us Q I r ⟨_,_,rfl,.inl ⟨ys,dY.of h2,rfl⟩,by rw[h3.length];exact q _ _ (PR.sc (d:= .int _) rfl)⟩
  ·cases he;obtain⟨x,rfl,h1⟩:=cc hx;obtain⟨a,ys,rfl,h2,h3⟩:=h1.ah;exact hJ pins s σ H _ us Q I r ⟨_,_,rfl,.inr ⟨ys,eL.of h2,rfl⟩,by rw[h3.length];exact q _ _ (PR.sc (d:= .int _) rfl)⟩
  ·cases he;obtain⟨x,rfl,h1⟩:=cc hx;obtain⟨a,rfl,h2⟩:=h1.jg;exact hJ pins s σ H _ us Q I r ⟨_,_,rfl,.inl ⟨_,h2,rfl⟩,by rw[Qu];exact q _ _ (PR.sc (d:= .int _) rfl)⟩
  ·cases he
 ·split at he
  ·cases he;obtain⟨x,y,rfl,h1,h2⟩:=uY hx;exact vi hc pins s σ H _ us Q I r ⟨_,_,by rw[h1.int_inv,h2.int_inv],q _ _ (PR.sc (d:= .int _) rfl)⟩
  ·cases he
 ·split at he
  ·split at he
   ·rename_i ns FJ;cases he;obtain⟨x,rfl,h1⟩:=cc hx;obtain⟨a,ys,rfl,h2,_,h3⟩:=h1.lst_inv;rw[pO h3 FJ] at h2;exact Mx.xj hc pins s σ H _ us Q I r ⟨a,ns,rfl,dY.of h2,q _ _ (PR.sc (d:= .int _) rfl)⟩
   ·cases he
  ·cases he
 ·split at he
  ·rename_i d0;split at he
   ·rename_i es hes;split at he
    ·rename_i ms AX;obtain⟨g,he⟩:=bg he;cases he;have cs:=Ay g;obtain⟨x,rfl,h1⟩:=cc hx;have Ko:=n9 AX;have go:∀{a:Addr} {ys:List V},x= .ref a->(dY X.K H a ys\/eL X.K H a ys)->ak X.K N0 H ys es->wpAny (model X.prog X.w) X.A (call (FB .sorted) us) (EP X pins σ Q) X.xe s:=by intro a ys ex hs g;subst ex;rw[Ko] at g;refine Mx.nv hu pins s σ H _ us Q I r ⟨a,ys,ms,rfl,hs,g.vn,cs,λm zs qs hm hz hso=>q _ _ ?_⟩;have e:=qp hso;subst e;exact PR.pY hm λA _=>ak.n8 hz
     unfold itemsOf at hes;split at hes
     ·cases hes;obtain⟨a,ys,e1,h2,_,h3⟩:=h1.lst_inv;exact go e1 (.inl (dY.of h2)) h3
     ·cases hes;obtain⟨a,ys,e1,h2,h3⟩:=h1.ah;exact go e1 (.inr (eL.of h2)) h3
     ·cases hes;obtain⟨a,e1,h2⟩:=h1.jg;exact go e1 (.inl h2) iA
     ·cases hes
    ·cases he
   ·cases he
  ·cases he
 ·split at he
  ·cases he;obtain⟨x,rfl,h1⟩:=cc hx;obtain⟨a,ys,rfl,h2,_,h3⟩:=h1.lst_inv;exact gj pins s σ H _ us Q I r ⟨a,ys,rfl,.inl ⟨dY.of h2,λl hl=>q _ _ (PR.D7 hl λA w=>ft.aP w.1 h2)⟩⟩
  ·cases he;obtain⟨x,rfl,h1⟩:=cc hx;obtain⟨a,ys,rfl,h2,h3⟩:=h1.ah;exact gj pins s σ H _ us Q I r ⟨a,ys,rfl,.inr ⟨eL.of h2,q _ _ (PR.uh h2 λA w=>ft.ay w.1 h2)⟩⟩
  ·cases he
 ·split at he
  ·cases he;obtain⟨x,rfl,h1⟩:=cc hx;obtain⟨a,ys,rfl,h2,_,h3⟩:=h1.lst_inv;exact eO pins s σ H _ us Q I r ⟨a,ys,rfl,.inl (dY.of h2),λl hl=>q _ _ (PR.pY hl λA w=>ft.aP w.1 h2)⟩
  ·cases he;obtain⟨x,rfl,h1⟩:=cc hx;obtain⟨a,ys,rfl,h2,h3⟩:=h1.ah;exact eO pins s σ H _ us Q I r ⟨a,ys,rfl,.inr (eL.of h2),λl hl=>q _ _ (PR.pY hl λA w=>ft.ay w.1 h2)⟩
  ·cases he;obtain⟨x,rfl,h1⟩:=cc hx;obtain⟨a,rfl,h2⟩:=h1.jg;exact eO pins s σ H _ us Q I r ⟨a,_,rfl,.inl h2,λl hl=>q _ _ (PR.pY hl λA w=>iA)⟩
  ·cases he
 ·cases hr
 ·cases hr
 ·cases hr
end
structure Fm where
 K:Frag
 H0:Hp
 d0:Option Addr
 Ek:Nat->Prop
structure Ow where
 W:Addr->Prop
 A:Addr->Prop
 dr:Option Addr
noncomputable def Ow.wd (o:Ow):Addr->Prop:=λa=>o.W a\/o.dr=some a
noncomputable def Ow.d (o:Ow):Addr->Prop:=λa=>o.dr=some a
noncomputable def OV (K:Frag) (H0:Hp) (o:Ow) (H:Hp) (v:V):Dt->Prop
 | .lst ds=>∃a xs,v= .ref a/\H a=some (.lst xs)/\o.A a/\¬o.W a/\o.dr≠some a/\H0 a=none/\ak K o.A H xs ds
 | d=>RV K o.A H v d
structure ER (Φ:Fm) (Γ:Gm) (o:Ow) (ρ:aj) (S:Sx) (σ:L2.St) (H:Hp):Prop where
 len:σ.length=ρ.length
 wa:∀a,o.W a->o.A a
 da:∀a,o.dr=some a->o.A a
 al:∀a,o.A a->∃x,H a=some x
 val:∀(i:Nat) (d:Dt),ρ[i]?=some (some d)->∃v,σ[i]?=some (some v)/\(if fm Γ i=true then OV Φ.K Φ.H0 o H v d else RV Φ.K o.A H v d)
 inj:∀(i j:Nat) (a:Addr) (d e:List Dt),fm Γ i=true->fm Γ j=true->ρ[i]?=some (some (.lst d))->ρ[j]?=some (some (.lst e))->σ[i]?=some (some (.ref a))->σ[j]?=some (some (.ref a))->i=j
 drw:∀a,o.dr=some a->∃ns:List Int,S=some ns/\H a=some (.lst (ns.map V.int))
 drn:o.dr=none->S=none
 drs:∀(i:Nat) (a:Addr),Γ.δ=some i->o.dr=some a->σ[i]?=some (some (.ref a))
 dr0:∀a,o.dr=some a->Φ.d0=some a\/Φ.H0 a=none
 ent:aW (λb=>Φ.d0=some b) Φ.H0 H
section
variable {Φ:Fm} {Γ:Gm} {o:Ow} {ρ:aj} {S S':Sx} {σ:L2.St} {H H':Hp}
theorem OV.val {K:Frag} {H0:Hp} {v:V} {d:Dt} (h:OV K H0 o H v d) (wa:∀a,o.W a->o.A a) (da:∀a,o.dr=some a->o.A a):RV K o.wd H v d:=by
 have hw:∀b,o.wd b->o.A b:=λb z=>z.elim (wa b) (da b)
 cases d with
 | lst ds=>obtain⟨a,xs,rfl,h1,h2,h3,h4,_,h5⟩:=h;exact RV.d8 h1 (λz=>z.elim h3 h4) (h5.weak hw)
 | _=>exact RV.weak h hw
theorem OV.one {K:Frag} {H0:Hp} {v:V} {d:Dt} (h:OV K H0 o H v d):ft K o.A H v d:=by
 cases d with
 | lst ds=>obtain⟨a,xs,rfl,h1,h2,h3,h4,_,h5⟩:=h;exact⟨a,xs,rfl,h1,h5⟩
 | _=>exact h
theorem OV.ext {K:Frag} {H0:Hp} {v:V} {d:Dt} (h:OV K H0 o H v d) (da:∀a,o.dr=some a->o.A a) (e:aW o.d H H'):OV K H0 o H' v d:=by
 cases d with
 | lst ds=>obtain⟨a,xs,rfl,h1,h2,h3,h4,h6,h5⟩:=h;exact⟨a,xs,rfl,e.kp _ _ h1 h4,h2,h3,h4,h6,h5.mono e da λ_ z=>z⟩
 | _=>exact RV.mono e da (λ_ z=>z) h
theorem ER.gS (er:ER Φ Γ o ρ S σ H):∀b,o.wd b->o.A b:=λb z=>z.elim (er.wa b) (er.da b)
theorem ER.wK (er:ER Φ Γ o ρ S σ H):∀b,o.wd b->∃x,H b=some x:=λb z=>er.al b (er.gS b z)
theorem aW.al {X:Addr->Prop} (e:aW X H H') {b:Addr} {x:HO} (h:H b=some x) (hx:X b->∃y,H' b=some y):∃y,H' b=some y:=by
 by_cases z:X b
 ·exact hx z
 ·exact⟨x,e.kp _ _ h z⟩
theorem ER.step (er:ER Φ Γ o ρ S σ H) (e:aW o.d H H') (hd:∀a,o.dr=some a->∃ns:List Int,S'=some ns/\H' a=some (.lst (ns.map V.int))) (hn:o.dr=none->S'=none):ER Φ Γ o ρ S' σ H' where
 len:=er.len
 wa:=er.wa
 da:=er.da
 al:=λa ha=>by obtain⟨x,hx⟩:=er.al a ha;exact e.al hx λz=>by obtain⟨ns,_,h⟩:=hd a z;exact⟨_,h⟩
 val:=λi d h=>by
  obtain⟨v,h1,h2⟩:=er.val i d h;refine⟨v,h1,?_⟩;by_cases m:fm Γ i=true
  ·rw[if_pos m] at h2 ⊢;exact h2.ext er.da e
  ·rw[if_neg m] at h2 ⊢;exact h2.mono e er.da λ_ z=>z
 inj:=er.inj
 drw:=hd
 drn:=hn
 drs:=er.drs
 dr0:=er.dr0
 ent:=⟨λb x h n=>by
   refine e.kp _ _ (er.ent.kp b x h n) λz=>?_
   rcases er.dr0 b z with q | q
   ·exact n q
   ·(rw[h] at q;cases q),λb xs h=>e.tp _ _ (er.ent.tp b xs h)⟩
theorem ER.grow (er:ER Φ Γ o ρ S σ H) (s:bE H H'):ER Φ Γ o ρ S σ H':=er.step (aW.of_same s) (λa h=>by
 obtain⟨ns,h1,h2⟩:=er.drw a h;exact⟨ns,h1,s _ _ h2⟩) er.drn
end
noncomputable def mR (Ek:Nat->Prop) {α:Type} (r:R α) (P:α->Prop):Prop:=match r with
 | .ok a=>P a
 | .ex k=>Ek k
 | .bad=>False
section
variable {Ek:Nat->Prop} {α β:Type}
theorem ae {r:R α} {f:α->R β} {P:β->Prop}:mR Ek (r.bind f) P↔mR Ek r λa=>mR Ek (f a) P:=by cases r <;> rfl
theorem af {r:R α} {P Q:α->Prop} (h:mR Ek r P) (hq:∀a,r= .ok a->P a->Q a):mR Ek r Q:=by
 cases r with
 | ok a=>exact hq a rfl h
 | ex k=>exact h
 | bad=>exact h
theorem aN {b:Bool} {r:R α} {P:α->Prop} (h:mR Ek (ag b r) P):b=true/\mR Ek r P:=by
 cases b with
 | true=>exact⟨rfl,h⟩
 | false=>exact h.elim
end
structure EO (K:Frag) (fr:Nat->Bool) (o:Ow) (c:C) (H:Hp) (d:Dt) (v:V) (H':Hp):Prop where
 ext:aW o.d H H'
 val:RV K o.wd H' v d
 dq:lk c=0->RV K o.A H' v d
 oz:lk c<=1->ft K o.A H' v d
 fk:fresh fr c=true->∀ds,d= .lst ds->∃a xs,v= .ref a/\H a=none/\H' a=some (.lst xs)/\ak K (λb=>o.wd b\/b=a) H' xs ds/\(lk c=0->ak K (λb=>o.A b\/b=a) H' xs ds)
structure NM (K:Frag) (o:Ow) (cs:Cs) (H:Hp) (ds:List Dt) (vs:List V) (H':Hp):Prop where
 ext:aW o.d H H'
 val:ak K o.wd H' vs ds
 dq:mI cs=0->ak K o.A H' vs ds
 oz:mI cs<=1->lJ K o.A H' vs ds
section
variable (Φ:Fm) (Γ:Gm) (F:FT) (fr:Nat->Bool)
noncomputable def bO (c:C):TE:=λσ H Q=>∃o ρ S,ER Φ Γ o ρ S σ H/\mR Φ.Ek (ev F c ρ S) λp=>∀v H',EO Φ.K fr o c H p.1 v H'->ER Φ Γ o ρ p.2 σ H'->Q v H'
noncomputable def fP (c:C):TT:=λσ H Q=>∃o ρ S,ER Φ Γ o ρ S σ H/\mR Φ.Ek (dw F c ρ S) λp=>∀H',aW o.d H H'->ER Φ Γ o ρ p.2 σ H'->Q p.1 H'
noncomputable def lU (cs:Cs):TA:=λσ H Q=>∃o ρ S,ER Φ Γ o ρ S σ H/\mR Φ.Ek (gq F cs ρ S) λp=>∀vs H',NM Φ.K o cs H p.1 vs H'->ER Φ Γ o ρ p.2 σ H'->Q vs H'
noncomputable def qy (cs:Cs):TT:=λσ H Q=>∃o ρ S,ER Φ Γ o ρ S σ H/\mR Φ.Ek (cV F cs ρ S) λp=>∀H',aW o.d H H'->ER Φ Γ o ρ p.2 σ H'->Q p.1 H'
end
structure Wk (K:Frag) (A X:Addr->Prop) (J:It) (H:Hp) (ds:List Dt):Prop where
 go:∀(i:Nat) (H1:Hp),i < ds.length->aW X H H1->J.go i H1
 stop:∀(H1:Hp),aW X H H1->J.stop ds.length H1
 yld:∀(i:Nat) (x:V) (H1 H2:Hp),i < ds.length->aW X H H1->J.yld i H1 x H2->bE H1 H2/\∃d,ds[i]?=some d/\∀B:Addr->Prop,(∀b,B b->A b\/H b=none)->RV K B H2 x d
structure IO (K:Frag) (o:Ow) (it:o6) (nl:Bool) (H:Hp) (ds:List Dt) (J:It) (H':Hp):Prop where
 ext:aW o.d H H'
 w1:vK it<=1->Wk K o.A o.d J H' ds
 w0:vK it=0->Wk K o.A o.A J H' ds
 w2:nl=true->Wk K o.A o.A J H' ds
noncomputable def oH (Φ:Fm) (Γ:Gm) (F:FT) (it:o6):TI:=λσ H Q=>∃o ρ S,ER Φ Γ o ρ S σ H/\mR Φ.Ek (fj F it ρ S) λp=>∀J H',IO Φ.K o it (iY F it ρ S) H p.1 J H'->ER Φ Γ o ρ p.2 σ H'->Q J H'
structure GX (g:G) (Γ:Gm) (X:Cx):Prop where
 N:X.N=Γ.N
 nd:Γ.N.Nodup
 vis:∀x,zD (Γ.names.lookup x)=true->F2 X.env.scope x
 loc:∀x,yD (Γ.names.lookup x)=true->Loc X.env.scope x/\(X.fn x=true\/X.env.scope.names.lookup x=some .local)
 gl:∀x,vv (Γ.names.lookup x)=true->Gl X x
 fre:∀x,(Γ.names.lookup x=some .cell\/Γ.names.lookup x=some .free)->(X.env.scope.names.lookup x=some .cell\/X.env.scope.names.lookup x=some .free)
 calm:X.calm=true
 un:X.A.units + 150 < cLine
 con:∀x d,g.cons.lookup x=some d->∃u,oX d=true/\X.mg x=some u/\RelV (qO d) u
 bl:∀x∈g.bls,X.mg x=none
structure FO (K:Frag) (W:Addr->Prop) (dr:Option Addr) (fr:Bool) (H:Hp) (d:Dt) (S':Sx) (v:V) (H':Hp):Prop where
 ext:aW (λb=>dr=some b) H H'
 val:RV K W H' v d
 drw:∀a,dr=some a->∃ns:List Int,S'=some ns/\H' a=some (.lst (ns.map V.int))
 fk:fr=true->∀ds,d= .lst ds->∃a xs,v= .ref a/\H a=none/\H' a=some (.lst xs)/\ak K (λb=>W b\/b=a) H' xs ds
noncomputable def NG (K:Frag) (xv:Nat->Value) (F:List Dt->Sx->R (Dt×Sx)) (np:Nat) (fr bb:Bool):Sp:=λvs H Q E=>
 vs.length=np/\∃(W:Addr->Prop) (dr:Option Addr) (args:List Dt) (S:Sx) (wC:List V),
  (if bb=true then∃(a:Addr) (ns:List Int),vs= .ref a::wC/\dr=some a/\W a/\S=some ns/\H a=some (.lst (ns.map V.int)) else vs=wC/\dr=none/\S=none)/\
  ak K W H wC args/\(∀a,W a->∃x,H a=some x)/\
  match F args S with
  | .ok p=>∀v H',FO K W dr fr H p.1 p.2 v H'->Q v H'
  | .ex k=>∀H',aW (λb=>dr=some b) H H'->E (xv k) none H'
  | .bad=>False
noncomputable def lX (Φ:Fm) (xv:Nat->Value):XK:=λv _ H'=>∃k,v=xv k/\Φ.Ek k/\aW (λb=>Φ.d0=some b) Φ.H0 H'
structure FX (g:G) (xv:Nat->Value) (CX:j7) (P:Program) (w:World) (K:Frag) (mg:Str->Option Value) (base:Heap) (n k:Nat) (F:FT):Prop where
 fn:∀x f np fB bb,rE x g.fns=some (f,np,fB,bb)->∃(fa:Addr) (fd:FuncData) (ps:List Str),ps.length=np/\mg x=some (.ref fa)/\PySem.W.keepIn K (.ref fa)=true/\
  iU P w K mg base CX k fa fd ps (NG K xv (F f) np (g.fr f) bb)/\(∀j,j<=fB.length->∃ds,ax ((fB.drop j).map qO) ds/\Binds K fd ps ds)/\fB.all oX=true
end Rx
end
section
namespace L2
open PySem PySem.Spec PyProof.Rows
abbrev Gc:List Value:=[.type "ValueError",.type "Exception",.type "BaseException",.type "object"]
structure F4 (K:PySem.W.Frag) (D:Addr):Prop where
 ga:PySem.W.findIn K (.ref D) "__getattribute__"=some (some (.builtin "BaseException.__getattribute__"))
 na:PySem.W.findIn K (.ref D) "__getattr__"=some none
 sb:PySem.W.subIn K (.ref D) (.type "BaseException")=some true
 fi:PySem.W.findIn K (.ref D) "__class__"=some (some (.builtin "object.__class__"))
 sp:PySem.W.specialIn K (.builtin "object.__class__") "__get__"=some (some (.builtin "getset_descriptor.__get__"))
 tk:PySem.W.takesIn K (.builtin "object.__class__")=some true
 mr:PySem.W.mroIn K D (.type "object")=some true
noncomputable def J4 (X:Cx) (st:Stmt) (t:TS):Prop:=∀(s:Shared) (σ:St) (H:Hp) (D:Ends),Inv X [] σ H s->t D σ H->wpAny (model X.prog X.w) X.A (exec st X.env) (SP X [] D) X.xe s
noncomputable def m9 (X:Cx) (st:List Stmt) (t:TS):Prop:=∀(s:Shared) (σ:St) (H:Hp) (D:Ends),Inv X [] σ H s->t D σ H->wpAny (model X.prog X.w) X.A (execs st X.env) (SP X [] D) X.xe s
theorem EA {X:Cx} {st:Stmt} {t:TS} (h:PS X st t):J4 X st t:=λs σ H D=>h [] s σ H D
theorem BC {X:Cx} {st:List Stmt} {t:TS} (h:ve X st t):m9 X st t:=λs σ H D=>h [] s σ H D
theorem vU {X:Cx} {st:Stmt} {rest:List Stmt} {t u:TS} (h1:J4 X st t) (h2:m9 X rest u):m9 X (st::rest) (IF t u):=by
 intro s σ H D I hq;refine wpAny_execs_cons (bN (h1 s σ H {D with nx:=u D} I hq) λf s1 z=>?_);cases f with
 | next=>obtain⟨σ1,H1,I1,q1⟩:=z;exact h2 s1 σ1 H1 D I1 q1
 | brk=>exact z
 | cont=>exact z
 | ret v=>exact z
theorem Dm {CX:j7} {P:Program} {w:World} {K:PySem.W.Frag} {mg:Str->Option Value} {base:Heap} {k:Nat} {f:Addr} {name qual:Str} {params:Arguments} {body:List Stmt} {scope:Scope} {dV kV doc pm fu ct oc:Value} {an od:Option Addr}
  {uC:Array (Option Value)} {N ps:List Str} {sp:Sp} (lk:K.lookup f=some ⟨oc,od,.func (PySem.W.fnOf name qual params body scope dV kV doc pm an fu ct),uC⟩) (zX:PySem.W.codeIn K fu qual=true) (S:eJ N ps scope)
  (len:∀vs H Q E,sp vs H Q E->vs.length=ps.length)
  (GG:∀(A:Around) (outer:List Env) (s:Shared) (H:Hp) (vs:List V) (Q:VK) (E:XK),gW k (A.deeper (envOfC qual scope s.heap.objs.size f fu))->sp vs H Q E->
   ∃t,m9 (kr CX P w K mg base N qual scope f fu A outer s H E) body t/\t {nx:=λ_ H'=>Q .bq H',rt:=Q} (start N vs) H):
  iU P w K mg base CX (k + 1) f (PySem.W.fnOf name qual params body scope dV kV doc pm an fu ct) ps sp:=by
 refine⟨len,λA outer s H args us vs Q E hr e0 hb r mD=>?_⟩;have KX:K.In s.heap:=e0.mod.LB.keeps λb o e=>(e0.bs b o e).1
 have GR:∀y∈ps.zip us,scope.names.lookup y.1=some .local\/(scope.names.lookup y.1=some .cell/\((cellsFrom (s.heap.objs.size + 1) scope.names []).lookup y.1).isSome=true):=λ⟨n,v⟩ hy=>by
  rcases S.par n (List.of_mem_zip hy).1 with q | q
  ·exact .inl q
  ·exact .inr ⟨q,PySem.W.cellsFrom_some _ _ _ (.inl q)⟩
 refine codeAny_call_function hr.depth (KX _ _ lk) rfl S.co S.gen rfl (PySem.W.codeRec_of KX zX) (hb _ _ _ _ (wpAny_newFunctionEnv_cells S.kind GR λenv he s1 x=>?_));subst he;refine⟨(e0.mod.nolimit.keeps λb o e=>(e0.bs b o e).1).keeps x.toInCall.keep,codeAny_func ?_⟩;obtain⟨t,ht,hq⟩:=GG A outer s H vs Q E (hr.deeper _) mD;have I:Inv (kr CX P w K mg base N qual scope f fu A outer s H E) [] (start N vs) H s1:=vF S hr.hd e0 (len _ _ _ _ mD) r x;refine wpAny_mono (ht s1 (start N vs) H _ I hq) (λfl s' hs=>?_) λe s' hs=>hs
 have fin:∀{σ':St} {H':Hp} {v:V} {u:Value},Inv (kr CX P w K mg base N qual scope f fu A outer s H E) [] σ' H' s'->RelV v u->Q v H'->CE outer P w H s Q u s':=
  λ {σ' H' v u} J rv q=>⟨v,H',J.os,J.bare,J.base,J.hok,rv,q⟩
 cases fl with
 | ret u=>obtain⟨v,σ',H',J,rv,q⟩:=hs;exact fin J rv q
 | next=>obtain⟨σ',H',J,q⟩:=hs;exact fin (v:=V.bq) (u:=Value.none) J rfl q
 | brk=>obtain⟨_,_,_,q⟩:=hs;exact q.elim
 | cont=>obtain⟨_,_,_,q⟩:=hs;exact q.elim
end L2
end
section
namespace Rx
open PySem PySem.W PySem.Spec PyProof.Rows L2 PySem.SeqAt
noncomputable def J8 (K:Frag) (mg:Str->Option Value) (C:Addr) (ts:List (Str×Bool)):Prop:=excIn K C Gc "ValueError.__new__"=true/\F4 K C/\
 ∀t b,ts.lookup t=some b->∃c,(mg t=some c/\(∃D,c= .ref D)\/mg t=none/\t="ValueError"/\c= .type "ValueError")/\kitOne K (.ref C) c=some b/\(b=true->exmOne K (.ref C) c=some true)
structure HX (g:G) (xv:Nat->Value) (CX:j7) (k:Nat) (F:FT) (Φ:Fm) (X:Cx):Prop where
 K:Φ.K=X.K
 fx:∃n,FX g xv CX X.prog X.w X.K X.mg X.base n k F
 room:gW k X.A
 cx:CX=oO X.prog X.w
 st:fy X
 xgx:∀e s',j9 X (lX Φ xv) e s'->X.xe e s'
 xk:∀k x ts,g.xs[k]?=some (x,ts)->∃C,xv k= .ref C/\X.mg x=some (.ref C)/\J8 X.K X.mg C ts
theorem HX.pass {g:G} {xv:Nat->Value} {CX:j7} {k:Nat} {F:FT} {Φ:Fm} {X:Cx} (h:HX g xv CX k F Φ X):qR CX X (lX Φ xv):=λpins σ H s e s' I c=>by have hc:=h.cx;subst hc;exact h.xgx e s' (zI I h.st.pn c)
theorem bf {X:Cx} {e:Expr} {t t':TE} (h:PE X e t) (hi:∀σ H Q,t' σ H Q->t σ H Q):PE X e t':=λpins s σ H Q I q=>h pins s σ H Q I (hi σ H Q q)
theorem sH {X:Cx} {e:Expr} {t t':TT} (h:PT X e t) (hi:∀σ H Q,t' σ H Q->t σ H Q):PT X e t':=λpins s σ H Q I q=>h pins s σ H Q I (hi σ H Q q)
theorem yZ {X:Cx} {e:Expr} {t t':TT} (h:PW X e t) (hi:∀σ H Q,t' σ H Q->t σ H Q):PW X e t':=λwh pins s σ H Q I q=>h wh pins s σ H Q I (hi σ H Q q)
theorem yO {X:Cx} {e:List Expr} {t t':TA} (h:PA X e t) (hi:∀σ H Q,t' σ H Q->t σ H Q):PA X e t':=λpos pins s σ H Q I q=>h pos pins s σ H Q I (hi σ H Q q)
theorem oh {X:Cx} {tg e:Expr} {t t':TI} (h:PI X tg e t) (hi:∀σ H Q,t' σ H Q->t σ H Q):PI X tg e t':=λpins s σ H Q I q=>h pins s σ H Q I (hi σ H Q q)
section
variable {Φ:Fm} {Γ:Gm} {F:FT} {fr:Nat->Bool} {o:Ow} {ρ:aj} {S:Sx} {σ:L2.St} {H H':Hp}
theorem EO.sc {c:C} {d:Dt} (h:oX d=true):EO Φ.K fr o c H d (qO d) H:=⟨aW.refl,qk h,λ_=>qk h,λ_=>(qk h).one,λ_ ds e=>by subst e;simp[oX] at h⟩
theorem EO.vq {c:C} {d:Dt} {v:V} {H1:Hp} (e:aW o.d H H1) (h:EO Φ.K fr o c H1 d v H') (hf:fresh fr c=true->∀ds,d= .lst ds->∀a,H1 a=none->H a=none):EO Φ.K fr o c H d v H':=
 ⟨e.trans h.ext,h.val,h.dq,h.oz,λf ds ed=>by
  obtain⟨a,xs,h1,h2,h3⟩:=h.fk f ds ed;exact⟨a,xs,h1,hf f ds ed a h2,h3⟩⟩
theorem xG {X:Addr->Prop} {H1:Hp} (e:aW X H H1) (hx:∀b,X b->∃y,H1 b=some y) {a:Addr} (h:H1 a=none):H a=none:=by
 cases q:H a with
 | none=>rfl
 | some x=>obtain⟨y,z⟩:=e.al q (hx a);rw[h] at z;cases z
theorem ER.eE {S1:Sx} {H1:Hp} (aE:ER Φ Γ o ρ S1 σ H1) (e:aW o.d H H1) {a:Addr} (h:H1 a=none):H a=none:=xG e (λb z=>aE.al b (aE.da b z)) h
theorem EO.keep {c:C} {d:Dt} {v:V} {H1 H2:Hp} (h:EO Φ.K fr o c H d v H1) (e:aW o.d H1 H2) (wa:∀b,o.wd b->o.A b):RV Φ.K o.wd H2 v d/\(lk c=0->RV Φ.K o.A H2 v d)/\(lk c<=1->ft Φ.K o.A H2 v d):=by
 have hd:∀b,o.d b->o.wd b:=λb z=> .inr z
 refine⟨h.val.mono e hd λ_ z=>z,λl=>(h.dq l).mono e (λb z=>wa b (hd b z)) λ_ z=>z,λl=>?_⟩;refine(h.oz l).ext e (λb z=>wa b (hd b z)) λds a ed ev z=>?_
 subst ed ev;obtain⟨b,xs,q,_,n,_⟩:=h.val.lst_inv;cases q;exact n (.inr z)
theorem EO.pr {c:C} {xs:List V} {ds:List Dt} {d:Dt} {v:V} {H1 H2:Hp} {S1:Sx} {f:Bool} (aE:ER Φ Γ o ρ S1 σ H1) (e:aW o.d H H1) (hv:ak Φ.K o.wd H1 xs ds) (h1:lk c<=1->lJ Φ.K o.A H1 xs ds) (hl:lk c=0\/lk c=2)
  (pr:PR Φ.K f xs ds H1 d v H2) (hf:fresh fr c=true->f=true):EO Φ.K fr o c H d v H2/\ER Φ Γ o ρ S1 σ H2:=by
 have q0:lk c=0->RV Φ.K o.A H2 v d:=λl=>pr.val o.A aE.al (h1 (by lia))
 refine⟨⟨e.trans (aW.of_same pr.same),pr.val o.wd aE.wK hv.ones,q0,λl=>(q0 (by lia)).one,λfc es ed=>?_⟩,aE.grow pr.same⟩;obtain⟨a,ys,k1,k2,k3,k4⟩:=pr.fk (hf fc) es ed;exact⟨a,ys,k1,aE.eE e k2,k3,k4 o.wd aE.wK hv.ones,λl=>k4 o.A aE.al (h1 (by lia))⟩
theorem iH {A:Addr->Prop} {K:Frag} {v:V} {d:Dt} (h:RV K A H v d):RV K N0 H v d:=h.weak λ_ z=>z.elim
theorem D6 {A:Addr->Prop} {K:Frag} {v:List V} {d:List Dt} (h:ak K A H v d):ak K N0 H v d:=h.weak λ_ z=>z.elim
end
section
variable {X:Cx} {Φ:Fm} {Γ:Gm} {F:FT} {fr:Nat->Bool} {g:G}
theorem ql {e:Expr} {d:Dt} (hd:oX d=true) (h:PE X e (tC (qO d))):PE X e (bO Φ Γ F fr (.con d)):=bf h λσ H Q q=>by obtain⟨o,ρ,S,er,q⟩:=q;exact q _ _ (EO.sc hd) er
theorem nL {Ek:Nat->Prop} {ρ:aj} {i:Nat} {P:Dt->Prop} (h:mR Ek (fG ρ i) P):∃d,ρ[i]?=some (some d)/\P d:=by
 unfold fG at h;split at h
 ·exact⟨_,by assumption,h⟩
 ·exact h.elim
theorem Ij {e:Expr} {i:Nat} (h:PE X e (lT i)) (hm:fm Γ i=false):PE X e (bO Φ Γ F fr (.var i)):=bf h λσ H Q q=>by obtain⟨o,ρ,S,er,q⟩:=q;unfold ev at q;rw[ae] at q;obtain⟨d,hd,q⟩:=nL q;obtain⟨v,h1,h2⟩:=er.val i d hd;rw[hm,if_neg (by simp)] at h2;exact⟨v,h1,q v H ⟨aW.refl,h2.weak er.gS,λ_=>h2,λ_=>h2.one,λz=>by simp[fresh] at z⟩ er⟩
theorem Ib {e:Expr} {i:Nat} (h:PE X e (lT i)) (hm:fm Γ i=true):PE X e (bO Φ Γ F fr (.mvr i)):=bf h λσ H Q q=>by obtain⟨o,ρ,S,er,q⟩:=q;unfold ev at q;rw[ae] at q;obtain⟨d,hd,q⟩:=nL q;obtain⟨v,h1,h2⟩:=er.val i d hd;rw[hm,if_pos rfl] at h2;exact⟨v,h1,q v H ⟨aW.refl,h2.val er.wa er.da,λz=>by simp[lk] at z,λ_=>h2.one,λz=>by simp[fresh] at z⟩ er⟩
theorem jT {Ek:Nat->Prop} {r:R Dt} {P:Dt->Prop} (lN:∀k,r≠ .ex k) (h:mR Ek r P):∃d,r= .ok d/\P d:=by
 cases r with
 | ok a=>exact⟨a,rfl,h⟩
 | ex k=>exact absurd rfl (lN k)
 | bad=>exact h.elim
theorem dg {b:Bool} {α:Type} {r:R α} (h:∀k,r≠ .ex k):∀k,ag b r≠ .ex k:=by
 intro k;cases b
 ·intro z;cases z
 ·exact h k
theorem Eb (o:Operator) (d e:Dt):∀k,qa o d e≠ .ex k:=by intro k;unfold qa;split <;> first | (intro z;cases z;done) | (split <;> first | (intro z;cases z;done) | (exact dg (λk z=>by cases z) k))
theorem tL (o:CmpOp) (d e:Dt):∀k,de o d e≠ .ex k:=by intro k;unfold de;split <;> first | (intro z;cases z;done) | (exact dg (λk z=>by cases z) k)
theorem qU (ds:List Dt) (i:Int):∀k,vf ds i≠ .ex k:=by intro k;unfold vf;split <;> (intro z;cases z)
theorem A6 (d e:Dt):∀k,dk d e≠ .ex k:=by
 intro k;unfold dk;split
 ·exact qU _ _ k
 ·exact qU _ _ k
 ·exact qU _ _ k
 ·exact dg (λk=>by split <;> (intro z;cases z)) k
 ·intro z;cases z
theorem BQ (d:Dt) (lo hi:Option Int):∀k,iN d lo hi≠ .ex k:=by intro k;unfold iN;split <;> first | (intro z;cases z;done) | (exact dg (λk z=>by cases z) k)
theorem BV (d:Dt):∀k,dU d≠ .ex k:=by intro k;unfold dU;split <;> first | (intro z;cases z;done) | (exact dg (λk z=>by cases z) k)
theorem iG {Ek:Nat->Prop} {r:R Bool} {P:Bool->Prop} (lN:∀k,r≠ .ex k) (h:mR Ek r P):∃d,r= .ok d/\P d:=by
 cases r with
 | ok a=>exact⟨a,rfl,h⟩
 | ex k=>exact absurd rfl (lN k)
 | bad=>exact h.elim
theorem rW {op:Operator} {a b:C}:(lk (.bin op a b)=0\/lk (.bin op a b)=2)/\(lk (.bin op a b)<=1->lk a<=1/\lk b<=1):=by
 have e:lk (.bin op a b)=if lk a<=1/\lk b<=1 then 0 else 2:=by rw[lk]
 rw[e];split
 ·rename_i h;exact⟨.inl rfl,λ_=>h⟩
 ·exact⟨.inr rfl,λz=>by lia⟩
theorem HV {a b:Expr} {a' b':C} {op:Operator} {pos:Pos} (hK:Φ.K=X.K) (ha:PE X a (bO Φ Γ F fr a')) (hb:PE X b (bO Φ Γ F fr b')):PE X (.BinOp a op b pos) (bO Φ Γ F fr (.bin op a' b')):=bf (HH (Ed op) ha hb) λσ H Q q=>by
 obtain⟨o,ρ,S,er,q⟩:=q;unfold ev at q;rw[ae] at q;refine⟨o,ρ,S,er,af q λp _ q x H1 aZ aE=>?_⟩;rw[ae] at q;refine⟨o,ρ,p.2,aE,af q λp2 _ q y H2 eo2 gf=>?_⟩;rw[ae] at q;obtain⟨z,hz,q⟩:=jT (Eb _ _ _) q;obtain⟨k1,k2,k3⟩:=aZ.keep eo2.ext er.gS;refine⟨p.1,p2.1,z,hK▸iH k1,hK▸iH eo2.val,hz,λv H3 pr=>?_⟩;rw[<-hK] at pr;obtain⟨e1,e2⟩:=EO.pr (fr:=fr) (H:=H) (c:= .bin op a' b') gf (aZ.ext.trans eo2.ext) (ak.cons k1 (ak.cons eo2.val ak.nil)) (λl=>⟨k3 (rW.2 l).1,eo2.oz (rW.2 l).2,trivial⟩) rW.1 pr λ_=>rfl
 exact q v H3 e1 e2
theorem HW {a b:Expr} {a' b':C} {op:CmpOp} {pos:Pos} (hK:Φ.K=X.K) (hu:X.A.units + 150 < cLine) (hm:behindInMarks op b=false) (ha:PE X a (bO Φ Γ F fr a')) (hb:PE X b (bO Φ Γ F fr b')):PE X (.Compare a [op] [b] pos) (bO Φ Γ F fr (.cmp op a' b')):=bf (Bu (yM op hu) ha hb hm) λσ H Q q=>by obtain⟨o,ρ,S,er,q⟩:=q;unfold ev at q;rw[ae] at q;refine⟨o,ρ,S,er,af q λp _ q x H1 aZ aE=>?_⟩;rw[ae] at q;refine⟨o,ρ,p.2,aE,af q λp2 _ q y H2 eo2 gf=>?_⟩;rw[ae] at q;obtain⟨z,hz,q⟩:=iG (tL _ _ _) q;obtain⟨k1,k2,k3⟩:=aZ.keep eo2.ext er.gS;refine⟨p.1,p2.1,z,hK▸iH k1,hK▸iH eo2.val,hz,q _ _ ?_ gf⟩;have:=EO.sc (Φ:=Φ) (fr:=fr) (o:=o) (H:=H2) (c:= .cmp op a' b') (d:= .bl z) rfl;exact this.vq (aZ.ext.trans eo2.ext) λf=>by simp[fresh] at f
theorem EU {a b:Expr} {a' b':C} {op:CmpOp} {pos:Pos} (hK:Φ.K=X.K) (hu:X.A.units + 150 < cLine) (hm:behindInMarks op b=false) (ha:PE X a (bO Φ Γ F fr a')) (hb:PE X b (bO Φ Γ F fr b')):PT X (.Compare a [op] [b] pos) (fP Φ Γ F (.cmp op a' b')):=sH (BE (yM op hu) ha hb hm) λσ H Q q=>by obtain⟨o,ρ,S,er,q⟩:=q;unfold dw at q;rw[ae] at q;refine⟨o,ρ,S,er,af q λp _ q x H1 aZ aE=>?_⟩;rw[ae] at q;refine⟨o,ρ,p.2,aE,af q λp2 _ q y H2 eo2 gf=>?_⟩;rw[ae] at q;obtain⟨z,hz,q⟩:=iG (tL _ _ _) q;obtain⟨k1,k2,k3⟩:=aZ.keep eo2.ext er.gS;exact⟨p.1,p2.1,z,hK▸iH k1,hK▸iH eo2.val,hz,z,rfl,q _ (aZ.ext.trans eo2.ext) gf⟩
end
section
variable {X:Cx} {Φ:Fm} {Γ:Gm} {F:FT} {fr:Nat->Bool} {g:G}
theorem ak.emp {K:Frag} {A:Addr->Prop} {H:Hp} {xs:List V} {ds:List Dt} (h:ak K A H xs ds):ds.isEmpty=xs.isEmpty:=by
 have:=h.length;cases xs with
 | nil=>cases ds with
  | nil=>rfl
  | cons=>simp at this
 | cons=>cases ds with
  | nil=>simp at this
  | cons=>rfl
theorem Ic {a:Expr} {a':C} {pos:Pos} (ha:PE X a (bO Φ Γ F fr a')):PE X (.UnaryOp .USub a pos) (bO Φ Γ F fr (.neg a')):=bf (HK Fi ha) λσ H Q q=>by
 obtain⟨o,ρ,S,er,q⟩:=q;unfold ev at q;rw[ae] at q;refine⟨o,ρ,S,er,af q λp _ q x H1 aZ aE=>?_⟩;split at q
 ·rename_i i hi;have:=aZ.val;rw[hi] at this;refine⟨i,this.int_inv,q _ _ ?_ aE⟩;exact(EO.sc (Φ:=Φ) (fr:=fr) (o:=o) (H:=H1) (c:= .neg a') (d:= .int (-i)) rfl).vq aZ.ext λf=>by simp[fresh] at f
 ·exact q.elim
theorem Mg {a:Expr} {a':C} {pos:Pos} (ha:PE X a (bO Φ Γ F fr a')):PE X (.UnaryOp .Not a pos) (bO Φ Γ F fr (.nt a')):=bf (Es ha) λσ H Q q=>by
 obtain⟨o,ρ,S,er,q⟩:=q;unfold ev at q;rw[ae] at q;refine⟨o,ρ,S,er,af q λp _ q x H1 aZ aE=>?_⟩;split at q
 ·rename_i i hi;have:=aZ.val;rw[hi] at this;refine⟨i,this.aC,q _ _ ?_ aE⟩;exact(EO.sc (Φ:=Φ) (fr:=fr) (o:=o) (H:=H1) (c:= .nt a') (d:= .bl (!i)) rfl).vq aZ.ext λf=>by simp[fresh] at f
 ·exact q.elim
theorem Ig {a:Expr} {a':C} {pos:Pos} (ha:PT X a (fP Φ Γ F a')):PT X (.UnaryOp .Not a pos) (fP Φ Γ F (.nt a')):=sH (ED ha) λσ H Q q=>by obtain⟨o,ρ,S,er,q⟩:=q;unfold dw at q;rw[ae] at q;exact⟨o,ρ,S,er,af q λp _ q H1 e1 aE=>q _ e1 aE⟩
theorem HU {a b:Expr} {rest:List Expr} {a' b':C} {pos:Pos} (ha:PE X a (bO Φ Γ F fr a')) (hb:PE X (.BoolOp .And (b::rest) pos) (bO Φ Γ F fr b')):PE X (.BoolOp .And (a::b::rest) pos) (bO Φ Γ F fr (.and a' b')):=bf (Em ha hb) λσ H Q q=>by
 obtain⟨o,ρ,S,er,q⟩:=q;unfold ev at q;rw[ae] at q;refine⟨o,ρ,S,er,af q λp _ q x H1 aZ aE=>?_⟩;have sc:∀(H3:Hp) (t:Bool),aW o.d H H3->EO Φ.K fr o (.and a' b') H (.bl t) (.bl t) H3:=λH3 t e3=>
  (EO.sc (Φ:=Φ) (fr:=fr) (o:=o) (H:=H3) (c:= .and a' b') (d:= .bl t) rfl).vq e3 λf=>by simp[fresh] at f
 split at q
 ·rename_i hi;have:=aZ.val;rw[hi] at this;refine⟨true,this.aC,?_⟩;rw[ae] at q;refine⟨o,ρ,p.2,aE,af q λp2 _ q y H2 eo2 gf=>?_⟩;split at q
  ·rename_i c hc;have h2:=eo2.val;rw[hc] at h2;rw[h2.aC];exact q _ _ (sc H2 c (aZ.ext.trans eo2.ext)) gf
  ·exact q.elim
 ·rename_i hi;have:=aZ.val;rw[hi] at this;exact⟨false,this.aC,q _ _ (sc H1 false aZ.ext) aE⟩
 ·exact q.elim
theorem Mh {a b:Expr} {rest:List Expr} {a' b':C} {pos:Pos} (ha:PE X a (bO Φ Γ F fr a')) (hb:PE X (.BoolOp .Or (b::rest) pos) (bO Φ Γ F fr b')):PE X (.BoolOp .Or (a::b::rest) pos) (bO Φ Γ F fr (.or a' b')):=bf (HJ ha hb) λσ H Q q=>by
 obtain⟨o,ρ,S,er,q⟩:=q;unfold ev at q;rw[ae] at q;refine⟨o,ρ,S,er,af q λp _ q x H1 aZ aE=>?_⟩;have sc:∀(H3:Hp) (t:Bool),aW o.d H H3->EO Φ.K fr o (.or a' b') H (.bl t) (.bl t) H3:=λH3 t e3=>
  (EO.sc (Φ:=Φ) (fr:=fr) (o:=o) (H:=H3) (c:= .or a' b') (d:= .bl t) rfl).vq e3 λf=>by simp[fresh] at f
 split at q
 ·rename_i hi;have:=aZ.val;rw[hi] at this;refine⟨false,this.aC,?_⟩;rw[ae] at q;refine⟨o,ρ,p.2,aE,af q λp2 _ q y H2 eo2 gf=>?_⟩;split at q
  ·rename_i c hc;have h2:=eo2.val;rw[hc] at h2;rw[h2.aC];exact q _ _ (sc H2 c (aZ.ext.trans eo2.ext)) gf
  ·exact q.elim
 ·rename_i hi;have:=aZ.val;rw[hi] at this;exact⟨true,this.aC,q _ _ (sc H1 true aZ.ext) aE⟩
 ·exact q.elim
theorem ET {a b:Expr} {rest:List Expr} {a' b':C} {pos:Pos} (ha:PT X a (fP Φ Γ F a')) (hb:PW X (.BoolOp .And (b::rest) pos) (fP Φ Γ F b')):PW X (.BoolOp .And (a::b::rest) pos) (fP Φ Γ F (.and a' b')):=yZ (EF ha hb) λσ H Q q=>by
 obtain⟨o,ρ,S,er,q⟩:=q;unfold dw at q;rw[ae] at q;refine⟨o,ρ,S,er,af q λp _ q H1 e1 aE=>?_⟩;cases hp:p.1 with
 | true=>rw[hp] at q;rw[if_pos rfl];exact⟨o,ρ,p.2,aE,af q λp2 _ q H2 e2 gf=>q _ (e1.trans e2) gf⟩
 | false=>rw[hp] at q;rw[if_neg (by simp)];exact q _ e1 aE
theorem Ih {a b:Expr} {rest:List Expr} {a' b':C} {pos:Pos} (ha:PT X a (fP Φ Γ F a')) (hb:PW X (.BoolOp .Or (b::rest) pos) (fP Φ Γ F b')):PW X (.BoolOp .Or (a::b::rest) pos) (fP Φ Γ F (.or a' b')):=yZ (HM ha hb) λσ H Q q=>by
 obtain⟨o,ρ,S,er,q⟩:=q;unfold dw at q;rw[ae] at q;refine⟨o,ρ,S,er,af q λp _ q H1 e1 aE=>?_⟩;cases hp:p.1 with
 | false=>rw[hp] at q;rw[if_neg (by simp)];exact⟨o,ρ,p.2,aE,af q λp2 _ q H2 e2 gf=>q _ (e1.trans e2) gf⟩
 | true=>rw[hp] at q;rw[if_pos rfl];exact q _ e1 aE
theorem yC {a b:C}:(lk (.idx a b)=0\/lk (.idx a b)=2)/\(lk (.idx a b)<=1->lk a<=1):=by
 have e:lk (.idx a b)=if lk a<=1 then 0 else 2:=by rw[lk]
 rw[e];split
 ·rename_i h;exact⟨.inl rfl,λ_=>h⟩
 ·exact⟨.inr rfl,λz=>by lia⟩
theorem HY {a b:Expr} {a' b':C} {pos:Pos} (hK:Φ.K=X.K) (hs:nc b) (ha:PE X a (bO Φ Γ F fr a')) (hb:PE X b (bO Φ Γ F fr b')):PE X (.Subscript a b pos) (bO Φ Γ F fr (.idx a' b')):=bf (HG DO ha hb hs) λσ H Q q=>by
 obtain⟨o,ρ,S,er,q⟩:=q;unfold ev at q;rw[ae] at q;refine⟨o,ρ,S,er,af q λp _ q x H1 aZ aE=>?_⟩;rw[ae] at q;refine⟨o,ρ,p.2,aE,af q λp2 _ q y H2 eo2 gf=>?_⟩;rw[ae] at q;obtain⟨z,hz,q⟩:=jT (A6 _ _) q;obtain⟨k1,k2,k3⟩:=aZ.keep eo2.ext er.gS;refine⟨p.1,p2.1,z,hK▸iH k1,hK▸iH eo2.val,hz,λv pr=>?_⟩;rw[<-hK] at pr;have N8:∃i,p2.1= .int i:=by
  cases hd:p2.1 with
  | int i=>exact⟨i,rfl⟩
  | _=>rw[hd] at hz;unfold dk at hz;split at hz <;> first | (rename_i h;cases h;done) | (cases hz;done) | contradiction
 obtain⟨i,hi⟩:=N8;have v2:∀A:Addr->Prop,ft Φ.K A H2 y p2.1:=λA=>by have:=eo2.val;rw[hi] at this ⊢;rw[this.int_inv];exact(RV.dI (K:=Φ.K) (A:=A)).one
 obtain⟨e1,e2⟩:=EO.pr (fr:=fr) (H:=H) (c:= .idx a' b') gf (aZ.ext.trans eo2.ext) (ak.cons k1 (ak.cons eo2.val ak.nil)) (λl=>⟨k3 (yC.2 l),v2 _,trivial⟩) yC.1 pr λz=>by simp[fresh] at z
 exact q v H2 e1 e2
theorem j3 {a:Expr} {a':C} (hK:Φ.K=X.K) (ha:PE X a (bO Φ Γ F fr a')) (he:∀whole,isTrue a X.env whole=(do let v<-whole;standAt a.pos;holding [v] (truthy v)))
  (Na:∀ρ S,dw F a' ρ S=(ev F a' ρ S).bind λx=>(dU x.1).bind λb=> .ok (b,x.2)):PT X a (fP Φ Γ F a'):=sH (yY ha he) λσ H Q q=>by
 obtain⟨o,ρ,S,er,q⟩:=q;rw[Na,ae] at q;refine⟨o,ρ,S,er,af q λp _ q x H1 aZ aE=>?_⟩;rw[ae] at q;obtain⟨b,hb,q⟩:=iG (BV _) q;refine⟨b,?_,q _ aZ.ext aE⟩;have hv:=aZ.val;rw[hK] at hv;unfold dU at hb;split at hb
 ·rename_i hd;rw[hd] at hv;cases hb;rw[hv.aI];rfl
 ·rename_i hd;rw[hd] at hv;cases hb;rw[hv.aC];rfl
 ·rename_i hd;rw[hd] at hv;cases hb;rw[hv.int_inv];rfl
 ·rename_i hd;rw[hd] at hv;obtain⟨g1,hb⟩:=bg hb;cases hb;rw[hv.str_inv];exact⟨Qw (Qm g1) b8,rfl⟩
 ·rename_i hd;rw[hd] at hv;cases hb;obtain⟨a,xs,rfl,h1,_,h2⟩:=hv.lst_inv;refine .inl ⟨xs,dY.of h1,?_⟩;rw[h2.emp]
 ·rename_i hd;rw[hd] at hv;cases hb;obtain⟨a,xs,rfl,h1,h2⟩:=hv.ah;refine .inr (.inl ⟨xs,eL.of h1,?_⟩);rw[h2.emp]
 ·rename_i hd;rw[hd] at hv;cases hb;obtain⟨a,rfl,h1⟩:=hv.jg;refine .inl ⟨_,h1,?_⟩;simp
 ·cases hb
end
section
variable {X:Cx} {Φ:Fm} {Γ:Gm} {F:FT} {fr:Nat->Bool} {g:G}
theorem DY {a b:C} {c:C} (hc:lk c=if lk a<=1 then 0 else 2):(lk c=0\/lk c=2)/\(lk c<=1->lk a<=1):=by
 rw[hc];split
 ·rename_i h;exact⟨.inl rfl,λ_=>h⟩
 ·exact⟨.inr rfl,λz=>by lia⟩
theorem tU {o:Ow} {ρ:aj} {S:Sx} {σ:L2.St} {H H1 H2:Hp} {a' c:C} {d:Dt} {x:V} {lo hi:Option Int} {Q:VK} (hK:Φ.K=X.K) (hc:lk c=if lk a'<=1 then 0 else 2) (hf:fresh fr c=true->True) (er:ER Φ Γ o ρ S σ H2) (aZ:EO Φ.K fr o a' H d x H1) (e:aW o.d H1 H2)
  (q:mR Φ.Ek (iN d lo hi) λz=>∀v H3,EO Φ.K fr o c H z v H3->ER Φ Γ o ρ S σ H3->Q v H3):rS X.K x lo hi H2 Q:=by
 obtain⟨z,hz,q⟩:=jT (BQ _ _ _) q;obtain⟨k1,k2,k3⟩:=aZ.keep e er.gS;refine⟨d,z,hK▸iH k1,hz,λv H3 pr=>?_⟩;rw[<-hK] at pr;have hl:=DY (b:=c) hc;obtain⟨e1,e2⟩:=EO.pr (fr:=fr) (H:=H) (c:=c) er (aZ.ext.trans e) (ak.cons k1 ak.nil) (λl=>⟨k3 (hl.2 l),trivial⟩) hl.1 pr λ_=>rfl
 exact q v H3 e1 e2
theorem EZ {a l:Expr} {a' l':C} {p2 pos:Pos} (hK:Φ.K=X.K) (ha:PE X a (bO Φ Γ F fr a')) (hl:PE X l (bO Φ Γ F fr l')):PE X (.Subscript a (.Slice (some l) none none p2) pos) (bO Φ Γ F fr (.sliL a' l')):=bf (qd zj ha (uH hl) uG) λσ H Q q=>by
 obtain⟨o,ρ,S,er,q⟩:=q;unfold ev at q;rw[ae] at q;refine⟨o,ρ,S,er,af q λp _ q x H1 aZ aE=>?_⟩;rw[ae] at q;refine⟨o,ρ,p.2,aE,af q λp2 _ q y H2 eo2 gf=>?_⟩;split at q
 ·rename_i i hi;have hv:=eo2.val;rw[hi] at hv;refine⟨i,hv.int_inv,?_⟩;rw[ae] at q;exact tU hK (by rw[lk]) (λ_=>trivial) gf aZ eo2.ext (af q λz _ q v H3 e1 e2=>q v H3 e1 e2)
 ·exact q.elim
theorem EY {a l:Expr} {a' l':C} {p2 pos:Pos} (hK:Φ.K=X.K) (ha:PE X a (bO Φ Γ F fr a')) (hl:PE X l (bO Φ Γ F fr l')):PE X (.Subscript a (.Slice none (some l) none p2) pos) (bO Φ Γ F fr (.sliH a' l')):=bf (qd zj ha uG (uH hl)) λσ H Q q=>by
 obtain⟨o,ρ,S,er,q⟩:=q;unfold ev at q;rw[ae] at q;refine⟨o,ρ,S,er,af q λp _ q x H1 aZ aE=>?_⟩;rw[ae] at q;refine⟨o,ρ,p.2,aE,af q λp2 _ q y H2 eo2 gf=>?_⟩;split at q
 ·rename_i i hi;have hv:=eo2.val;rw[hi] at hv;refine⟨i,hv.int_inv,?_⟩;rw[ae] at q;exact tU hK (by rw[lk]) (λ_=>trivial) gf aZ eo2.ext (af q λz _ q v H3 e1 e2=>q v H3 e1 e2)
 ·exact q.elim
theorem Ie:PA X [] (lU Φ Γ F .nil):=yO gL λσ H Q q=>by obtain⟨o,ρ,S,er,q⟩:=q;exact q _ _ ⟨aW.refl,ak.nil,λ_=>ak.nil,λ_=>trivial⟩ er
theorem EV {e:Expr} {es:List Expr} {c:C} {cs:Cs} (hs:starEach (e::es) X.env=(false,eval e X.env)::starEach es X.env) (h:PE X e (bO Φ Γ F fr c)) (hr:PA X es (lU Φ Γ F cs)):PA X (e::es) (lU Φ Γ F (.cons c cs)):=yO (dC h hr hs) λσ H Q q=>by
 obtain⟨o,ρ,S,er,q⟩:=q;unfold gq at q;rw[ae] at q;refine⟨o,ρ,S,er,af q λp _ q x H1 aZ aE=>?_⟩;rw[ae] at q;refine⟨o,ρ,p.2,aE,af q λp2 _ q xs H2 eo2 gf=>?_⟩;obtain⟨k1,k2,k3⟩:=aZ.keep eo2.ext er.gS;have el:mI (.cons c cs)=max (lk c) (mI cs):=by rw[mI]
 exact q _ _ ⟨aZ.ext.trans eo2.ext,ak.cons k1 eo2.val,λl=>ak.cons (k2 (by lia)) (eo2.dq (by lia)),λl=>⟨k3 (by lia),eo2.oz (by lia)⟩⟩ gf
theorem Cy {cs:Cs} {c:C} (hc:lk c=if mI cs=0 then 0 else 2):(lk c<=1->lk c=0)/\(lk c=0->mI cs=0):=by
 rw[hc];split
 ·rename_i h;exact⟨λ_=>rfl,λ_=>h⟩
 ·exact⟨λz=>by lia,λz=>by lia⟩
theorem Ii {es:List Expr} {cs:Cs} {x1:Nat} {pos:Pos} (h:PA X es (lU Φ Γ F cs)):PE X (.Tuple es x1 pos) (bO Φ Γ F fr (.tup cs)):=bf (Ew h) λσ H Q q=>by
 obtain⟨o,ρ,S,er,q⟩:=q;unfold ev at q;rw[ae] at q;refine⟨o,ρ,S,er,af q λp _ q xs H1 aZ aE=>?_⟩;obtain⟨g1,q⟩:=aN q;refine⟨by rw[aZ.val.length];exact Qw (Qm g1) b8,λa ha=>?_⟩;have s:=Mx.cJ ha (.tup xs);have hl:=Cy (cs:=cs) (c:= .tup cs) (by rw[lk]);have q0:lk (.tup cs)=0->RV Φ.K o.A (upd H1 a (.tup xs)) (.ref a) (.tup p.1):=λl=>RV.dm aB ((aZ.dq (hl.2 l)).same s)
 exact q _ _ ⟨aZ.ext.trans (aW.of_same s),RV.dm aB (aZ.val.same s),q0,λl=>(q0 (hl.1 l)).one,λz=>by simp[fresh] at z⟩ (aE.grow s)
theorem Ia {es:List Expr} {cs:Cs} {pos:Pos} (h:PA X es (lU Φ Γ F cs)):PE X (.List es pos) (bO Φ Γ F fr (.lst cs)):=bf (Ep h) λσ H Q q=>by
 obtain⟨o,ρ,S,er,q⟩:=q;unfold ev at q;rw[ae] at q;refine⟨o,ρ,S,er,af q λp _ q xs H1 aZ aE=>?_⟩;obtain⟨g1,q⟩:=aN q;refine⟨by rw[aZ.val.length];exact Qw (Qm g1) b8,λa ha=>?_⟩;have s:=Mx.cJ ha (.lst xs);have hl:=Cy (cs:=cs) (c:= .lst cs) (by rw[lk]);have na:¬o.A a:=λz=>by obtain⟨y,hy⟩:=aE.al a z;rw[ha] at hy;cases hy
 have q0:lk (.lst cs)=0->RV Φ.K o.A (upd H1 a (.lst xs)) (.ref a) (.lst p.1):=λl=>RV.d8 aB na ((aZ.dq (hl.2 l)).same s)
 refine q _ _ ⟨aZ.ext.trans (aW.of_same s),RV.d8 aB (λz=>na (aE.gS a z)) (aZ.val.same s),q0,λl=>(q0 (hl.1 l)).one,λ_ ds e=>?_⟩ (aE.grow s);cases e;exact⟨a,xs,rfl,aE.eE aZ.ext ha,aB,(aZ.val.avoid ha).same s,λl=>((aZ.dq (hl.2 l)).avoid ha).same s⟩
theorem C4 (b:BI) (ds:List Dt):∀k,d5 b ds≠ .ex k:=by
 intro k;unfold d5;split <;> split
 all_goals first
  | (intro z;cases z;done)
  | (exact dg (λk z=>by cases z) k)
  | (split <;> first | (intro z;cases z;done) | (exact dg (λk z=>by cases z) k) | (split <;> first | (intro z;cases z;done) | (exact dg (λk z=>by cases z) k)))
  | (rename_i T d;unfold vG;split <;> (intro z;cases z))
theorem uu {b:BI} {cs:Cs}:(lk (.bi b cs)=0\/lk (.bi b cs)=2)/\(lk (.bi b cs)<=1->mI cs<=1):=by
 have e:lk (.bi b cs)=if mI cs<=1 then 0 else 2:=by rw[lk]
 rw[e];split
 ·rename_i h;exact⟨.inl rfl,λ_=>h⟩
 ·exact⟨.inr rfl,λz=>by lia⟩
theorem xI {b:BI} {cs:Cs} {σ:L2.St} {H:Hp} {Q:VK} (hK:Φ.K=X.K) (q:bO Φ Γ F fr (.bi b cs) σ H Q):Mo (rP X.K true (d5 b)) (lU Φ Γ F cs) σ H Q:=by
 obtain⟨o,ρ,S,er,q⟩:=q;unfold ev at q;rw[ae] at q;refine⟨o,ρ,S,er,af q λp _ q xs H1 aZ aE=>?_⟩;rw[ae] at q;obtain⟨z,hz,q⟩:=jT (C4 _ _) q;refine⟨p.1,z,hK▸D6 aZ.val,hz,λv H3 pr=>?_⟩;rw[<-hK] at pr;obtain⟨e1,e2⟩:=EO.pr (fr:=fr) (H:=H) (c:= .bi b cs) aE aZ.ext aZ.val (λl=>aZ.oz (uu.2 l)) uu.1 pr λ_=>rfl
 exact q v H3 e1 e2
end
noncomputable def Cs.len:Cs->Nat
 | .nil=>0
 | .cons _ cs=>cs.len + 1
theorem tR {F:FT}:∀{cs:Cs} {ρ:aj} {S:Sx} {p:List Dt×Sx},gq F cs ρ S= .ok p->p.1.length=cs.len
 | .nil,ρ,S,p,h=>by unfold gq at h;cases h;rfl
 | .cons c cs,ρ,S,p,h=>by
  unfold gq at h;cases h1:ev F c ρ S with
  | ok x=>
   rw[h1] at h;simp only[R.ao] at h;cases h2:gq F cs ρ x.2 with
   | ok y=>rw[h2] at h;cases h;simp[Cs.len,tR h2]
   | ex k=>rw[h2] at h;cases h
   | bad=>rw[h2] at h;cases h
  | ex k=>rw[h1] at h;cases h
  | bad=>rw[h1] at h;cases h
section
variable {X:Cx} {Φ:Fm} {Γ:Gm} {F:FT} {g:G} {xv:Nat->Value} {CX:j7} {k:Nat}
theorem pC {H H':Hp} (e:aW (λb=>(none:Option Addr)=some b) H H'):bE H H':=λb o h=>e.kp b o h (by simp)
theorem sI {K:Frag} {A:Addr->Prop} {H:Hp}:∀{ds:List Dt},ds.all oX=true->ak K A H (ds.map qO) ds
 | [],_=>ak.nil
 | d::ds,h=>by rw[List.all_cons,Qk] at h;exact ak.cons (qk h.1) (sI h.2)
theorem s_call {x:Str} {f np j:Nat} {fB:List Dt} {e:Expr} {es:List Expr} {cs:Cs} {p pos:Pos} (hX:HX g xv CX k F Φ X) (hG:Gl X x) (AS:(x==("__debug__":Str))=false) (yd:rE x g.fns=some (f,np,fB,false)) (hj:j<=fB.length) (hn:cs.len + (fB.drop j).length=np)
  (hs:starEach (e::es) X.env=(false,eval e X.env)::starEach es X.env) (gG:(backTo pos (starEach es X.env)).any (·.1)=false) (ha:PA X (e::es) (lU Φ Γ F cs)):PE X (.Call (.Name x p) (e::es) [] pos) (bO Φ Γ F g.fr (.call f cs (fB.drop j))):=by
 obtain⟨n,fx⟩:=hX.fx;obtain⟨fa,fd,ps,yq,hmg,OJ,hok,hb,G6⟩:=fx.fn x f np fB false yd;obtain⟨vn,oP,M6⟩:=hb j hj;refine bf (Bt hok hX.room hG hmg OJ M6 oP hX.pass ha AS hs gG) λσ H Q q=>?_
 obtain⟨o,ρ,S,er,q⟩:=q;unfold ev at q;rw[ae] at q;refine⟨o,ρ,S,er,af q λp hp q vs H1 aZ aE=>?_⟩;have Nq:(fB.drop j).all oX=true:=QV.mpr λd hd=>QV.mp G6 d (List.mem_of_mem_drop hd)
 rw[ae] at q;have el:lk (.call f cs (fB.drop j))=if mI cs=0 then 0 else 2:=by rw[lk]
 refine⟨?_,?_⟩
 ·rw[QB,aZ.val.length,Qu,tR hp];exact hn
 by_cases hl:mI cs=0
 ·rw[if_pos hl] at el;refine⟨o.A,none,p.1++fB.drop j,none,vs++(fB.drop j).map qO,⟨rfl,rfl,rfl⟩,?_,aE.al,?_⟩
  ·rw[<-hX.K];exact(aZ.dq hl).append (sI Nq)
  ·cases hr:F f (p.1++fB.drop j) none with
   | ok y=>rw[hr] at q;intro v H' fo;rw[<-hX.K] at fo;have sm:=pC fo.ext;refine q v H' ⟨aZ.ext.trans (aW.of_same sm),fo.val.weak aE.gS,λ_=>fo.val,λ_=>fo.val.one,λfc ds ed=>?_⟩ (aE.grow sm);obtain⟨a,xs,h1,h2,h3,h4⟩:=fo.fk fc ds ed;exact⟨a,xs,h1,aE.eE aZ.ext h2,h3,h4.weak λb z=>z.elim (λz=> .inl (aE.gS b z)) .inr,λ_=>h4⟩
   | ex kk=>rw[hr] at q;intro H' e';exact⟨kk,rfl,q,aE.ent.trans (e'.mono λb z=>by cases z)⟩
   | bad=>rw[hr] at q;exact q.elim
 ·rw[if_neg hl] at el;refine⟨o.wd,none,p.1++fB.drop j,none,vs++(fB.drop j).map qO,⟨rfl,rfl,rfl⟩,?_,aE.wK,?_⟩
  ·rw[<-hX.K];exact aZ.val.append (sI Nq)
  ·cases hr:F f (p.1++fB.drop j) none with
   | ok y=>rw[hr] at q;intro v H' fo;rw[<-hX.K] at fo;have sm:=pC fo.ext;refine q v H' ⟨aZ.ext.trans (aW.of_same sm),fo.val,λz=>by rw[el] at z;lia,λz=>by rw[el] at z;lia,λfc ds ed=>?_⟩ (aE.grow sm);obtain⟨a,xs,h1,h2,h3,h4⟩:=fo.fk fc ds ed;exact⟨a,xs,h1,aE.eE aZ.ext h2,h3,h4,λz=>by rw[el] at z;lia⟩
   | ex kk=>rw[hr] at q;intro H' e';exact⟨kk,rfl,q,aE.ent.trans (e'.mono λb z=>by cases z)⟩
   | bad=>rw[hr] at q;exact q.elim
theorem Av {t:Str} {T:String} (h:sV t=some T):bootBuiltins t=some (.type T):=by
 unfold sV at h;split at h
 ·rename_i e;cases h;rw[QI e];exact PyProof.Rows.boot_str
 split at h
 ·rename_i e;cases h;rw[QI e];exact PyProof.Rows.boot_int
 split at h
 ·rename_i e;cases h;rw[QI e];exact PyProof.Rows.boot_bool
 split at h
 ·rename_i e;cases h;rw[QI e];exact PyProof.Rows.boot_list
 split at h
 ·rename_i e;cases h;rw[QI e];exact PyProof.Rows.boot_tuple
 ·cases h
theorem BY {t:Str} {T:String} (h:sV t=some T):T="str"\/T="int"\/T="bool"\/T="list"\/T="tuple":=by
 unfold sV at h;split at h
 ·cases h;simp
 split at h
 ·cases h;simp
 split at h
 ·cases h;simp
 split at h
 ·cases h;simp
 split at h
 ·cases h;simp
 ·cases h
theorem DM {K:Frag} {A:Addr->Prop} {H:Hp} {x:V} {d:Dt} {T:String} {b:Bool} (hT:T="str"\/T="int"\/T="bool"\/T="list"\/T="tuple") (hx:RV K A H x d) (h:vG T d= .ok b):∃t,gZ K H x t/\PySem.W.kitOne K t (.type T)=some b:=by
 unfold vG at h;split at h
 ·cases h;rw[hx.str_inv];refine⟨_,.str _,?_⟩;rcases hT with rfl | rfl | rfl | rfl | rfl <;> rfl
 ·cases h;rw[hx.int_inv];refine⟨_,.int _,?_⟩;rcases hT with rfl | rfl | rfl | rfl | rfl <;> rfl
 ·cases h;rw[hx.aC];refine⟨_,.bl _,?_⟩;rcases hT with rfl | rfl | rfl | rfl | rfl <;> rfl
 ·cases h;obtain⟨a,xs,rfl,h1,_⟩:=hx.lst_inv;refine⟨_,.lst h1,?_⟩;rcases hT with rfl | rfl | rfl | rfl | rfl <;> rfl
 ·cases h;obtain⟨a,xs,rfl,h1,_⟩:=hx.ah;refine⟨_,.tup h1,?_⟩;rcases hT with rfl | rfl | rfl | rfl | rfl <;> rfl
 ·cases h;rw[hx.aI];refine⟨_,.bq,?_⟩;rcases hT with rfl | rfl | rfl | rfl | rfl <;> rfl
 ·cases h
theorem A8 (T:String) (d:Dt):∀k,vG T d≠ .ex k:=by intro k;unfold vG;split <;> (intro z;cases z)
theorem HZ {a:Expr} {a':C} {t:Str} {T:String} {p tp pos:Pos} (hK:Φ.K=X.K) (hG:Gl X "isinstance") (hm:X.mg "isinstance"=none) (Oe:Gl X t) (OL:X.mg t=none) (hT:sV t=some T) (hn:t≠"__name__") (AS:(t==("__debug__":Str))=false)
  (hs:starEach (a::[.Name t tp]) X.env=(false,eval a X.env)::starEach [.Name t tp] X.env) (ha:PE X a (bO Φ Γ F g.fr a')):PE X (.Call (.Name "isinstance" p) [a,.Name t tp] [] pos) (bO Φ Γ F g.fr (.bi (.isi T) (.cons a' .nil))):=by
 refine bf (qb Mx.xi hG hm PyProof.Rows.boot_isinstance (dC ha (dC (Br (v:= .ty T) Oe OL (Av hT) rfl hn AS) gL) hs) (by decide) (by decide) hs) λσ H Q q=>?_
 obtain⟨o,ρ,S,er,q⟩:=q;unfold ev gq gq at q;rw[ae,ae] at q;refine⟨o,ρ,S,er,af q λp hp q x H1 aZ aE=>?_⟩;simp only[R.ao] at q;have q:mR Φ.Ek ((d5 (.isi T) [p.1]).bind λd=>R.ok (d,p.2)) _:=q;unfold d5 at q;simp only at q;rw[ae,ae] at q;obtain⟨b,hb,q⟩:=iG (A8 _ _) q;obtain⟨ty,k1,k2⟩:=DM (BY hT) (hK▸aZ.val) hb;refine⟨x,T,ty,b,rfl,k1,k2,q _ _ ?_ aE⟩;exact(EO.sc (Φ:=Φ) (fr:=g.fr) (o:=o) (H:=H1) (c:= .bi (.isi T) (.cons a' .nil)) (d:= .bl b) rfl).vq aZ.ext λf=>by simp[fresh] at f
theorem boot_set:bootBuiltins "set"=some (.type "set"):=by decide +kernel
noncomputable def IG (te:TE):TE:=λσ H Q=>te σ H λv H1=>∃b l ys,v= .ref l/\H1 l=some (Mx.iw b (ys.map V.str))/\ys.length < 4000/\∀n zs es,H1 n=none->Mx.aY H1 zs es->es=aS ((dd ys).map Mx.D.str)->Q (.ref n) (upd H1 n (.lst zs))
theorem Bw {e:Expr} {te:TE} {p p2 pos gN:Pos} (hc:X.calm=true) (hu:X.A.units + 150 < cLine) (hg:Gl X "sorted") (hm:X.mg "sorted"=none) (pM:Gl X "set") (Aa:X.mg "set"=none) (he:PE X e te)
  (hs:starEach [e] X.env=[(false,eval e X.env)]) (rJ:starEach [.Call (.Name "set" p2) [e] [] gN] X.env=[(false,eval (.Call (.Name "set" p2) [e] [] gN) X.env)]:=by rfl):
  PE X (.Call (.Name "sorted" p) [.Call (.Name "set" p2) [e] [] gN] [] pos) (IG te):=by
 intro pins s σ H Q I h;refine wpAny_Call_Name_kw (d7 I hg hm PyProof.Rows.boot_sorted ?_ (by decide) (by decide));refine PyProof.Rows.callWith_builtin1 ?_ (by rw[rJ];rfl) (by rfl);rw[rJ];show wpAny _ _ (spliced ((false,eval (.Call (.Name "set" p2) [e] [] gN) X.env)::backTo pos [])) _ _ s;refine Calls.spliced_cons ?_;refine wpAny_Call_Name_kw (d7 I pM Aa boot_set ?_ (by decide) (by decide));refine PyProof.Rows.callWith_type1 ?_ (by rw[hs];rfl) (by rfl);rw[hs];show wpAny _ _ (spliced ((false,eval e X.env)::backTo gN [])) _ _ s;refine Calls.spliced_cons (bN (he pins s σ H _ I h) λu s1 ⟨v,H1,I1,r1,b,l,ys,e1,hl,hlen,q⟩=>?_);subst e1;cases r1;refine Calls.spliced_nil ?_;obtain⟨its,r',pl⟩:=Mx.bp I1 hl;have Nf:its.toArray.size=ys.length:=by have:=r'.length;rw[Qu] at this;simp[this]
 refine Mx.nr (I1.ok.hd hc) pl (by simpa using r') (by rw[Nf];unfold scanBound;lia) λh' tk ks hS yl kk=>?_
 refine Calls.spliced_nil ?_;have I2:Inv X pins σ H1 {s1 with heap:=h',toks:=tk}:=I1.kept kk;have fW:ks.Nodup:=by obtain⟨_,_,_,_,z,_⟩:=hS;exact z
 have pm:ks.Perm (dd ys):=lR fW (kv ys) λx=>(yl x).trans (nD ys x).symm
 refine Mx.sM hu hc I2 hS (by rw[pm.length_eq];exact Nat.lt_of_le_of_lt (xu ys) (Nat.lt_trans hlen (by decide))) λn zs es hn hz hso=>q n zs es hn hz ?_
 exact qp ⟨hso.1.trans (pm.map _),hso.2⟩
theorem gF {K:Frag} {A:Addr->Prop} {H:Hp} {x:V} {d:Dt} {ds:List Dt} (h:bw d=some ds) (hv:RV K A H x d):∃b l xs,x= .ref l/\H l=some (Mx.iw b xs)/\ak K A H xs ds:=by
 unfold bw at h;split at h
 ·cases h;obtain⟨a,xs,rfl,f1,fn,f2⟩:=hv.lst_inv;exact⟨false,a,xs,rfl,f1,f2⟩
 ·cases h;obtain⟨a,xs,rfl,f1,f2⟩:=hv.ah;exact⟨true,a,xs,rfl,f1,f2⟩
 ·cases h
theorem E0 {a:Expr} {a':C} {p p2 pos gN:Pos} (hK:Φ.K=X.K) (hc:X.calm=true) (hu:X.A.units + 150 < cLine) (hG:Gl X "sorted") (hm:X.mg "sorted"=none) (KF:Gl X "set") (Aa:X.mg "set"=none) (hs:starEach [a] X.env=[(false,eval a X.env)]) (ha:PE X a (bO Φ Γ F g.fr a')):
  PE X (.Call (.Name "sorted" p) [.Call (.Name "set" p2) [a] [] gN] [] pos) (bO Φ Γ F g.fr (.bi .sset (.cons a' .nil))):=by
 refine bf (Bw hc hu hG hm KF Aa ha hs) λσ H Q q=>?_
 obtain⟨o,ρ,S,er,q⟩:=q;unfold ev gq gq at q;rw[ae,ae] at q;refine⟨o,ρ,S,er,af q λp hp q x H1 aZ aE=>?_⟩;simp only[R.ao] at q;have q:mR Φ.Ek ((d5 .sset [p.1]).bind λd=>R.ok (d,p.2)) _:=q;unfold d5 at q;simp only at q;split at q
 ·rename_i ds yc;split at q
  ·rename_i ys hys;rw[ae] at q;obtain⟨gl,q⟩:=aN q;obtain⟨b,l,xs,rfl,f1,f2⟩:=gF yc aZ.val;rw[qu f2 hys] at f1;refine⟨b,l,ys,rfl,f1,Qm gl,λn zs es hn hz Ko=>?_⟩;have pr:PR Φ.K true [.ref l] [p.1] H1 (.lst (aa es)) (.ref n) (upd H1 n (.lst zs)):=PR.pY hn λA w=>ak.n8 hz
   have hl:=uu (b:= .sset) (cs:= .cons a' .nil);have el:mI (.cons a' .nil)=max (lk a') 0:=by rw[mI,mI]
   obtain⟨e1,e2⟩:=EO.pr (fr:=g.fr) (H:=H) (c:= .bi .sset (.cons a' .nil)) aE aZ.ext (ak.cons aZ.val ak.nil) (λl=>⟨aZ.oz (by have:=hl.2 l;lia),trivial⟩) hl.1 pr λ_=>rfl
   rw[Ko] at e1;exact q _ _ e1 e2
  ·exact q.elim
 ·exact q.elim
theorem j4 {K:Frag} {A:Addr->Prop} {H:Hp} {l:Addr} {d:Dt} {ds:List Dt} {b:Bool} {xs:List V} (h:bw d=some ds) (w:ft K A H (.ref l) d) (f:H l=some (Mx.iw b xs)):True/\ak K A H xs ds:=by
 refine⟨trivial,?_⟩;unfold bw at h;split at h
 ·cases h;obtain⟨a,oN,e,f1,f2⟩:=w;cases e;rw[f] at f1;cases b with
  | false=>cases f1;exact f2
  | true=>cases f1
 ·cases h;obtain⟨a,oN,e,f1,f2⟩:=w;cases e;rw[f] at f1;cases b with
  | false=>cases f1
  | true=>cases f1;exact f2
 ·cases h
theorem td {K:Frag} {A:Addr->Prop} {H:Hp}:∀{xs ys:List V} {ps:List Addr} {ds es:List Dt},ak K A H xs ds->ak K A H ys es->ps.length=min xs.length ys.length->Mx.Zd xs ys H ps->ak K A H (ps.map V.ref) (dR ds es)
 | [],ys,ps,ds,es,h1,h2,hl,hz=>by
  have:ps=[]:=List.length_eq_zero_iff.mp (by simpa using hl);subst this;have e:ds=[]:=by
   cases ds with
   | nil=>rfl
   | cons d r=>exact absurd h1.length (by simp)
  subst e;exact ak.nil
 | x::xs,[],ps,ds,es,h1,h2,hl,hz=>by
  have:ps=[]:=List.length_eq_zero_iff.mp (by simpa using hl);subst this;have e:es=[]:=by
   cases es with
   | nil=>rfl
   | cons d r=>exact absurd h2.length (by simp)
  subst e;unfold dR;rw[List.zipWith_nil_right];exact ak.nil
 | x::xs,y::ys,ps,ds,es,h1,h2,hl,hz=>by
  cases ds with
  | nil=>exact absurd h1.length (by simp)
  | cons d ds=>
   cases es with
   | nil=>exact absurd h2.length (by simp)
   | cons e es=>
    cases ps with
    | nil=>simp at hl
    | cons p ps=>obtain⟨x',r1,e1,k1,k2⟩:=h1.cons_inv;cases e1;obtain⟨y',r2,e2,l1,l2⟩:=h2.cons_inv;cases e2;refine ak.cons (RV.dm (hz 0 x y p rfl rfl rfl) (ak.cons k1 (ak.cons l1 ak.nil))) ?_;exact td k2 l2 (by simp at hl;lia) λj a b q h1 h2 h3=>hz (j + 1) a b q h1 h2 h3
theorem E1 {a b:Expr} {a' b':C} {p p2 pos gN:Pos} (hK:Φ.K=X.K) (hc:X.calm=true) (hG:Gl X "list") (hm:X.mg "list"=none) (KF:Gl X "zip") (Aa:X.mg "zip"=none) (hs:starEach [a,b] X.env=[(false,eval a X.env),(false,eval b X.env)]) (rK:starEach [b] X.env=[(false,eval b X.env)]) (ha:PA X [a,b] (lU Φ Γ F (.cons a' (.cons b' .nil)))):
  PE X (.Call (.Name "list" p) [.Call (.Name "zip" p2) [a,b] [] gN] [] pos) (bO Φ Γ F g.fr (.bi .zipL (.cons a' (.cons b' .nil)))):=by
 refine bf (Mx.sE hc hG hm KF Aa ha hs rK) λσ H Q q=>?_
 obtain⟨o,ρ,S,er,q⟩:=q;unfold ev at q;rw[ae] at q;refine⟨o,ρ,S,er,af q λp hp q vs H1 eo aE=>?_⟩;obtain⟨p1,p2⟩:=p;have hlen:=eo.val.length
 match p1,vs,eo,q with
 | [d,e],vs,eo,q=>
  obtain⟨x,y,rfl,hx,hy⟩:=uY eo.val;unfold d5 at q;simp only at q;split at q
  ·rename_i ds es yc hes;rw[ae] at q;obtain⟨gl,q⟩:=aN q;obtain⟨b1,l1,xs,rfl,f1,f2⟩:=gF yc hx;obtain⟨b2,l2,ys,rfl,g1,g2⟩:=gF hes hy;refine⟨b1,b2,l1,l2,xs,ys,rfl,f1,g1,?_,λn ps H2 hn t7 hN yq hz=>?_⟩
   ·rw[f2.length];exact Qw (Qm gl) b8
   ·have pr:PR Φ.K true [.ref l1,.ref l2] [d,e] H1 (.lst (dR ds es)) (.ref n) H2:=by
     have rv:∀A:Addr->Prop,lJ Φ.K A H1 [.ref l1,.ref l2] [d,e]->ak Φ.K A H2 (ps.map V.ref) (dR ds es):=λA w=>by obtain⟨MK,k1⟩:=j4 yc w.1 f1;obtain⟨PK,k2⟩:=j4 hes w.2.1 g1;exact td (k1.same t7) (k2.same t7) yq hz
     refine⟨t7,λA hA w=>RV.d8 hN (λz=>?_) (rv A w),λ_ df ee=>⟨n,_,rfl,hn,hN,λA hA w=>?_⟩⟩
     ·obtain⟨o',oQ⟩:=hA n z;rw[hn] at oQ;cases oQ
     ·cases ee;refine(td ?_ ?_ yq hz)
      ·obtain⟨MK,k1⟩:=j4 yc w.1 f1;exact(k1.bF (B:=λb=>A b\/b=n) λb z=>z.elim .inl λe=> .inr (by rw[e];exact hn)).same t7
      ·obtain⟨MK,k1⟩:=j4 hes w.2.1 g1;exact(k1.bF (B:=λb=>A b\/b=n) λb z=>z.elim .inl λe=> .inr (by rw[e];exact hn)).same t7
    have hl:=uu (b:= .zipL) (cs:= .cons a' (.cons b' .nil));obtain⟨e1,e2⟩:=EO.pr (fr:=g.fr) (H:=H) (c:= .bi .zipL (.cons a' (.cons b' .nil))) aE eo.ext eo.val (λl=>eo.oz (hl.2 l)) hl.1 pr λ_=>rfl
    exact q _ _ e1 e2
  ·exact q.elim
 | [],vs,eo,q=>exact q.elim
 | [d],vs,eo,q=>exact q.elim
 | d::e::f::r,vs,eo,q=>exact q.elim
end
noncomputable def Lx (K:Frag) (tl:TE):TI:=λσ H R=>tl σ H λx H1=>(∃a xs,x= .ref a/\dY K H1 a xs/\R (IY K a) H1)\/(∃a xs,x= .ref a/\eL K H1 a xs/\R (J0 K a) H1)
theorem Ez {X:Cx} {tg l:Expr} {tl:TE} (hl:PE X l tl):PI X tg l (Lx X.K tl):=by
 intro pins s σ H R I h;refine bN (hl pins s σ H _ I h) λv s1 ⟨x,H1,I1,r1,q1⟩=>?_
 rcases q1 with ⟨a,xs,e,hq,q⟩ | ⟨a,xs,e,hq,q⟩
 ·subst e;cases r1;obtain⟨its,rv,p,hz⟩:=I1.list hq;refine wpAny_pyIter_list p.isList ?_;refine⟨s1.heap.objs.size,[s1.heap.objs.size],_,_,H1,rfl,I1.kept (t':=s1.toks) λb o e=>Qi _ e,wg a _,⟨_,Qs _ rfl,rfl,rfl⟩,λb hb=>?_,q⟩;have e:b=s1.heap.objs.size:=by simpa using hb
  subst e;exact I1.pF (Qq _) (I1.hok.fresh (Qq _))
 ·subst e;cases r1;obtain⟨its,rv,p,hz⟩:=I1.tuple hq;refine wpAny_pyIter_tuple (show s1.heap.IsTuple a its.toArray from p) ?_;refine⟨s1.heap.objs.size,[s1.heap.objs.size],_,_,H1,rfl,I1.kept (t':=s1.toks) λb o e=>Qi _ e,sT a _,⟨_,Qs _ rfl,rfl,rfl⟩,λb hb=>?_,q⟩;have e:b=s1.heap.objs.size:=by simpa using hb
  subst e;exact I1.pF (Qq _) (I1.hok.fresh (Qq _))
section
variable {X:Cx} {Φ:Fm} {Γ:Gm} {F:FT} {g:G} {xv:Nat->Value} {CX:j7} {k:Nat} {K:Frag}
theorem u9 {A Y:Addr->Prop} {a:Addr} {xs:List V} {ds:List Dt} {H:Hp} (ha:H a=some (.lst xs)) (hn:¬Y a) (hY:∀b,Y b->A b) (h:ak K A H xs ds):Wk K A Y (IY K a) H ds where
 go:=λi H1 hi e=>⟨xs,xs[i]'(by rw[h.length];exact hi),dY.of (e.kp _ _ ha hn),by simp⟩
 stop:=λH1 e=>⟨xs,dY.of (e.kp _ _ ha hn),by rw[h.length];exact Qq _⟩
 yld:=λi x H1 H2 hi e y=>by obtain⟨rfl,y⟩:=y;obtain⟨d,h1,h2⟩:=h.get (y xs (dY.of (e.kp _ _ ha hn)));exact⟨bE.refl _,d,h1,λB hB=>(h2.bF (B:=λb=>A b\/B b) λb z=>z.elim .inl (hB b)).mono e (λb z=> .inl (hY b z)) λ_ z=> .inr z⟩
theorem sY {A Y:Addr->Prop} {a:Addr} {xs:List V} {ds:List Dt} {H:Hp} (ha:H a=some (.tup xs)) (hY:∀b,Y b->A b) (h:ak K A H xs ds):Wk K A Y (J0 K a) H ds where
 go:=λi H1 hi e=>⟨xs,xs[i]'(by rw[h.length];exact hi),eL.of (e.tp _ _ ha),by simp⟩
 stop:=λH1 e=>⟨xs,eL.of (e.tp _ _ ha),by rw[h.length];exact Qq _⟩
 yld:=λi x H1 H2 hi e y=>by obtain⟨rfl,y⟩:=y;obtain⟨d,h1,h2⟩:=h.get (y xs (eL.of (e.tp _ _ ha)));exact⟨bE.refl _,d,h1,λB hB=>(h2.bF (B:=λb=>A b\/B b) λb z=>z.elim .inl (hB b)).mono e (λb z=> .inl (hY b z)) λ_ z=> .inr z⟩
theorem zE {A Y:Addr->Prop} {a:Addr} {ns:List Int} {H:Hp} (ha:(Rd H a (.lst (ns.map V.int))/\¬Y a)\/KL K a (ns.map V.int)):Wk K A Y (IY K a) H (ns.map Dt.int):=by
 have sq:∀H1,aW Y H H1->dY K H1 a (ns.map V.int):=λH1 e=>by
  rcases ha with ⟨h,n⟩ | h
  ·exact .inl (y9 e n h)
  ·exact .inr h
 refine⟨λi H1 hi e=>?_,λH1 e=>⟨_,sq H1 e,by simp⟩,λi x H1 H2 hi e y=>?_⟩
 ·rw[Qu] at hi;exact⟨_,.int ns[i],sq H1 e,by simp[hi]⟩
 ·obtain⟨rfl,y⟩:=y;have:=y _ (sq _ e);rw[QE] at this;obtain⟨m,h1,rfl⟩:=QA.mp this;exact⟨bE.refl _,.int m,by simp[h1],λ_ _=>RV.dI⟩
theorem sX {A Y:Addr->Prop} {lo:Int} {n:Nat} {H:Hp}:Wk K A Y (IZ lo n) H (bj lo n) where
 go:=λi H1 hi e=>by unfold bj at hi;simp at hi;exact hi
 stop:=λH1 e=>by unfold bj;simp only[Qu,List.length_range];exact Qq _
 yld:=λi x H1 H2 hi e y=>by obtain⟨rfl,rfl⟩:=y;unfold bj at hi;simp at hi;exact⟨bE.refl _,.int (lo + i),by unfold bj;simp[hi],λ_ _=>RV.dI⟩
theorem zc {tg a:Expr} {a':C} (hK:Φ.K=X.K) (ha:PE X a (bO Φ Γ F g.fr a')):PI X tg a (oH Φ Γ F (.seq a')):=oh (Ez ha) λσ H Q q=>by
 obtain⟨o,ρ,S,er,q⟩:=q;unfold fj at q;rw[ae] at q;refine⟨o,ρ,S,er,af q λp he q x H1 aZ aE=>?_⟩;have vD:vK (.seq a')=lk a':=rfl;cases hd:p.1 with
 | lst ds=>
  rw[hd] at q;have hv:=aZ.val;have h0:=aZ.dq;have h1:=aZ.oz;rw[hd] at hv h0 h1;obtain⟨b,xs,rfl,f1,fn,f2⟩:=hv.lst_inv;refine .inl ⟨b,xs,rfl,dY.of f1,q _ _ ⟨aZ.ext,λl=>?_,λl=>?_,λl=>by unfold iY at l;rw[he] at l;simp only[hd,lI] at l;cases l⟩ aE⟩
  ·rw[<-hK];exact u9 f1 (λz=>fn (.inr z)) aE.da (ft.aP (h1 (by rw[vD] at l;exact l)) f1)
  ·rw[<-hK];have:=h0 (by rw[vD] at l;exact l);obtain⟨b',oN,e',g1,gn,g2⟩:=this.lst_inv;cases e';exact u9 g1 gn (λ_ z=>z) g2
 | tup ds=>
  rw[hd] at q;have hv:=aZ.val;have h0:=aZ.dq;have h1:=aZ.oz;rw[hd] at hv h0 h1;obtain⟨b,xs,rfl,f1,f2⟩:=hv.ah;refine .inr ⟨b,xs,rfl,eL.of f1,q _ _ ⟨aZ.ext,λl=>?_,λl=>?_,λl=>?_⟩ aE⟩
  ·rw[<-hK];exact sY f1 aE.da (ft.ay (h1 (by rw[vD] at l;exact l)) f1)
  ·rw[<-hK];exact sY f1 (λ_ z=>z) (ft.ay (h0 (by rw[vD] at l;exact l)).one f1)
  ·rw[<-hK];unfold iY at l;rw[he] at l;simp only[hd] at l;exact sY f1 (λ_ z=>z) (ft.ay (hv.lI l:RV Φ.K o.A H1 (.ref b) (.tup ds)).one f1)
 | br ns=>
  rw[hd] at q;have hv:=aZ.val;have h0:=aZ.dq;rw[hd] at hv h0;obtain⟨b,rfl,hb⟩:=hv.fZ;have Jw:dY X.K H1 b (ns.map V.int):=by
   rw[<-hK];rcases hb with hb | hb
   ·exact .inl hb.1
   ·exact .inr hb
  refine .inl ⟨b,_,rfl,Jw,q _ _ ⟨aZ.ext,λl=>?_,λl=>?_,λl=>by unfold iY at l;rw[he] at l;simp only[hd,lI] at l;cases l⟩ aE⟩
  ·rw[<-hK];exact zE (hb.imp (λz=>⟨z.1,λw=>z.2 (.inr w)⟩) id)
  ·rw[<-hK];obtain⟨b',e',jK⟩:=(h0 (by rw[vD] at l;exact l)).fZ;cases e';exact zE jK
 | _=>rw[hd] at q;exact q.elim
theorem EX {tg a:Expr} {a':C} {p pos:Pos} (hG:Gl X "range") (hm:X.mg "range"=none) (hs:starEach [a] X.env=[(false,eval a X.env)]) (ha:PE X a (bO Φ Γ F g.fr a')):PI X tg (.Call (.Name "range" p) [a] [] pos) (oH Φ Γ F (.rng1 a')):=
 oh (vS hG hm (dC ha gL (by rw[hs];rfl)) hs) λσ H Q q=>by
 obtain⟨o,ρ,S,er,q⟩:=q;unfold fj at q;rw[ae] at q;refine⟨o,ρ,S,er,af q λp _ q x H1 aZ aE=>?_⟩;cases hd:p.1 with
 | int j=>rw[hd] at q;obtain⟨g1,q⟩:=aN q;rw[Qk] at g1;have a1:=Qm g1.1;have a2:=Qm g1.2;have hl:lim=1000000:=rfl;have hv:=aZ.val;rw[hd] at hv;exact⟨j,by rw[hv.int_inv],by lia,by lia,q _ _ ⟨aZ.ext,λ_=>sX,λ_=>sX,λ_=>sX⟩ aE⟩
 | _=>rw[hd] at q;exact q.elim
theorem zF {A Y:Addr->Prop} {b1 b2:Bool} {l1 l2:Addr} {xs ys:List V} {ds es:List Dt} {H:Hp} (h1:H l1=some (Mx.iw b1 xs)) (h2:H l2=some (Mx.iw b2 ys)) (n1:b1=false->¬Y l1) (n2:b2=false->¬Y l2) (hY:∀b,Y b->A b) (g1:ak K A H xs ds) (g2:ak K A H ys es):Wk K A Y (Mx.JZ b1 b2 l1 l2) H (dR ds es):=by
 have k1:∀H1,aW Y H H1->H1 l1=some (Mx.iw b1 xs):=λH1 e=>by
  cases b1 with
  | false=>exact e.kp _ _ h1 (n1 rfl)
  | true=>exact e.tp _ _ h1
 have k2:∀H1,aW Y H H1->H1 l2=some (Mx.iw b2 ys):=λH1 e=>by
  cases b2 with
  | false=>exact e.kp _ _ h2 (n2 rfl)
  | true=>exact e.tp _ _ h2
 have hz:(dR ds es).length=min xs.length ys.length:=by unfold dR;rw[List.length_zipWith,g1.length,g2.length]
 refine⟨λi H1 hi e=>?_,λH1 e=>?_,λi x H1 H2 hi e y=>?_⟩
 ·rw[hz] at hi;exact⟨xs,ys,xs[i]'(by lia),ys[i]'(by lia),k1 H1 e,k2 H1 e,by simp,by simp⟩
 ·exact⟨xs,ys,k1 H1 e,k2 H1 e,by lia⟩
 ·obtain⟨p,x1,y1,rfl,hp,rfl,q⟩:=y;obtain⟨q1,q2⟩:=q xs ys (k1 H1 e) (k2 H1 e);obtain⟨d,a1,a2⟩:=g1.get q1;obtain⟨c,c1,c2⟩:=g2.get q2;have s:=Mx.cJ hp (.tup [x1,y1]);refine⟨s,.tup [d,c],by unfold dR;rw[List.getElem?_zipWith,a1,c1],λB hB=>RV.dm aB ?_⟩;have av:∀{v:V} {dd:Dt},RV K A H v dd->RV K B (upd H1 p (.tup [x1,y1])) v dd:=λh=>((h.bF (B:=λb=>A b\/B b) λb z=>z.elim .inl (hB b)).mono e (λb z=> .inl (hY b z)) λ_ z=> .inr z).same s
  exact ak.cons (av a2) (ak.cons (av c2) ak.nil)
theorem cK {A B:Addr->Prop} {H:Hp} {x:V} {d:Dt} {ds:List Dt} (h:bw d=some ds) (hv:RV K A H x d) (h1:ft K B H x d):∃b l xs,x= .ref l/\H l=some (Mx.iw b xs)/\(b=false->¬A l)/\ak K B H xs ds:=by
 unfold bw at h;split at h
 ·cases h;obtain⟨a,xs,rfl,f1,fn,f2⟩:=hv.lst_inv;exact⟨false,a,xs,rfl,f1,λ_=>fn,ft.aP h1 f1⟩
 ·cases h;obtain⟨a,xs,rfl,f1,f2⟩:=hv.ah;exact⟨true,a,xs,rfl,f1,λz=>(by cases z),ft.ay h1 f1⟩
 ·cases h
theorem Ik {es:List Expr} {kk:Nat} {tp:Pos} {a b:Expr} {a' b':C} {p pos:Pos} (hK:Φ.K=X.K) (hG:Gl X "zip") (hm:X.mg "zip"=none) (hs:starEach [a,b] X.env=[(false,eval a X.env),(false,eval b X.env)]) (rJ:starEach [b] X.env=[(false,eval b X.env)]) (ha:PE X a (bO Φ Γ F g.fr a')) (hb:PE X b (bO Φ Γ F g.fr b')):
  PI X (.Tuple es kk tp) (.Call (.Name "zip" p) [a,b] [] pos) (oH Φ Γ F (.zip a' b')):=
 oh (Mx.Bz hG hm (dC ha (dC hb gL (by rw[rJ];rfl)) (by rw[hs,rJ])) hs rJ) λσ H Q q=>by
 obtain⟨o,ρ,S,er,q⟩:=q;unfold fj at q;rw[ae] at q;refine⟨o,ρ,S,er,af q λp _ q x H1 aZ aE=>?_⟩;rw[ae] at q;refine⟨o,ρ,p.2,aE,af q λp2 _ q y H2 eo2 gf=>?_⟩;have vD:vK (.zip a' b')=max (lk a') (lk b'):=rfl;split at q
 ·rename_i ds es e1 e2;obtain⟨k1,k2,k3⟩:=aZ.keep eo2.ext er.gS;obtain⟨c1,l1,xs,rfl,f1,Kr,f2⟩:=cK e1 k1 k1.one;obtain⟨c2,l2,ys,rfl,g1,N5,g2⟩:=cK e2 eo2.val eo2.val.one;refine⟨c1,c2,l1,l2,xs,ys,rfl,f1,g1,q _ _ ⟨aZ.ext.trans eo2.ext,λl=>?_,λl=>?_,λl=>by unfold iY at l;cases l⟩ gf⟩
  ·rw[vD] at l;obtain⟨xg,LD,oN,e',rD,_,Dl⟩:=cK e1 k1 (k3 (by lia));obtain⟨Gd,Pa,JO,Cd,Dq,_,Ku⟩:=cK e2 eo2.val (eo2.oz (by lia));cases e';cases Cd;have i1:c1=xg/\xs=oN:=by rw[f1] at rD;cases c1 <;> cases xg <;> first | (cases rD;exact⟨rfl,rfl⟩) | cases rD
   have i2:c2=Gd/\ys=JO:=by rw[g1] at Dq;cases c2 <;> cases Gd <;> first | (cases Dq;exact⟨rfl,rfl⟩) | cases Dq
   obtain⟨rfl,rfl⟩:=i1;obtain⟨rfl,rfl⟩:=i2;exact zF f1 g1 (λz w=>Kr z (.inr w)) (λz w=>N5 z (.inr w)) gf.da Dl Ku
  ·rw[vD] at l;obtain⟨xg,LD,oN,e',rD,Hq,Dl⟩:=cK e1 (k2 (by lia)) (k2 (by lia)).one;obtain⟨Gd,Pa,JO,Cd,Dq,JE,Ku⟩:=cK e2 (eo2.dq (by lia)) (eo2.dq (by lia)).one;cases e';cases Cd;have i1:c1=xg/\xs=oN:=by rw[f1] at rD;cases c1 <;> cases xg <;> first | (cases rD;exact⟨rfl,rfl⟩) | cases rD
   have i2:c2=Gd/\ys=JO:=by rw[g1] at Dq;cases c2 <;> cases Gd <;> first | (cases Dq;exact⟨rfl,rfl⟩) | cases Dq
   obtain⟨rfl,rfl⟩:=i1;obtain⟨rfl,rfl⟩:=i2;exact zF f1 g1 Hq JE (λ_ z=>z) Dl Ku
 ·exact q.elim
theorem mw:∀(ds:List Dt) (k i:Nat) (d:Dt),ds[i]?=some d->(dG k ds)[i]?=some (.tup [.int ((k + i:Nat):Int),d])
 | [],k,i,d,h=>by simp at h
 | x::ds,k,0,d,h=>by simp at h;subst h;rfl
 | x::ds,k,i + 1,d,h=>by have:=mw ds (k + 1) i d (by simpa using h);show (dG (k + 1) ds)[i]?=_;rw[this,show k + 1 + i=k + (i + 1) by lia]
theorem my:∀(ds:List Dt) (k:Nat),(dG k ds).length=ds.length
 | [],_=>rfl
 | x::ds,k=>by show (dG (k + 1) ds).length + 1=_;rw[my ds (k + 1)];rfl
theorem u7 {A Y:Addr->Prop} {b:Bool} {l:Addr} {xs:List V} {ds:List Dt} {H:Hp} (h1:H l=some (Mx.iw b xs)) (n1:b=false->¬Y l) (hY:∀b,Y b->A b) (g1:ak K A H xs ds):Wk K A Y (Mx.JY b l) H (dG 0 ds):=by
 have k1:∀H1,aW Y H H1->H1 l=some (Mx.iw b xs):=λH1 e=>by
  cases b with
  | false=>exact e.kp _ _ h1 (n1 rfl)
  | true=>exact e.tp _ _ h1
 have hl:=g1.length;have hz:=my ds 0;refine⟨λi H1 hi e=>?_,λH1 e=>?_,λi x H1 H2 hi e y=>?_⟩
 ·exact⟨xs,xs[i]'(by lia),k1 H1 e,by simp⟩
 ·exact⟨xs,k1 H1 e,by lia⟩
 ·obtain⟨p,x1,rfl,hp,rfl,q⟩:=y;have q1:=q xs (k1 H1 e);obtain⟨d,a1,a2⟩:=g1.get q1;have s:=Mx.cJ hp (.tup [.int i,x1]);refine⟨s,.tup [.int i,d],by rw[mw ds 0 i d a1,Nat.zero_add],λB hB=>RV.dm aB ?_⟩;exact ak.cons RV.dI (ak.cons (((a2.bF (B:=λb=>A b\/B b) λb z=>z.elim .inl (hB b)).mono e (λb z=> .inl (hY b z)) λ_ z=> .inr z).same s) ak.nil)
theorem EW {es:List Expr} {kk:Nat} {tp:Pos} {a:Expr} {a':C} {p pos:Pos} (hK:Φ.K=X.K) (hG:Gl X "enumerate") (hm:X.mg "enumerate"=none) (hs:starEach [a] X.env=[(false,eval a X.env)]) (ha:PE X a (bO Φ Γ F g.fr a')):
  PI X (.Tuple es kk tp) (.Call (.Name "enumerate" p) [a] [] pos) (oH Φ Γ F (.enum a')):=
 oh (Mx.yS hG hm (dC ha gL (by rw[hs];rfl)) hs) λσ H Q q=>by
 obtain⟨o,ρ,S,er,q⟩:=q;unfold fj at q;rw[ae] at q;refine⟨o,ρ,S,er,af q λp _ q x H1 aZ aE=>?_⟩;have vD:vK (.enum a')=lk a':=rfl;split at q
 ·rename_i ds e1;obtain⟨c1,l1,xs,rfl,f1,Kr,f2⟩:=cK e1 aZ.val aZ.val.one;refine⟨c1,l1,xs,rfl,f1,q _ _ ⟨aZ.ext,λl=>?_,λl=>?_,λl=>by unfold iY at l;cases l⟩ aE⟩
  ·rw[vD] at l;obtain⟨xg,LD,oN,e',rD,_,Dl⟩:=cK e1 aZ.val (aZ.oz l);cases e';have i1:c1=xg/\xs=oN:=by rw[f1] at rD;cases c1 <;> cases xg <;> first | (cases rD;exact⟨rfl,rfl⟩) | cases rD
   obtain⟨rfl,rfl⟩:=i1;exact u7 f1 (λz w=>Kr z (.inr w)) aE.da Dl
  ·rw[vD] at l;obtain⟨xg,LD,oN,e',rD,Hq,Dl⟩:=cK e1 (aZ.dq l) (aZ.dq l).one;cases e';have i1:c1=xg/\xs=oN:=by rw[f1] at rD;cases c1 <;> cases xg <;> first | (cases rD;exact⟨rfl,rfl⟩) | cases rD
   obtain⟨rfl,rfl⟩:=i1;exact u7 f1 Hq (λ_ z=>z) Dl
 ·exact q.elim
end
noncomputable def zu:List Nat->wI
 | []=>Dr
 | i::is=>xO (ey i) (zu is)
noncomputable def CM (K:Frag):Tg->TG
 | .nm i=>ey i
 | .tp is=>Ds K is.length (zu is)
section
variable {X:Cx} {Φ:Fm} {Γ:Gm} {F:FT} {g:G} {xv:Nat->Value} {CX:j7} {k:Nat} {K:Frag}
theorem k8 {x:Str} {i:Nat} (h:fO Γ x=some i):yD (Γ.names.lookup x)=true/\d9 x=true/\Γ.N[i]?=some x:=by
 unfold fO at h;split at h
 ·rename_i c;rw[Qk] at c;exact⟨c.1,c.2,nU h⟩
 ·cases h
theorem uR {x:Str} {i:Nat} (h:slot Γ x=some i):zD (Γ.names.lookup x)=true/\d9 x=true/\Γ.N[i]?=some x:=by
 unfold slot at h;split at h
 ·rename_i c;rw[Qk] at c;exact⟨c.1,c.2,nU h⟩
 ·cases h
theorem iJ {e:Expr} {i:Nat} (h:p9 Γ e=some i):∃x p,e= .Name x p/\fO Γ x=some i/\plainS Γ i=true:=by
 unfold p9 at h;split at h
 ·rename_i x p;obtain⟨j,h1,h2⟩:=Qh.mp h;split at h2
  ·cases h2;exact⟨x,p,rfl,h1,by assumption⟩
  ·cases h2
 ·cases h
theorem CG {e:Expr} {i:Nat} (gx:GX g Γ X) (h:p9 Γ e=some i):PG X e (ey i):=by obtain⟨x,p,rfl,h1,_⟩:=iJ h;obtain⟨a,b,c⟩:=k8 h1;obtain⟨l1,l2⟩:=gx.loc x a;exact Bx (gx.N▸gx.nd) (by rw[gx.N];exact c) l1 l2
theorem CH (gx:GX g Γ X):∀{es:List Expr} {is:List Nat},jc Γ es=some is->FY X es (zu is)/\es.length=is.length/\∀e∈es,∃x p,e= .Name x p
 | [],is,h=>by cases h;exact⟨By,rfl,λe z=>by cases z⟩
 | e::es,is,h=>by
  unfold jc at h;obtain⟨i,h1,h2⟩:=Qh.mp h;obtain⟨js,h3,rfl⟩:=QA.mp h2;obtain⟨k1,k2,k3⟩:=CH gx h3;obtain⟨x,p,ex,_⟩:=iJ h1;refine⟨yR (CG gx h1) k1 (by subst ex;rfl),by simp[k2],λe' z=>?_⟩;rcases Qx.mp z with rfl | z
  ·exact⟨x,p,ex⟩
  ·exact k3 e' z
theorem kT {env:Env}:∀{es:List Expr},(∀e∈es,∃x p,e=Expr.Name x p)->(assignEach es env).length=es.length/\(assignEach es env).findIdx? (·.1)=none
 | [],_=>⟨rfl,rfl⟩
 | e::es,h=>by
  obtain⟨x,p,rfl⟩:=h e Qr;obtain⟨h1,h2⟩:=kT (es:=es) (env:=env) λe' z=>h e' (Qo _ z)
  have q:assignEach (Expr.Name x p::es) env=(false,assign (.Name x p) env)::assignEach es env:=rfl;rw[q];refine⟨by simp[h1],?_⟩;rw[List.findIdx?_cons];simp[h2]
theorem sJ {e:Expr} {t:Tg} (gx:GX g Γ X) (h:ra Γ e=some t):PG X e (CM X.K t):=by
 unfold ra at h;split at h
 ·obtain⟨i,h1,rfl⟩:=QA.mp h;exact CG gx h1
 ·obtain⟨is,h1,rfl⟩:=QA.mp h;obtain⟨k1,k2,k3⟩:=CH gx h1;obtain⟨n1,n2⟩:=kT (env:=X.env) k3;exact Ey gx.calm k1 (by rw[n1,k2]) n2
 ·cases h
theorem fQ {e:Expr} {t:Tg} (h:ra Γ e=some t):∀i∈aT t,plainS Γ i=true/\∃x,fO Γ x=some i:=by
 have many:∀{es:List Expr} {is:List Nat},jc Γ es=some is->∀i∈is,plainS Γ i=true/\∃x,fO Γ x=some i:=by
  intro es
  induction es with
  | nil=>intro is h i hi;cases h;cases hi
  | cons e es ih=>
   intro is h i hi;unfold jc at h;obtain⟨j,h1,h2⟩:=Qh.mp h;obtain⟨js,h3,rfl⟩:=QA.mp h2;rcases Qx.mp hi with rfl | hi
   ·obtain⟨x,p,_,k1,k2⟩:=iJ h1;exact⟨k2,x,k1⟩
   ·exact ih h3 i hi
 unfold ra at h;split at h
 ·obtain⟨j,h1,rfl⟩:=QA.mp h;intro i hi;have:i=j:=by simpa [aT] using hi
  subst this;obtain⟨x,p,_,k1,k2⟩:=iJ h1;exact⟨k2,x,k1⟩
 ·obtain⟨is,h1,rfl⟩:=QA.mp h;exact many h1
 ·cases h
theorem iK {i:Nat} (h:plainS Γ i=true):fm Γ i=false/\Γ.δ≠some i:=by unfold plainS at h;rw[Qk] at h;refine⟨by simpa using h.1,λe=>?_⟩;rw[e] at h;simp at h
theorem ER.set {o:Ow} {ρ:aj} {S:Sx} {σ:L2.St} {H:Hp} {i:Nat} {v:V} {d:Dt} (er:ER Φ Γ o ρ S σ H) (hp:plainS Γ i=true) (h:RV Φ.K o.A H v d):ER Φ Γ o (ρ.set i (some d)) S (σ.set i (some v)) H where
 len:=by rw[List.length_set,List.length_set];exact er.len
 wa:=er.wa
 da:=er.da
 al:=er.al
 val:=λj e he=>by
  by_cases hj:j=i
  ·subst hj;rw[List.getElem?_set] at he;simp only[if_true] at he;split at he
   ·rename_i cC;cases he;refine⟨v,by rw[Q4 (by rw[er.len];exact cC)],?_⟩;rw[(iK hp).1,if_neg (by simp)];exact h
   ·cases he
  ·rw[QC (Ne.symm hj)] at he;obtain⟨w,h1,h2⟩:=er.val j e he;exact⟨w,by rw[QC (Ne.symm hj)];exact h1,h2⟩
 inj:=λa b c e f ha hb h1 h2 h3 h4=>by
  have na:a≠i:=λz=>by rw[z,(iK hp).1] at ha;cases ha
  have nb:b≠i:=λz=>by rw[z,(iK hp).1] at hb;cases hb
  rw[QC (Ne.symm na)] at h1 h3;rw[QC (Ne.symm nb)] at h2 h4;exact er.inj a b c e f ha hb h1 h2 h3 h4
 drw:=er.drw
 drn:=er.drn
 drs:=λj a hj ha=>by rw[QC (λz=>(iK hp).2 (by rw[z];exact hj))];exact er.drs j a hj ha
 dr0:=er.dr0
 ent:=er.ent
theorem uW {o:Ow} {S:Sx} {H:Hp} {Q:L2.St->Hp->Prop}:∀{is:List Nat} {ds:List Dt} {xs:List V} {ρ ρ1:aj} {σ:L2.St},ER Φ Γ o ρ S σ H->(∀i∈is,plainS Γ i=true)->ak Φ.K o.A H xs ds->dX is ds ρ= .ok ρ1->(∀σ1,ER Φ Γ o ρ1 S σ1 H->(∀k,k∉is->σ1[k]?=σ[k]?/\ρ1[k]?=ρ[k]?)->Q σ1 H)->zu is xs σ H Q/\xs.length=is.length
 | [],ds,xs,ρ,ρ1,σ,er,_,hx,h,q=>by
  cases ds with
  | nil=>cases h;rw[hx.nil_inv];exact⟨⟨rfl,q σ er λ_ _=>⟨rfl,rfl⟩⟩,rfl⟩
  | cons=>cases h
 | i::is,ds,xs,ρ,ρ1,σ,er,hp,hx,h,q=>by
  cases ds with
  | nil=>cases h
  | cons d ds=>
   obtain⟨x,r,rfl,h1,h2⟩:=hx.cons_inv;obtain⟨k1,k2⟩:=uW (er.set (hp i Qr) h1) (λj hj=>hp j (Qo _ hj)) h2 h λσ1 aE hk=>q σ1 aE λk wz=>by
    have n1:k≠i:=λz=>wz (by rw[z];exact Qr)
    obtain⟨a1,a2⟩:=hk k λz=>wz (Qo _ z)
    rw[QC (Ne.symm n1)] at a1 a2;exact⟨a1,a2⟩
   exact⟨⟨x,r,rfl,k1⟩,by simp[k2]⟩
theorem zt {o:Ow} {S:Sx} {H:Hp} {Q:L2.St->Hp->Prop} {t:Tg} {d:Dt} {x:V} {ρ ρ1:aj} {σ:L2.St} (er:ER Φ Γ o ρ S σ H) (hp:∀i∈aT t,plainS Γ i=true) (hx:RV Φ.K o.A H x d) (h:cM t d ρ= .ok ρ1) (q:∀σ1,ER Φ Γ o ρ1 S σ1 H->(∀k,k∉aT t->σ1[k]?=σ[k]?/\ρ1[k]?=ρ[k]?)->Q σ1 H):CM Φ.K t x σ H Q:=by
 cases t with
 | nm i=>
  cases h;exact q _ (er.set (hp i (by simp[aT])) hx) λk hk=>by
   have n1:k≠i:=λz=>hk (by simp[aT,z])
   rw[QC (Ne.symm n1),QC (Ne.symm n1)];exact⟨rfl,rfl⟩
 | tp is=>
  unfold cM at h;cases d with
  | tup ds=>obtain⟨a,xs,rfl,h1,h2⟩:=hx.ah;obtain⟨k1,k2⟩:=uW er hp h2 h q;exact⟨a,xs,rfl,eL.of h1,k2,k1⟩
  | _=>cases h
theorem qo:∀(is:List Nat) (ds:List Dt) (ρ:aj) (k:Nat),dX is ds ρ≠ .ex k
 | [],[],_,_=>λz=>by cases z
 | [],_::_,_,_=>λz=>by cases z
 | _::_,[],_,_=>λz=>by cases z
 | _::is,_::ds,ρ,k=>qo is ds _ k
theorem qm (t:Tg) (d:Dt) (ρ:aj):∀k,cM t d ρ≠ .ex k:=by
 intro k;cases t with
 | nm i=>intro z;cases z
 | tp is=>
  cases d with
  | tup ds=>exact qo is ds ρ k
  | _=>intro z;cases z
theorem pV {Ek:Nat->Prop} {α:Type} {r:R α} {P:α->Prop} (lN:∀k,r≠ .ex k) (h:mR Ek r P):∃d,r= .ok d/\P d:=by
 cases r with
 | ok a=>exact⟨a,rfl,h⟩
 | ex k=>exact absurd rfl (lN k)
 | bad=>exact h.elim
theorem q9 {sc:Scope} (gx:GX g Γ X) (hk:sc.kind= .function) (hb:xa sc.names Γ.names (aX Γ sc).1.N Γ.N (aX Γ sc).2=true):fg X sc (aX Γ sc).1.N (aX Γ sc).2:=by
 unfold xa at hb;rw[Qk,Qk] at hb;obtain⟨⟨h1,h2⟩,h3⟩:=hb;rw[QV] at h1 h3;refine⟨hk,λy hy=>?_,λy hy e=>?_,λj i hj=>?_,by simpa using h2⟩
 ·have:=h1 y hy;rw[Qk] at this;exact QI this.1
 ·have:=h1 y hy;rw[Qk,e] at this;have h:=this.2;simp at h;exact gx.fre y.1 h
 ·have cC:j < (aX Γ sc).2.length:=(Qn.mp hj).1;have:=h3 j (Q5.mpr cC);rw[hj] at this;simp only at this;cases hx:(aX Γ sc).1.N[j]? with
  | none=>rw[hx] at this;cases this
  | some x=>rw[hx] at this;simp only[Qk] at this;exact⟨x,rfl,by rw[gx.N];exact QI this.1,QI this.2⟩
theorem eQ {sc:Scope} {C:Addr} {s:Shared} {H:Hp} {fp:List Addr} {xe:Value->Shared->Prop} (gx:GX g Γ X) (B:fg X sc (aX Γ sc).1.N (aX Γ sc).2) (fW:(aX Γ sc).1.N.Nodup):GX g (aX Γ sc).1 (fv X sc (aX Γ sc).1.N C s H fp xe) where
 N:=rfl
 nd:=fW
 vis:=λx h=>by
  have hn:(aX Γ sc).1.names=sc.names:=rfl;rw[hn] at h;cases hl:sc.names.lookup x with
  | none=>rw[hl] at h;cases h
  | some kk=>
   have q:=aU (env:=X.env) hl;have q':(fv X sc (aX Γ sc).1.N C s H fp xe).env.scope.names.lookup x=_:=q;by_cases hc:(kk==NameKind.free&&X.env.scope.kind== .function&&X.env.kindOf x==some .cell)=true
   ·rw[if_pos hc] at q';exact .inr (.inl q')
   ·rw[if_neg hc] at q';rw[hl] at h;cases kk with
    | «local»=>exact .inl q'
    | cell=>exact .inr (.inl q')
    | free=>exact .inr (.inr q')
    | globalExplicit=>cases h
    | globalImplicit=>cases h
 loc:=λx h=>by
  have hn:(aX Γ sc).1.names=sc.names:=rfl;rw[hn] at h;cases hl:sc.names.lookup x with
  | none=>rw[hl] at h;cases h
  | some kk=>
   have q:=aU (env:=X.env) hl;have q':(fv X sc (aX Γ sc).1.N C s H fp xe).env.scope.names.lookup x=_:=q;rw[hl] at h;cases kk with
   | «local»=>rw[if_neg (by simp)] at q';exact⟨.inl q',.inr q'⟩
   | cell=>rw[if_neg (by simp)] at q';exact⟨.inr q',.inl (by show (sc.names.lookup x==some .cell)=true;rw[hl];rfl)⟩
   | free=>cases h
   | globalExplicit=>cases h
   | globalImplicit=>cases h
 gl:=λx h=>by
  have hn:(aX Γ sc).1.names=sc.names:=rfl;rw[hn] at h;cases hl:sc.names.lookup x with
  | none=>rw[hl] at h;cases h
  | some kk=>
   have q:=aU (env:=X.env) hl;have q':(fv X sc (aX Γ sc).1.N C s H fp xe).env.scope.names.lookup x=_:=q;rw[hl] at h;cases kk with
   | globalImplicit=>rw[if_neg (by simp)] at q';exact q'
   | «local»=>cases h
   | cell=>cases h
   | free=>cases h
   | globalExplicit=>cases h
 fre:=λx h=>by
  have hn:(aX Γ sc).1.names=sc.names:=rfl;rw[hn] at h;rcases h with hl | hl
  ·have q:=aU (env:=X.env) hl;have q':(fv X sc (aX Γ sc).1.N C s H fp xe).env.scope.names.lookup x=_:=q;rw[if_neg (by simp)] at q';exact .inl q'
  ·have q:=aU (env:=X.env) hl;have q':(fv X sc (aX Γ sc).1.N C s H fp xe).env.scope.names.lookup x=_:=q;by_cases hc:(NameKind.free==NameKind.free&&X.env.scope.kind== .function&&X.env.kindOf x==some .cell)=true
   ·rw[if_pos hc] at q';exact .inl q'
   ·rw[if_neg hc] at q';exact .inr q'
 calm:=gx.calm
 un:=gx.un
 con:=gx.con
 bl:=gx.bl
end
theorem join_some {α:Type} {o:Option (Option α)} {a:α} (h:o.join=some a):o=some (some a):=by
 cases o with
 | none=>cases h
 | some x=>cases x with
  | none=>cases h
  | some y=>simp at h;rw[h]
theorem hU {cv:List (Option Nat)} {ρ:aj} {j:Nat} {d:Dt} (h:(lK cv ρ)[j]?=some (some d)):∃i,cv[j]?=some (some i)/\ρ[i]?=some (some d):=by
 unfold lK at h;rw[QE] at h;cases hc:cv[j]? with
 | none=>rw[hc] at h;cases h
 | some o=>
  rw[hc] at h;cases o with
  | none=>cases h
  | some i=>refine⟨i,rfl,join_some ?_⟩;simpa using h
theorem ei {cv:List (Option Nat)} {σ:L2.St} {i j:Nat} {v:V} (hc:cv[j]?=some (some i)) (h:σ[i]?=some (some v)):(dc cv σ)[j]?=some (some v):=by unfold dc;rw[QE,hc];simp[h]
theorem ud {δ:Option Nat}:∀{cv:List (Option Nat)} {j:Nat},FL δ cv=some j->∃i,δ=some i/\cv[j]?=some (some i)
 | [],j,h=>by simp[FL] at h
 | o::r,j,h=>by
  unfold FL at h;split at h
  ·rename_i c;rw[Qk] at c;cases h;cases δ with
   | none=>simp at c
   | some i=>exact⟨i,rfl,by simp[QI c.2]⟩
  ·obtain⟨k,h1,rfl⟩:=QA.mp h;obtain⟨i,h2,h3⟩:=ud h1;exact⟨i,h2,by simpa using h3⟩
section
variable {X:Cx} {Φ:Fm} {Γ:Gm} {F:FT} {g:G} {xv:Nat->Value} {CX:j7} {k:Nat} {K:Frag}
noncomputable def Ow.plus (o:Ow) (D:Addr):Ow:=⟨o.W,λb=>o.A b\/b=D,o.dr⟩
theorem jL {sc:Scope} {i j:Nat} (hc:(aX Γ sc).2[j]?=some (some i)):fm (aX Γ sc).1 j=fm Γ i:=by have e:(aX Γ sc).1.M=C8 (aX Γ sc).2 Γ.M:=rfl;unfold fm;rw[e];unfold C8;rw[QE,hc];simp
theorem ER.aX {sc:Scope} {o:Ow} {ρ:aj} {S:Sx} {σ:L2.St} {H:Hp} {D:Addr} (er:ER Φ Γ o ρ S σ H) (B:fg X sc (aX Γ sc).1.N (aX Γ sc).2) (fW:(Rx.aX Γ sc).1.N.Nodup) (hD:H D=none):
  ER Φ (Rx.aX Γ sc).1 (o.plus D) (lK (Rx.aX Γ sc).2 ρ) S (dc (Rx.aX Γ sc).2 σ) (upd H D (.lst [])):=by
 have s:=Mx.cJ hD (.lst []);have av:∀b,(o.A b\/b=D)->o.A b\/H b=none:=λb z=>z.elim .inl λe=> .inr (by rw[e];exact hD)
 refine⟨?_,λa h=> .inl (er.wa a h),λa h=> .inl (er.da a h),λa h=>?_,λj d h=>?_,λj j' a d e hm hm' h1 h2 h3 h4=>?_,λa h=>?_,er.drn,λj a hj ha=>?_,er.dr0,er.ent.trans (aW.of_same s)⟩
 ·unfold dc lK;rw[Qu,Qu]
 ·rcases h with h | h
  ·obtain⟨x,hx⟩:=er.al a h;exact⟨x,s _ _ hx⟩
  ·subst h;exact⟨_,aB⟩
 ·obtain⟨i,hc,hr⟩:=hU h;obtain⟨v,h1,h2⟩:=er.val i d hr;refine⟨v,ei hc h1,?_⟩;rw[jL hc];by_cases hm:fm Γ i=true
  ·rw[if_pos hm] at h2 ⊢;cases d with
   | lst ds=>obtain⟨a,xs,e1,e2,e3,e4,e5,e6,e7⟩:=h2;exact⟨a,xs,e1,s _ _ e2,.inl e3,e4,e5,e6,(e7.bF av).same s⟩
   | _=>exact RV.same (RV.bF av h2) s
  ·rw[if_neg hm] at h2 ⊢;exact(h2.bF av).same s
 ·obtain⟨i,hc,hr⟩:=hU h1;obtain⟨i',nM,cX⟩:=hU h2;rw[jL hc] at hm;rw[jL nM] at hm';obtain⟨v,k1,_⟩:=er.val i _ hr;obtain⟨v',JB,_⟩:=er.val i' _ cX;rw[ei hc k1] at h3;rw[ei nM JB] at h4;cases h3;cases h4;have:=er.inj i i' a d e hm hm' hr cX k1 JB;subst this;obtain⟨x,n1,n2,_⟩:=B.Az j i hc;obtain⟨x',Hq,JE,_⟩:=B.Az j' i nM;rw[n2] at JE;cases JE;exact kU fW n1 Hq
 ·obtain⟨ns,e1,e2⟩:=er.drw a h;exact⟨ns,e1,s _ _ e2⟩
 ·obtain⟨i,h1,h2⟩:=ud (show FL Γ.δ (Rx.aX Γ sc).2=some j from hj);exact ei h2 (er.drs i a h1 ha)
theorem xo {sc:Scope} {x:Str} {i:Nat} (B:fg X sc (aX Γ sc).1.N (aX Γ sc).2) (h:fO (aX Γ sc).1 x=some i):(aX Γ sc).2[i]?=some none:=by
 obtain⟨a,b,c⟩:=k8 h;have cC:i < (aX Γ sc).2.length:=by rw[B.len];exact(Qn.mp c).1
 cases hc:(aX Γ sc).2[i]? with
 | none=>rw[List.getElem?_eq_none_iff] at hc;lia
 | some o=>
  cases o with
  | none=>rfl
  | some j=>obtain⟨y,n1,_,n3⟩:=B.Az i j hc;rw[c] at n1;cases n1;have hn:(aX Γ sc).1.names=sc.names:=rfl;rw[hn,n3] at a;cases a
theorem rf {cv:List (Option Nat)} {σ:L2.St} {i:Nat} (h:cv[i]?=some none):(dc cv σ)[i]?=some none:=by unfold dc;rw[QE,h];rfl
theorem kE {σ0:L2.St} {t:Tg} {K:Frag} (h:∀i∈aT t,σ0[i]?=some none):GL σ0 (CM K t):=by
 have many:∀{is:List Nat},(∀i∈is,σ0[i]?=some none)->FU σ0 (zu is):=by
  intro is
  induction is with
  | nil=>intro _;exact AL
  | cons i is ih=>intro hs;exact xU (hs i Qr) (ih λj hj=>hs j (Qo _ hj))
 cases t with
 | nm i=>exact AK (h i (by simp[aT]))
 | tp is=>exact Dv (many h)
theorem oI {sc:Scope} {e:Expr} {t:Tg} {σ:L2.St} (B:fg X sc (aX Γ sc).1.N (aX Γ sc).2) (h:ra (aX Γ sc).1 e=some t):∀i∈aT t,(dc (aX Γ sc).2 σ)[i]?=some none:=λi hi=>by obtain⟨_,x,hx⟩:=fQ h i hi;exact rf (xo B hx)
noncomputable def CT (Γ:Gm) (ρ:aj) (σ:L2.St) (D:Addr):Prop:=∀(j:Nat) (d:List Dt),fm Γ j=true->ρ[j]?=some (some (.lst d))->σ[j]?≠some (some (.ref D))
theorem u5 {H:Hp} {D:Addr} {acc dZ:List V} (hD:H D=some (.lst acc)):aW (λb=>b=D) H (upd H D (.lst dZ)):=⟨λb o h n=>by rw[aq n];exact h,Mx.lA hD⟩
theorem ER.emit {o:Ow} {ρ:aj} {S:Sx} {σ:L2.St} {H:Hp} {D:Addr} {acc dZ:List V} (er:ER Φ Γ o ρ S σ H) (hD:H D=some (.lst acc)) (hn:CT Γ ρ σ D) (oD:o.A D) (nd:o.dr≠some D) (h0:∀x,Φ.H0 D=some x->Φ.d0=some D):ER Φ Γ o ρ S σ (upd H D (.lst dZ)):=by
 have up:aW (λb=>b=D) H (upd H D (.lst dZ)):=u5 hD;have uA:∀b,b=D->o.A b:=λb z=>by rw[z];exact oD
 refine⟨er.len,er.wa,er.da,λa ha=>?_,λj dd h=>?_,er.inj,λa ha=>?_,er.drn,er.drs,er.dr0,?_⟩
 ·obtain⟨x,hx⟩:=er.al a ha;exact up.al hx λz=>⟨_,by rw[z];exact aB⟩
 ·obtain⟨w,h1,h2⟩:=er.val j dd h;refine⟨w,h1,?_⟩;by_cases hm:fm Γ j=true
  ·rw[if_pos hm] at h2 ⊢;cases dd with
   | lst ds=>
    obtain⟨a,xs,e1,e2,e3,e4,e5,e6,e7⟩:=h2;have aD:a≠D:=λz=>hn j ds hm h (by rw[h1,e1,z])
    exact⟨a,xs,e1,up.kp _ _ e2 aD,e3,e4,e5,e6,e7.mono up uA λ_ z=>z⟩
   | _=>exact RV.mono up uA (λ_ z=>z) h2
  ·rw[if_neg hm] at h2 ⊢;exact h2.mono up uA λ_ z=>z
 ·obtain⟨ns,e1,e2⟩:=er.drw a ha;exact⟨ns,e1,up.kp _ _ e2 (λz=>nd (by rw[<-z];exact ha))⟩
 ·refine⟨λb x h n=>up.kp _ _ (er.ent.kp b x h n) λz=>?_,λb xs h=>up.tp _ _ (er.ent.tp b xs h)⟩;subst z;exact n (h0 x h)
theorem Wk.less {A Y Y':Addr->Prop} {J:It} {H:Hp} {ds:List Dt} (w:Wk K A Y J H ds) (h:∀b,Y' b->Y b):Wk K A Y' J H ds:=⟨λi H1 hi e=>w.go i H1 hi (e.mono h),λH1 e=>w.stop H1 (e.mono h),λi x H1 H2 hi e y=>w.yld i x H1 H2 hi (e.mono h) y⟩
theorem IO.NK {Φ:Fm} {Γ:Gm} {o:Ow} {ρ:aj} {S:Sx} {σ:L2.St} {it:o6} {nl:Bool} {H H1:Hp} {ds:List Dt} {J:It} (io:IO Φ.K o it nl H ds J H1) (er:ER Φ Γ o ρ S σ H1) (h:(decide (vK it<=1)||nl)=true):Wk Φ.K o.A o.d J H1 ds:=by
 rcases Bool.or_eq_true_iff.mp h with h | h
 ·exact io.w1 (Qm h)
 ·exact(io.w2 h).less er.da
theorem Wk.plus {A Y:Addr->Prop} {J:It} {H:Hp} {ds:List Dt} {D:Addr} (w:Wk K A Y J H ds) (hD:H D=none):Wk K (λb=>A b\/b=D) (λb=>Y b\/b=D) J (upd H D (.lst [])) ds:=by
 have ex:∀H1,aW (λb=>Y b\/b=D) (upd H D (.lst [])) H1->aW Y H H1:=λH1 e=>⟨λb o h n=>by
   have nb:b≠D:=λz=>by rw[z,hD] at h;cases h
   exact e.kp b o (by rw[aq nb];exact h) λz=>z.elim n nb,λb xs h=>by
   have nb:b≠D:=λz=>by rw[z,hD] at h;cases h
   exact e.tp b xs (by rw[aq nb];exact h)⟩
 refine⟨λi H1 hi e=>w.go i H1 hi (ex H1 e),λH1 e=>w.stop H1 (ex H1 e),λi x H1 H2 hi e y=>?_⟩;obtain⟨s,d,hd,hv⟩:=w.yld i x H1 H2 hi (ex H1 e) y;refine⟨s,d,hd,λB hB=>hv B λb hb=>?_⟩;rcases hB b hb with (z | z) | z
 ·exact .inl z
 ·exact .inr (by rw[z];exact hD)
 ·by_cases nb:b=D
  ·exact .inr (by rw[nb];exact hD)
  ·rw[aq nb] at z;exact .inr z
structure Ai (Φ:Fm) (Γ:Gm) (o:Ow) (D:Addr) (ρ:aj) (σ:L2.St) (S:Sx) (acc:List V) (es:List Dt) (H:Hp):Prop where
 at':H D=some (.lst acc)
 rv:ak Φ.K o.A H acc es
 er:ER Φ Γ o ρ S σ H
structure IW (Φ:Fm) (o:Ow) (D:Addr):Prop where
 oD:o.A D
 nd:o.dr≠some D
 h0:∀x,Φ.H0 D=some x->Φ.d0=some D
noncomputable def Yd (o:Ow) (D:Addr):Addr->Prop:=λb=>o.d b\/b=D
theorem ER.back {o:Ow} {ρ ρ':aj} {S S':Sx} {σ σ':L2.St} {H H':Hp} {D:Addr} (fx:IW Φ o D) (hn:CT Γ ρ σ D) (er:ER Φ Γ o ρ S σ H) (Di:ER Φ Γ o ρ' S' σ' H') (e:aW (Yd o D) H H'):ER Φ Γ o ρ S' σ H':=by
 have uA:∀b,Yd o D b->o.A b:=λb z=>z.elim (er.da b) λq=>by rw[q];exact fx.oD
 refine⟨er.len,er.wa,er.da,Di.al,λj dd h=>?_,er.inj,Di.drw,Di.drn,er.drs,er.dr0,Di.ent⟩;obtain⟨w,h1,h2⟩:=er.val j dd h;refine⟨w,h1,?_⟩;by_cases hm:fm Γ j=true
 ·rw[if_pos hm] at h2 ⊢;cases dd with
  | lst ds=>
   obtain⟨a,xs,e1,e2,e3,e4,e5,e6,e7⟩:=h2;have aD:a≠D:=λz=>hn j ds hm h (by rw[h1,e1,z])
   exact⟨a,xs,e1,e.kp _ _ e2 (λz=>z.elim e5 aD),e3,e4,e5,e6,e7.mono e uA λ_ z=>z⟩
  | _=>exact RV.mono e uA (λ_ z=>z) h2
 ·rw[if_neg hm] at h2 ⊢;exact h2.mono e uA λ_ z=>z
theorem sW {tg:Tg} {ts:Cs} {o:Ow} {D:Addr} {ρ:aj} {σ:L2.St} {J:It} {ds:List Dt} {H1:Hp} {tb:TB} {fb:aj->Sx->R (List Dt×Sx)} {m a0:Nat} (fx:IW Φ o D) (hp:∀i∈aT tg,plainS Γ i=true) (wk:Wk Φ.K o.A (Yd o D) J H1 ds) (hn:CT Γ ρ σ D)
  (hb:∀(ρ1:aj) (σ1:L2.St) (S:Sx) (acc:List V) (es:List Dt) (H2:Hp) (P:List Dt×Sx->Prop),CT Γ ρ1 σ1 D->(∀k,k∉aT tg->σ1[k]?=σ[k]?/\ρ1[k]?=ρ[k]?)->Ai Φ Γ o D ρ1 σ1 S acc es H2->aW (Yd o D) H1 H2->acc.length + m<=a0 + ds.length * m->0 < ds.length->mR Φ.Ek (fb ρ1 S) P->
   ∀Q:Hp->Prop,(∀H5 r g6,P r->Ai Φ Γ o D ρ1 σ1 r.2 g6 (es++r.1) H5->aW (Yd o D) H2 H5->g6.length<=acc.length + m->Q H5)->tb σ1 H2 Q)
  {S:Sx} {acc:List V} {es:List Dt} {P:List Dt×Sx->Prop} (c:Ai Φ Γ o D ρ σ S acc es H1) (ha:acc.length<=a0) (q:mR Φ.Ek (a9 (bJ tg (cV F ts) fb ρ) ds S) P) {Fn:Hp->Prop}
  (fin:∀H5 r g6,P r->Ai Φ Γ o D ρ σ r.2 g6 (es++r.1) H5->aW (Yd o D) H1 H5->g6.length<=a0 + ds.length * m->Fn H5):o7 J (CM Φ.K tg) (qy Φ Γ F ts) tb σ Fn H1:=by
 refine⟨λi mm H2=>mm=ds.length - i/\i<=ds.length/\∃S2 ng rA,Ai Φ Γ o D ρ σ S2 ng (es++rA) H2/\aW (Yd o D) H1 H2/\ng.length<=a0 + i * m/\mR Φ.Ek (a9 (bJ tg (cV F ts) fb ρ) (ds.drop i) S2) λr=>P (rA++r.1,r.2),
  ⟨_,rfl,Nat.zero_le _,S,acc,[],by rw[QY];exact c,aW.refl,by lia,q⟩,?_⟩
 rintro i mm H2 ⟨rfl,hi,S2,ng,rA,c2,zV,dh,q⟩;by_cases cC:i < ds.length
 ·refine .inr ⟨wk.go i H2 cC zV,λx H3 y=>?_⟩;obtain⟨s3,d,hd,hx⟩:=wk.yld i x H2 H3 cC zV y;have pN:=hx o.A λb z=> .inl z
  have Gq:=c2.er.grow s3;have Km:ds.drop i=d::ds.drop (i + 1):=by rw[List.drop_eq_getElem_cons cC];congr 1;exact(Qn.mp hd).2
  rw[Km] at q;unfold a9 at q;rw[ae] at q;unfold bJ at q;rw[ae] at q;obtain⟨ρ1,hρ,q⟩:=pV (qm _ _ _) q;refine zt Gq hp pN hρ λσ1 Kq hk=>?_
  rw[ae] at q;refine⟨o,ρ1,S2,Kq,af q λb _ q H4 e4 Ji=>?_⟩;have MO:aW (Yd o D) H3 H4:=e4.mono λb z=> .inl z
  have Pd:CT Γ ρ1 σ1 D:=λj dd hm h1 h2=>by
   have nj:j∉aT tg:=λz=>by rw[(iK (hp j z)).1] at hm;cases hm
   obtain⟨k1,k2⟩:=hk j nj;rw[k1] at h2;rw[k2] at h1;exact hn j dd hm h1 h2
  have uA:∀b,Yd o D b->o.A b:=λb z=>z.elim (Gq.da b) λq=>by rw[q];exact fx.oD
  have Gx:H4 D=some (.lst ng):=e4.kp _ _ (s3 _ _ c2.at') fx.nd;have Nm:ak Φ.K o.A H4 ng (es++rA):=(c2.rv.same s3).mono MO uA λ_ z=>z
  have Gr:aW (Yd o D) H2 H4:=(aW.of_same s3).trans MO;have hmul:ds.length * m=(ds.length - (i + 1)) * m + (i * m + m):=by
   rw[<-Nat.succ_mul i m,<-Nat.add_mul];congr 1
   lia
  have Nh:(i + 1) * m=i * m + m:=Nat.succ_mul i m;have hz:0<=(ds.length - (i + 1)) * m:=Nat.zero_le _;cases jK:b.1 with
  | false=>rw[jK] at q;refine Hf ?_;refine⟨ds.length - (i + 1),by lia,rfl,cC,b.2,ng,rA,⟨Gx,Nm,c2.er.back fx hn Ji Gr⟩,zV.trans Gr,by lia,?_⟩;simp only[Bool.false_eq_true,if_false] at q;have q:mR Φ.Ek ((a9 (bJ tg (cV F ts) fb ρ) (ds.drop (i + 1)) b.2).bind λq=>R.ok (([]:List Dt)++q.1,q.2)) _:=q;rw[ae] at q;exact af q λr _ q=>q
  | true=>
   rw[jK] at q;refine Hg ?_;simp only[if_true] at q;refine hb ρ1 σ1 b.2 ng (es++rA) H4 _ Pd hk ⟨Gx,Nm,Ji⟩ (zV.trans Gr) (by lia) (by lia) q _ λH5 r g6 q c5 e5 l5=>?_
   rw[ae] at q;refine⟨ds.length - (i + 1),by lia,rfl,cC,r.2,g6,rA++r.1,⟨c5.at',by rw[<-Qz];exact c5.rv,c2.er.back fx hn c5.er (Gr.trans e5)⟩,(zV.trans Gr).trans e5,by lia,af q λr' _ q=>?_⟩;have q:P (rA++(r.1++r'.1),r'.2):=q;rw[Qz];exact q
 ·have e:i=ds.length:=by lia
  subst e;refine .inl ⟨wk.stop H2 zV,?_⟩;rw[List.drop_length] at q;have q:P (rA++[],S2):=q;rw[QY] at q;exact fin H2 (rA,S2) ng q c2 zV dh
theorem xA {o:Ow} {D:Addr} {c:C} {ρ:aj} {σ:L2.St} {S:Sx} {acc:List V} {es:List Dt} {H:Hp} {P:List Dt×Sx->Prop} (fx:IW Φ o D) (hn:CT Γ ρ σ D) (cs:Ai Φ Γ o D ρ σ S acc es H) (hl:acc.length < sizeLine)
  (q:mR Φ.Ek ((ev F c ρ S).bind λy=>ag (eI c y.1) (.ok ([y.1],y.2))) P) (Q:Hp->Prop) (fin:∀H5 r g6,P r->Ai Φ Γ o D ρ σ r.2 g6 (es++r.1) H5->aW (Yd o D) H H5->g6.length<=acc.length + 1->Q H5):uU D (bO Φ Γ F g.fr c) σ H Q:=by
 rw[ae] at q;refine⟨o,ρ,S,cs.er,af q λy _ q v H5 eo5 er6=>?_⟩;obtain⟨gs,q⟩:=aN q;have e5:aW (Yd o D) H H5:=eo5.ext.mono λb z=> .inl z
 have KC:H5 D=some (.lst acc):=eo5.ext.kp _ _ cs.at' fx.nd;have uA:∀b,Yd o D b->o.A b:=λb z=>z.elim (cs.er.da b) λq=>by rw[q];exact fx.oD
 have hv:RV Φ.K o.A H5 v y.1:=by
  unfold eI at gs;rw[QZ] at gs;rcases gs with gs | gs
  ·exact eo5.dq (Qm gs)
  ·exact eo5.val.lI gs
 have up:aW (λb=>b=D) H5 (upd H5 D (.lst (acc++[v]))):=u5 KC;refine⟨acc,KC,hl,fin _ ([y.1],y.2) (acc++[v]) q ⟨aB,?_,er6.emit KC hn fx.oD fx.nd fx.h0⟩ (e5.trans (up.mono λb z=> .inr z)) (by simp)⟩;exact((cs.rv.mono e5 uA λ_ z=>z).append (ak.cons hv ak.nil)).mono up (λb z=>by rw[z];exact fx.oD) λ_ z=>z
theorem uZ:2 * lim < sizeLine:=by rw[sizeLine_eq];decide
theorem me {sc:Scope} {o:Ow} {ρ:aj} {S:Sx} {σ:L2.St} {H:Hp} {D:Addr} (er:ER Φ Γ o ρ S σ H) (B:fg X sc (aX Γ sc).1.N (aX Γ sc).2) (fW:(Rx.aX Γ sc).1.N.Nodup) (hD:H D=none):
  IW Φ (o.plus D) D/\CT (aX Γ sc).1 (lK (aX Γ sc).2 ρ) (dc (aX Γ sc).2 σ) D/\Ai Φ (aX Γ sc).1 (o.plus D) D (lK (aX Γ sc).2 ρ) (dc (aX Γ sc).2 σ) S [] [] (upd H D (.lst [])):=by
 refine⟨⟨.inr rfl,λz=>?_,λx hx=>?_⟩,λj d hm h1 h2=>?_,⟨aB,ak.nil,er.aX B fW hD⟩⟩
 ·obtain⟨y,hy⟩:=er.al D (er.da D z);rw[hD] at hy;cases hy
 ·by_cases hz:Φ.d0=some D
  ·exact hz
  ·have:=er.ent.kp D x hx hz;rw[hD] at this;cases this
 ·obtain⟨ii,hc,OU⟩:=hU h1;obtain⟨w',k1,k2⟩:=er.val ii _ OU;rw[<-jL hc,if_pos hm] at k2;obtain⟨a',oN,Gk,Cd,_⟩:=k2;rw[ei hc k1] at h2;cases h2;cases Gk;rw[hD] at Cd;cases Cd
theorem tH {sc:Scope} {o:Ow} {ρ:aj} {S S2:Sx} {σ:L2.St} {H H1 H2:Hp} {D:Addr} {acc:List V} {ds:List Dt} {c:C} (hc:lk c=0) (io:aW o.d H H1) (aE:ER Φ Γ o ρ S σ H1) (hD:H1 D=none) {ρ2:aj} {σ2:L2.St} (cs:Ai Φ (aX Γ sc).1 (o.plus D) D ρ2 σ2 S2 acc ds H2) (ex:aW (Yd (o.plus D) D) (upd H1 D (.lst [])) H2):
  EO Φ.K g.fr o c H (.lst ds) (.ref D) H2/\ER Φ Γ o ρ S2 σ H2:=by
 have zV:aW o.d H1 H2:=⟨λb x h n=>by
   have nb:b≠D:=λz=>by rw[z,hD] at h;cases h
   exact ex.kp b x (by rw[aq nb];exact h) λz=>z.elim n nb,λb xs h=>by
   have nb:b≠D:=λz=>by rw[z,hD] at h;cases h
   exact ex.tp b xs (by rw[aq nb];exact h)⟩
 have nA:¬o.A D:=λz=>by obtain⟨y,hy⟩:=aE.al D z;rw[hD] at hy;cases hy
 have dn:H D=none:=aE.eE io hD;have v0:RV Φ.K o.A H2 (.ref D) (.lst ds):=RV.d8 cs.at' nA (cs.rv.weak λb z=> .inl z);refine⟨⟨io.trans zV,v0.weak aE.gS,λ_=>v0,λ_=>v0.one,λ_ wy ed=>?_⟩,aE.step zV (λa ha=>cs.er.drw a ha) cs.er.drn⟩;cases ed;exact⟨D,acc,rfl,dn,cs.at',cs.rv.weak λb z=>z.elim (λz=> .inl (aE.gS b z)) .inr,λ_=>cs.rv⟩
theorem zb {sc:Scope} {tg:Expr} {it:o6} {t:Tg} {ts:Cs} {c:C} (hK:Φ.K=X.K) (B:fg X sc (aX Γ sc).1.N (aX Γ sc).2) (fW:(aX Γ sc).1.N.Nodup) (G7:ra (aX Γ sc).1 tg=some t) {σ:L2.St} {H:Hp} {Q:VK}
  (q:bO Φ Γ F g.fr (.comp (aX Γ sc).2 it t ts c) σ H Q):oG (aX Γ sc).2 (oH Φ Γ F it) (CM X.K t) (qy Φ (aX Γ sc).1 F ts) (λD=>uU D (bO Φ (aX Γ sc).1 F g.fr c)) σ H Q:=by
 obtain⟨o,ρ,S,er,q⟩:=q;unfold ev at q;rw[ae] at q;refine⟨o,ρ,S,er,af q λp _ q J H1 io aE D hD=>⟨kE (oI B G7),?_⟩⟩;obtain⟨g1,q⟩:=aN q;rw[Qk] at g1;have cW:=Qm g1.1;have wk:=(io.NK aE g1.2).plus hD;rw[ae] at q;have iy:=uZ;obtain⟨fx,hn,cs⟩:=me (X:=X) aE B fW hD;rw[<-hK];refine sW (m:=1) (a0:=0) fx (λi hi=>(fQ G7 i hi).1) wk hn (λρ1 σ1 S1 acc es H2 P n1 hk c1 e1 hl _ q Q fin=>xA fx n1 c1 (by lia) q Q fin) cs (Nat.zero_le _) q λH5 r g6 q c5 e5 l5=>?_
 obtain⟨k1,k2⟩:=tH (g:=g) (c:= .comp (aX Γ sc).2 it t ts c) rfl io.ext aE hD c5 e5;exact q _ _ k1 k2
theorem uP {sc:Scope} {tg oY:Expr} {it jN:o6} {t t2:Tg} {ts FQ:Cs} {c:C} (hK:Φ.K=X.K) (B:fg X sc (aX Γ sc).1.N (aX Γ sc).2) (fW:(aX Γ sc).1.N.Nodup) (G7:ra (aX Γ sc).1 tg=some t) (G8:ra (aX Γ sc).1 oY=some t2) (GM:∀i∈aT t2,i∉aT t) {σ:L2.St} {H:Hp} {Q:VK}
  (q:bO Φ Γ F g.fr (.ml (aX Γ sc).2 it t ts jN t2 FQ c) σ H Q):oG (aX Γ sc).2 (oH Φ Γ F it) (CM X.K t) (qy Φ (aX Γ sc).1 F ts) (λD=>ID (oH Φ (aX Γ sc).1 F jN) (CM X.K t2) (qy Φ (aX Γ sc).1 F FQ) (uU D (bO Φ (aX Γ sc).1 F g.fr c))) σ H Q:=by
 obtain⟨o,ρ,S,er,q⟩:=q;unfold ev at q;rw[ae] at q;refine⟨o,ρ,S,er,af q λp _ q J H1 io aE D hD=>⟨kE (oI B G7),?_⟩⟩;obtain⟨g1,q⟩:=aN q;rw[Qk] at g1;have cW:=Qm g1.1;have wk:=(io.NK aE g1.2).plus hD;rw[ae] at q;have iy:=uZ;obtain⟨fx,hn,cs⟩:=me (X:=X) aE B fW hD;rw[<-hK];have hdiv:p.1.length * (lim / p.1.length)<=lim:=Nat.mul_div_le _ _;refine sW (m:=lim / p.1.length) (a0:=0) fx (λi hi=>(fQ G7 i hi).1) wk hn (λρ1 σ1 S1 acc es H2 P n1 hk c1 e1 hl G1 q Q fin=>?_) cs (Nat.zero_le _) q λH5 r g6 q c5 e5 l5=>?_
 ·refine⟨kE λi hi=>?_,?_⟩
  ·rw[(hk i (GM i hi)).1];exact oI B G8 i hi
  ·rw[ae] at q;refine⟨o.plus D,ρ1,S1,c1.er,af q λx2 _ q J2 H3 io2 Gq=>?_⟩;obtain⟨g2,q⟩:=aN q;rw[Qk] at g2;have dh:=Qm g2.1;have uA:∀b,Yd (o.plus D) D b->(o.plus D).A b:=λb z=>z.elim (Gq.da b) λq=> .inr q
   have PD:=(io2.w0 (Qm g2.2)).less uA;have e3:aW (Yd (o.plus D) D) H2 H3:=io2.ext.mono λb z=> .inl z
   have Aa:x2.1.length<=lim / p.1.length:=(Nat.le_div_iff_mul_le G1).mpr (by rw[Nat.mul_comm];exact dh);refine sW (m:=1) (a0:=acc.length) fx (λi hi=>(fQ G8 i hi).1) PD n1 (λρ2 σ2 S2 ng rA H4 P2 n2 hk2 c2 e2 hl _ q Q fin=>xA fx n2 c2 (by lia) q Q fin) ⟨io2.ext.kp _ _ c1.at' fx.nd,c1.rv.mono e3 uA λ_ z=>z,Gq⟩ (Qq _) q λH5 r g6 q c5 e5 l5=>?_
   exact fin H5 r g6 q c5 (e3.trans e5) (by lia)
 ·obtain⟨k1,k2⟩:=tH (g:=g) (c:= .ml (aX Γ sc).2 it t ts jN t2 FQ c) rfl io.ext aE hD c5 e5;exact q _ _ k1 k2
end
noncomputable def vz:Expr->Bool
 | .Starred ..=>false
 | .Slice ..=>false
 | .Set ..=>false
 | .Call (.Name _ _) [] _ _=>false
 | _=>true
theorem bL {e:Expr} (h:vz e=true) (es:List Expr) (env:Env):starEach (e::es) env=(false,eval e env)::starEach es env:=by cases e <;> first | rfl | (simp[vz] at h)
theorem GJ {e:Expr} (h:vz e=true):nc e:=by intro o i;cases e <;> first | rfl | (simp[vz] at h)
theorem AR {e:Expr} (h:vz e=true) (op:CmpOp):behindInMarks op e=false:=by cases e <;> first | rfl | (simp[vz] at h)
theorem gE {e:Expr} (h:vz e=true) (env:Env):∀x,foldedSetIterable e env x=pure x:=by intro x;cases e <;> first | rfl | (simp[vz] at h)
theorem cZ {X:Cx} {Φ:Fm} {Γ:Gm} {F:FT} {e:Expr} {c:C} (h:∀ρ S,dw F c ρ S= .bad):PT X e (fP Φ Γ F c):=λpins s σ H Q I q=>by obtain⟨o,ρ,S,er,q⟩:=q;rw[h] at q;exact q.elim
section
variable {g:G} {xv:Nat->Value} {CX:j7} {k:Nat} {F:FT}
structure NS (g:G) (F:FT) (n:Nat) (Γ:Gm) (X:Cx) (Φ:Fm):Prop where
 e:∀e c,cE n g Γ e=some c->PE X e (bO Φ Γ F g.fr c)/\PT X e (fP Φ Γ F c)/\vz e=true
 es:∀es cs,wx n g Γ es=some cs->PA X es (lU Φ Γ F cs)/\cs.len=es.length/\∀e∈es,vz e=true
 ts:∀es cs,Ax n g Γ es=some cs->B3 X es (qy Φ Γ F cs)
 b:∀o es c pos,cB n g Γ o es=some c->PE X (.BoolOp o es pos) (bO Φ Γ F g.fr c)/\PW X (.BoolOp o es pos) (fP Φ Γ F c)
 i:∀tg e it,cI n g Γ tg e=some it->PI X tg e (oH Φ Γ F it)/\vz e=true
 c:∀f a as c p pos,tI n g Γ f a as=some c->PE X (.Call (.Name f p) (a::as) [] pos) (bO Φ Γ F g.fr c)/\PT X (.Call (.Name f p) (a::as) [] pos) (fP Φ Γ F c)
theorem o8 {es:List Expr} {env:Env} {pos:Pos} (h:∀e∈es,vz e=true):(backTo pos (starEach es env)).any (·.1)=false:=by
 induction es with
 | nil=>rfl
 | cons e es ih=>rw[bL (h e Qr)];show (false||(backTo pos (starEach es env)).any (·.1))=false;rw[ih λe' z=>h e' (Qo _ z)];rfl
theorem sj {x y:Str} (h:(x==y)=false):x≠y:=λe=>by subst e;rw[beq_self_eq_true] at h;cases h
theorem eF {x:Str} (h:d9 x=true):(x==("__debug__":Str))=false/\(x==("__classdict__":Str))=false/\x≠"__name__":=by unfold d9 at h;rw[Qk,Qk] at h;have h1:=h.1.1;have h2:=h.1.2;have h3:=h.2;rw[Bool.not_eq_true'] at h1 h2 h3;exact⟨h1,h2,sj h3⟩
noncomputable def Mz:C->Bool
 | .nt _ | .and .. | .or .. | .cmp .. | .ch .. | .var _ | .mvr _ | .call .. | .callD .. | .bi .. | .idx ..=>true
 | _=>false
theorem bK {F:FT} {c:C} {ρ:aj} {S:Sx} (h:Mz c=false):dw F c ρ S= .bad:=by cases c <;> first | rfl | cases h
theorem w5:∀t∈wZ,EJ t.2.2=true/\bootBuiltins t.1=some (FB t.2.2):=by
 intro t ht;simp only[wZ,Qx,Qy,or_false] at ht;rcases ht with rfl | rfl | rfl | rfl | rfl | rfl
 ·exact⟨rfl,PySem.boot_len⟩
 ·exact⟨rfl,PyProof.Rows.boot_min⟩
 ·exact⟨rfl,PyProof.Rows.boot_sum⟩
 ·exact⟨rfl,PyProof.Rows.boot_sorted⟩
 ·exact⟨rfl,PyProof.Rows.boot_tuple⟩
 ·exact⟨rfl,PyProof.Rows.boot_list⟩
theorem Aq {x:Str} {n:Nat} {b:BI} (h:qZ x n=some b):EJ b=true/\bootBuiltins x=some (FB b):=by unfold qZ at h;obtain⟨t,h1,rfl⟩:=QA.mp h;have hm:=List.mem_of_find?_eq_some h1;have hp:=List.find?_some h1;rw[Qk] at hp;rw[<-QI hp.1];exact w5 t hm
theorem C5 {b:BI} (h:EJ b=true):(∃id,FB b= .builtin id)\/∃T,FB b= .type T:=by cases b <;> first | exact .inl ⟨_,rfl⟩ | exact .inr ⟨_,rfl⟩ | cases h
theorem gz {x:Str} (h:g.bls.contains x=true):x∈g.bls:=by simpa using h
theorem Mf {X:Cx} {Φ:Fm} {Γ:Gm} {x:Str} {n:Nat} {b:BI} {a:Expr} {as:List Expr} {cs:Cs} {p pos:Pos} (hK:Φ.K=X.K) (gx:GX g Γ X) (hG:Gl X x) (hm:X.mg x=none) (hx:d9 x=true) (hb:qZ x n=some b) (hs:starEach (a::as) X.env=(false,eval a X.env)::starEach as X.env) (gG:(backTo pos (starEach as X.env)).any (·.1)=false)
  (ha:PA X (a::as) (lU Φ Γ F cs)):PE X (.Call (.Name x p) (a::as) [] pos) (bO Φ Γ F g.fr (.bi b cs)):=by
 obtain⟨h1,h2⟩:=Aq hb;obtain⟨n1,n2,n3⟩:=eF hx;have hc:=Ar (X:=X) b h1 gx.calm gx.un;rcases C5 h1 with ⟨id,e⟩ | ⟨T,e⟩
 ·rw[e] at h2 hc;exact bf (qb hc hG hm h2 ha n3 n1 hs gG) λσ H Q q=>xI hK q
 ·rw[e] at h2 hc;exact bf (vR hc hG hm h2 ha n3 n1 hs gG) λσ H Q q=>xI hK q
theorem rM {X:Cx} {Φ:Fm} {sc:Scope} {N':List Str} {C:Addr} {s:Shared} {H:Hp} {fp:List Addr} (hX:HX g xv CX k F Φ X):HX g xv CX k F Φ (fv X sc N' C s H fp (sZ X sc N' (lX Φ xv) C s H fp)) where
 K:=hX.K
 fx:=hX.fx
 room:=hX.room
 cx:=hX.cx
 st:=oE hX.st
 xgx:=λe s' h=>zH h
 xk:=hX.xk
theorem iO (n:Nat):∀(Γ:Gm) (X:Cx) (Φ:Fm),GX g Γ X->HX g xv CX k F Φ X->NS g F n Γ X Φ:=by
 induction n with
 | zero=>intro Γ X Φ gx hX;exact⟨λe c h=>by simp[cE] at h,λe c h=>by simp[wx] at h,λe c h=>by simp[Ax] at h,λo e c p h=>by simp[cB] at h,λo e c h=>by simp[cI] at h,λf a as c p q h=>by simp[tI] at h⟩
 | succ n ih=>
  intro Γ X Φ gx hX;have I:=ih Γ X Φ gx hX;have hK:=hX.K;have hu:=gx.un;refine⟨λe c h=>?_,λes cs h=>?_,λes cs h=>?_,λo es c pos h=>?_,λtg e it h=>?_,λf a as c p pos h=>?_⟩
  ·
   unfold cE at h;split at h
   ·split at h
    ·cases h;exact⟨ql rfl Eo,cZ λρ S=>bK rfl,rfl⟩
    ·cases h;exact⟨ql rfl Eu,cZ λρ S=>bK rfl,rfl⟩
    ·cases h;exact⟨ql rfl HF,cZ λρ S=>bK rfl,rfl⟩
    ·cases h;exact⟨ql rfl Er,cZ λρ S=>bK rfl,rfl⟩
    ·cases h
   ·
    rename_i x p;split at h
    ·rename_i i hi;obtain⟨v1,v2,v3⟩:=uR hi;obtain⟨n1,n2,n3⟩:=eF v2;have hv:PE X (.Name x p) (lT i):=yQ (by rw[gx.N];exact v3) (gx.vis x v1) n1 n2;split at h
     ·cases h
     split at h
     ·rename_i hm;cases h;have:=Ib (Φ:=Φ) (F:=F) (fr:=g.fr) hv hm;exact⟨this,j3 hK this (λ_=>rfl) (λρ S=>by rw[dw,ev];cases fG ρ i <;> rfl),rfl⟩
     ·rename_i hm;cases h;have:=Ij (Φ:=Φ) (F:=F) (fr:=g.fr) hv (by simpa using hm);exact⟨this,j3 hK this (λ_=>rfl) (λρ S=>by rw[dw,ev];cases fG ρ i <;> rfl),rfl⟩
    ·split at h
     ·rename_i hg;rw[Qk] at hg;obtain⟨d,h1,rfl⟩:=QA.mp h;obtain⟨u,k1,k2,k3⟩:=gx.con x d h1;exact⟨ql k1 (Bv (gx.gl x hg.1) k2 k3 (eF hg.2).1),cZ λρ S=>bK rfl,rfl⟩
     ·cases h
   ·obtain⟨a',h1,h⟩:=Qh.mp h;obtain⟨b',h2,h⟩:=Qh.mp h;cases h;exact⟨HV hK (I.e _ _ h1).1 (I.e _ _ h2).1,cZ λρ S=>bK rfl,rfl⟩
   ·obtain⟨a',h1,h9⟩:=Qh.mp h;clear h;split at h9
    ·cases h9;exact⟨Ic (I.e _ _ h1).1,cZ λρ S=>bK rfl,rfl⟩
    ·cases h9;exact⟨Mg (I.e _ _ h1).1,Ig (I.e _ _ h1).2.1,rfl⟩
    ·cases h9
   ·obtain⟨k1,k2⟩:=I.b _ _ _ _ h;exact⟨k1,k2.pt,rfl⟩
   ·split at h
    ·obtain⟨a',h1,h⟩:=Qh.mp h;obtain⟨b',h2,h⟩:=Qh.mp h;cases h;have hm:=AR (I.e _ _ h2).2.2;exact⟨HW hK hu (hm _) (I.e _ _ h1).1 (I.e _ _ h2).1,EU hK hu (hm _) (I.e _ _ h1).1 (I.e _ _ h2).1,rfl⟩
    ·cases h
   ·split at h
    ·obtain⟨a',h1,h⟩:=Qh.mp h;obtain⟨b',h2,h⟩:=Qh.mp h;cases h;exact⟨EZ hK (I.e _ _ h1).1 (I.e _ _ h2).1,cZ λρ S=>bK rfl,rfl⟩
    ·obtain⟨a',h1,h⟩:=Qh.mp h;obtain⟨b',h2,h⟩:=Qh.mp h;cases h;exact⟨EY hK (I.e _ _ h1).1 (I.e _ _ h2).1,cZ λρ S=>bK rfl,rfl⟩
    ·obtain⟨a',h1,h⟩:=Qh.mp h;obtain⟨b',h2,h⟩:=Qh.mp h;cases h;have k1:=λpos=>HY (pos:=pos) hK (GJ (I.e _ _ h2).2.2) (I.e _ _ h1).1 (I.e _ _ h2).1
     refine⟨k1 _,j3 hK (k1 _) (λ_=>rfl) (λρ S=>?_),rfl⟩;rw[dw,ev];cases ev F a' ρ S with
     | ok x=>
      simp only[R.ao];cases ev F b' ρ x.2 with
      | ok y=>simp only[R.ao];cases dk x.1 y.1 <;> rfl
      | ex k=>rfl
      | bad=>rfl
     | ex k=>rfl
     | bad=>rfl
   ·obtain⟨df,h1,h⟩:=Qh.mp h;cases h;exact⟨Ii (I.es _ _ h1).1,cZ λρ S=>bK rfl,rfl⟩
   ·obtain⟨df,h1,h⟩:=Qh.mp h;cases h;exact⟨Ia (I.es _ _ h1).1,cZ λρ S=>bK rfl,rfl⟩
   ·split at h
    ·obtain⟨k1,k2⟩:=I.c _ _ _ _ _ _ h;exact⟨k1,k2,rfl⟩
    ·cases h
   ·
    rename_i elt gens sc pos;split at h
    ·rename_i hk;split at h
     ·rename_i tg it ifs;obtain⟨jM,h1,h⟩:=Qh.mp h;obtain⟨lq,h2,h⟩:=Qh.mp h;obtain⟨oJ,h3,h⟩:=Qh.mp h;obtain⟨e',h4,h⟩:=Qh.mp h;split at h
      ·rename_i hb;cases h;rw[Qk] at hb;have Dz:sc.kind= .function:=QI hk;have B:=q9 gx Dz hb.1;have fW:(aX Γ sc).1.N.Nodup:=Qm hb.2;have J:=λC s H fp=>ih (aX Γ sc).1 (fv X sc (aX Γ sc).1.N C s H fp (sZ X sc (aX Γ sc).1.N (lX Φ xv) C s H fp)) Φ (eQ gx B fW) (rM hX)
       refine⟨bf (qc (xb:=sZ X sc (aX Γ sc).1.N (lX Φ xv)) (body:=λacc env=>gB elt acc env) gx.calm B (j6 hX.st hX.xgx) (I.i _ _ _ h1).1 (λoU acc env=>qC ..) (λC s H fp=>sJ (eQ gx B fW) h2) (λC s H fp=>(J C s H fp).ts _ _ h3) (λC s H fp D=>jX ((J C s H fp).e _ _ h4).1) (gE (I.i _ _ _ h1).2 _)) λσ H Q q=>zb hK B fW h2 q,cZ λρ S=>bK rfl,rfl⟩
      ·cases h
     ·rename_i tg it ifs oY jN cD;obtain⟨jM,h1,h⟩:=Qh.mp h;obtain⟨lq,h2,h⟩:=Qh.mp h;obtain⟨oJ,h3,h⟩:=Qh.mp h;obtain⟨pP,h5,h⟩:=Qh.mp h;obtain⟨lu,h6,h⟩:=Qh.mp h;obtain⟨qB,h7,h⟩:=Qh.mp h;obtain⟨e',h4,h⟩:=Qh.mp h;split at h
      ·rename_i hb;cases h;rw[Qk,Qk] at hb;have Dz:sc.kind= .function:=QI hk;have B:=q9 gx Dz hb.1.1;have fW:(aX Γ sc).1.N.Nodup:=Qm hb.1.2;have GM:∀i∈aT lu,i∉aT lq:=λi hi z=>by have:=QV.mp hb.2 i hi;simp[z] at this
       have J:=λC s H fp=>ih (aX Γ sc).1 (fv X sc (aX Γ sc).1.N C s H fp (sZ X sc (aX Γ sc).1.N (lX Φ xv) C s H fp)) Φ (eQ gx B fW) (rM hX)
       refine⟨bf (qc (xb:=sZ X sc (aX Γ sc).1.N (lX Φ xv)) (body:=λacc env=>nextOf (.ListComp elt [⟨tg,it,ifs,0⟩,⟨oY,jN,cD,0⟩] sc pos) 1 jN acc env) gx.calm B (j6 hX.st hX.xgx) (I.i _ _ _ h1).1 (λoU acc env=>qD ..) (λC s H fp=>sJ (eQ gx B fW) h2) (λC s H fp=>(J C s H fp).ts _ _ h3)
        (λC s H fp D=>uE gx.calm (uD hX.st) ((J C s H fp).i _ _ _ h5).1 (sJ (eQ gx B fW) h6) ((J C s H fp).ts _ _ h7) (jX ((J C s H fp).e _ _ h4).1) (gE ((J C s H fp).i _ _ _ h5).2 _)) (gE (I.i _ _ _ h1).2 _)) λσ H Q q=>uP hK B fW h2 h6 GM q,cZ λρ S=>bK rfl,rfl⟩
      ·cases h
     ·cases h
    ·cases h
   ·cases h
  ·
   unfold wx at h;split at h
   ·cases h;exact⟨Ie,rfl,λe z=>by cases z⟩
   ·obtain⟨e',h1,h⟩:=Qh.mp h;obtain⟨df,h2,h⟩:=Qh.mp h;cases h;obtain⟨k1,k2,k3⟩:=I.es _ _ h2;refine⟨EV (bL (I.e _ _ h1).2.2 _ _) (I.e _ _ h1).1 k1,by simp[Cs.len,k2],λe z=>?_⟩;rcases Qx.mp z with rfl | z
    ·exact(I.e _ _ h1).2.2
    ·exact k3 e z
  ·
   unfold Ax at h;split at h
   ·cases h;exact λpins s σ H Q I q=>BF pins s σ H Q I (by obtain⟨o,ρ,S,er,q⟩:=q;rw[cV] at q;exact q _ aW.refl er)
   ·obtain⟨e',h1,h⟩:=Qh.mp h;cases h;refine λpins s σ H Q I' q=>BG (I.e _ _ h1).2.1 pins s σ H Q I' ?_
    obtain⟨o,ρ,S,er,q⟩:=q;rw[cV] at q;exact⟨o,ρ,S,er,q⟩
   ·cases h
  ·
   unfold cB at h;split at h
   ·rename_i e;have k1:=(I.e _ _ h).1;have k2:=(I.e _ _ h).2.1;refine⟨Et k1,?_⟩;cases o with
    | And=>exact BH k2
    | Or=>exact EG k2
   ·rename_i e es lN;obtain⟨e',h1,h⟩:=Qh.mp h;obtain⟨df,h2,h⟩:=Qh.mp h;cases h;cases es with
    | nil=>exact(lN rfl).elim
    | cons b rest=>
     obtain⟨k1,k2⟩:=I.b o _ _ pos h2;cases o with
     | And=>exact⟨HU (I.e _ _ h1).1 k1,ET (I.e _ _ h1).2.1 k2⟩
     | Or=>exact⟨Mh (I.e _ _ h1).1 k1,Ih (I.e _ _ h1).2.1 k2⟩
   ·cases h
  ·
   unfold cI at h;split at h
   ·rename_i f p a q;split at h
    ·rename_i hf;have ef:=QI hf;subst ef;split at h
     ·rename_i hg;rw[Qk] at hg;obtain⟨a',h1,h⟩:=Qh.mp h;cases h;exact⟨EX (gx.gl _ hg.1) (gx.bl _ (gz hg.2)) (bL (I.e _ _ h1).2.2 [] _) (I.e _ _ h1).1,rfl⟩
     ·cases h
    split at h
    ·rename_i hf;have ef:=QI hf;subst ef;split at h
     ·split at h
      ·rename_i hg;rw[Qk] at hg;obtain⟨a',h1,h⟩:=Qh.mp h;cases h;exact⟨EW hK (gx.gl _ hg.1) (gx.bl _ (gz hg.2)) (bL (I.e _ _ h1).2.2 [] _) (I.e _ _ h1).1,rfl⟩
      ·cases h
     ·cases h
    ·obtain⟨c,h1,h⟩:=Qh.mp h;cases h;exact⟨zc hK (I.e _ _ h1).1,rfl⟩
   ·rename_i f p a b q;split at h
    ·rename_i hf;have ef:=QI hf;subst ef;split at h
     ·cases h
     ·cases h
    split at h
    ·rename_i hf;have ef:=QI hf;subst ef;split at h
     ·split at h
      ·rename_i hg;rw[Qk] at hg;obtain⟨a',h1,h⟩:=Qh.mp h;obtain⟨b',h2,h⟩:=Qh.mp h;cases h;have e2:=bL (I.e _ _ h2).2.2 [] X.env;exact⟨Ik hK (gx.gl _ hg.1) (gx.bl _ (gz hg.2)) (by rw[bL (I.e _ _ h1).2.2,e2];rfl) e2 (I.e _ _ h1).1 (I.e _ _ h2).1,rfl⟩
      ·cases h
     ·cases h
    ·obtain⟨c,h1,h⟩:=Qh.mp h;cases h;exact⟨zc hK (I.e _ _ h1).1,rfl⟩
   ·obtain⟨c,h1,h⟩:=Qh.mp h;cases h;exact⟨zc hK (I.e _ _ h1).1,(I.e _ _ h1).2.2⟩
  ·
   have tr:∀{c:C},(∀ρ S,dw F c ρ S=(ev F c ρ S).bind λx=>(dU x.1).bind λb=> .ok (b,x.2))->PE X (.Call (.Name f p) (a::as) [] pos) (bO Φ Γ F g.fr c)->PE X (.Call (.Name f p) (a::as) [] pos) (bO Φ Γ F g.fr c)/\PT X (.Call (.Name f p) (a::as) [] pos) (fP Φ Γ F c):=λhe h=>⟨h,j3 hK h (λ_=>rfl) he⟩
   have Je:∀(b:BI) (cs:Cs) ρ S,dw F (.bi b cs) ρ S=(ev F (.bi b cs) ρ S).bind λx=>(dU x.1).bind λb=> .ok (b,x.2):=λb cs ρ S=>by
    rw[dw,ev];cases gq F cs ρ S with
    | ok x=>simp only[R.ao];cases d5 b x.1 <;> rfl
    | ex k=>rfl
    | bad=>rfl
   have NZ:∀(f:Nat) (cs:Cs) (ds:List Dt) ρ S,dw F (.call f cs ds) ρ S=(ev F (.call f cs ds) ρ S).bind λx=>(dU x.1).bind λb=> .ok (b,x.2):=λf cs ds ρ S=>by
    rw[dw,ev];cases gq F cs ρ S with
    | ok x=>simp only[R.ao];cases F f (x.1++ds) none <;> rfl
    | ex k=>rfl
    | bad=>rfl
   have PL:∀(f:Nat) (cs:Cs) ρ S,dw F (.callD f cs) ρ S=(ev F (.callD f cs) ρ S).bind λx=>(dU x.1).bind λb=> .ok (b,x.2):=λf cs ρ S=>by
    rw[dw,ev];cases S.isSome with
    | false=>rfl
    | true=>
     simp only[guard_true];cases gq F cs ρ S with
     | ok x=>
      simp only[R.ao];cases x.2 with
      | none=>rfl
      | some s=>rfl
     | ex k=>rfl
     | bad=>rfl
   unfold tI at h;split at h
   ·rename_i hg;rw[Qk] at hg;have Gz:=gx.gl f hg.1;obtain⟨n1,n2,n3⟩:=eF hg.2;split at h
    ·rename_i kk np fB bb yd;split at h
     ·
      rename_i hdp;have:bb=true:=hdp;subst this;split at h
      ·rename_i y yp;split at h
       ·rename_i i hi;split at h
        ·cases h
        ·cases h
       ·cases h
      ·cases h
     ·rename_i hdp;have:bb=false:=by simpa using hdp
      subst this;split at h
      ·rename_i hn;rw[Qk] at hn;have a1:=Qm hn.1;have a2:=Qm hn.2;obtain⟨es,h1,h⟩:=Qh.mp h;cases h;obtain⟨k1,k2,k3⟩:=I.es _ _ h1;refine tr (NZ _ _ _) (s_call hX Gz n1 yd (Nat.sub_le _ _) ?_ (bL (k3 a Qr) _ _) (o8 λe z=>k3 e (Qo _ z)) k1);rw[k2,List.length_drop,QD]
       lia
      ·cases h
    ·split at h
     ·rename_i AO;have hm:=gx.bl f (gz AO);split at h
      ·cases h
      split at h
      ·rename_i hisi;have ef:=QI hisi;subst ef;split at h
       ·rename_i t tp GY;split at h
        ·rename_i pM;rw[Qk] at pM;obtain⟨T,h1,h⟩:=Qh.mp h;obtain⟨a',h2,h⟩:=Qh.mp h;cases h;have tn:t≠"__name__"/\(t==("__debug__":Str))=false:=by
          unfold sV at h1;split at h1
          ·rename_i e;rw[QI e];exact⟨by decide,by decide⟩
          split at h1
          ·rename_i e;rw[QI e];exact⟨by decide,by decide⟩
          split at h1
          ·rename_i e;rw[QI e];exact⟨by decide,by decide⟩
          split at h1
          ·rename_i e;rw[QI e];exact⟨by decide,by decide⟩
          split at h1
          ·rename_i e;rw[QI e];exact⟨by decide,by decide⟩
          ·cases h1
         exact tr (Je _ _) (HZ hK Gz hm (gx.gl t pM.1) (gx.bl t (gz pM.2)) h1 tn.1 tn.2 (bL (I.e _ _ h2).2.2 _ _) (I.e _ _ h2).1)
        ·cases h
       ·cases h
      ·have regular:∀{c:C},((qZ f (as.length + 1)).bind λi=>(wx n g Γ (a::as)).bind λes=>some (C.bi i es))=some c->PE X (.Call (.Name f p) (a::as) [] pos) (bO Φ Γ F g.fr c)/\PT X (.Call (.Name f p) (a::as) [] pos) (fP Φ Γ F c):=λ {c} h=>by obtain⟨b,h1,h⟩:=Qh.mp h;obtain⟨es,h2,h⟩:=Qh.mp h;cases h;obtain⟨k1,k2,k3⟩:=I.es _ _ h2;exact tr (Je _ _) (Mf hK gx Gz hm hg.2 h1 (bL (k3 a Qr) _ _) (o8 λe z=>k3 e (Qo _ z)) k1)
       split at h
       ·rename_i r rp b rq;split at h
        ·cases h
        split at h
        ·rename_i hr;have er:=QI hr;subst er;split at h
         ·rename_i pM;rw[Qk,Qk] at pM;have ef:=QI pM.2;subst ef;obtain⟨b',h1,h9⟩:=Qh.mp h;cases h9;exact tr (Je _ _) (E0 hK gx.calm gx.un Gz hm (gx.gl _ pM.1.1) (gx.bl _ (gz pM.1.2)) (bL (I.e _ _ h1).2.2 [] _) (I.e _ _ h1).1)
         ·cases h
        ·exact regular h
       ·rename_i r rp b c rq zz;split at h
        ·rename_i hr;have er:=QI hr;subst er;split at h
         ·rename_i pM;rw[Qk,Qk] at pM;have ef:=QI pM.2;subst ef;obtain⟨df,h1,h9⟩:=Qh.mp h;cases h9;obtain⟨k1,k2,k3⟩:=I.es _ _ h1;have hb:=k3 b (by simp);have hc:=k3 c (by simp);have e2:=bL hc [] X.env
          match df,k1,k2 with
          | .cons b' (.cons c' .nil),k1,k2=>exact tr (Je _ _) (E1 hK gx.calm Gz hm (gx.gl _ pM.1.1) (gx.bl _ (gz pM.1.2)) (by rw[bL hb,e2];rfl) e2 k1)
          | .nil,k1,k2=>exact absurd k2 (by simp[Cs.len])
          | .cons b' .nil,k1,k2=>exact absurd k2 (by simp[Cs.len])
          | .cons b' (.cons c' (.cons d' r')),k1,k2=>exact absurd k2 (by simp[Cs.len])
         ·cases h
        ·exact regular h
       ·exact regular h
     ·cases h
   ·cases h
end
structure OI (Φ:Fm) (W:Addr->Prop) (o:Ow):Prop where
 w:o.W=W
 d:∀a,Φ.d0=some a->o.dr=some a
structure SO (Φ:Fm) (Γ:Gm) (W:Addr->Prop) (o:Ow) (H:Hp) (ρ':aj) (S':Sx) (σ':L2.St) (H':Hp):Prop where
 ex:∃o',OI Φ W o'/\ER Φ Γ o' ρ' S' σ' H'/\∀b,o'.A b->o.A b\/H b=none
 ext:aW o.A H H'
 al:∀b x,H b=some x->∃y,H' b=some y
structure RO (Φ:Fm) (W:Addr->Prop) (fF:Bool) (d:Dt) (S':Sx) (v:V) (H':Hp):Prop where
 val:RV Φ.K W H' v d
 ent:aW (λb=>Φ.d0=some b) Φ.H0 H'
 drw:∀a,Φ.d0=some a->∃ns:List Int,S'=some ns/\H' a=some (.lst (ns.map V.int))
 fk:fF=true->∀ds,d= .lst ds->∃a xs,v= .ref a/\Φ.H0 a=none/\H' a=some (.lst xs)/\ak Φ.K (λb=>W b\/b=a) H' xs ds
noncomputable def c6 (Φ:Fm) (Γ:Gm) (W:Addr->Prop) (fF:Bool) (o:Ow) (H:Hp) (D:Ends) (p:Fl×aj×Sx):Prop:=match p.1 with
 | .next=>∀σ' H',SO Φ Γ W o H p.2.1 p.2.2 σ' H'->D.nx σ' H'
 | .brk=>∀σ' H',SO Φ Γ W o H p.2.1 p.2.2 σ' H'->D.bk σ' H'
 | .cnt=>∀σ' H',SO Φ Γ W o H p.2.1 p.2.2 σ' H'->D.ct σ' H'
 | .ret d=>∀v H',RO Φ W fF d p.2.2 v H'->D.rt v H'
noncomputable def ll (Φ:Fm) (Γ:Gm) (F:FT) (W:Addr->Prop) (fF:Bool) (t:T):TS:=λD σ H=>∃o ρ S,OI Φ W o/\ER Φ Γ o ρ S σ H/\mR Φ.Ek (ex F t ρ S) (c6 Φ Γ W fF o H D)
noncomputable def lp (Φ:Fm) (Γ:Gm) (F:FT) (W:Addr->Prop) (fF:Bool) (t:Ts):TS:=λD σ H=>∃o ρ S,OI Φ W o/\ER Φ Γ o ρ S σ H/\mR Φ.Ek (aO F t ρ S) (c6 Φ Γ W fF o H D)
theorem bA {X:Cx} {e:Stmt} {t t':TS} (h:PS X e t) (hi:∀D σ H,t' D σ H->t D σ H):PS X e t':=λpins s σ H D I q=>h pins s σ H D I (hi D σ H q)
theorem uJ {X:Cx} {e:List Stmt} {t t':TS} (h:ve X e t) (hi:∀D σ H,t' D σ H->t D σ H):ve X e t':=λpins s σ H D I q=>h pins s σ H D I (hi D σ H q)
section
variable {X:Cx} {Φ:Fm} {Γ:Gm} {F:FT} {g:G} {W:Addr->Prop} {fF:Bool} {o:Ow} {ρ:aj} {S:Sx} {σ:L2.St} {H H':Hp}
theorem ER.dA (er:ER Φ Γ o ρ S σ H) {H1:Hp} (e:aW o.d H H1):aW o.A H H1:=e.mono er.da
theorem ER.Cb {S1:Sx} {ρ1:aj} {σ1:L2.St} {H1:Hp} (aE:ER Φ Γ o ρ1 S1 σ1 H1) (e:aW o.d H H1):∀b x,H b=some x->∃y,H1 b=some y:=λb x h=>e.al h λz=>aE.al b (aE.da b z)
theorem SO.gP {S':Sx} {ρ':aj} {σ':L2.St} (oi:OI Φ W o) (er:ER Φ Γ o ρ' S' σ' H') (e:aW o.d H H'):SO Φ Γ W o H ρ' S' σ' H':=⟨⟨o,oi,er,λb z=> .inl z⟩,e.mono er.da,er.Cb e⟩
theorem SO.go {o':Ow} {H1 H2:Hp} {ρ2:aj} {S2:Sx} {σ2:L2.St} (e:aW o.A H H1) (hA:∀b,o'.A b->o.A b\/H b=none) (Cj:∀b x,H b=some x->∃y,H1 b=some y) (h:SO Φ Γ W o' H1 ρ2 S2 σ2 H2):SO Φ Γ W o H ρ2 S2 σ2 H2:=by
 obtain⟨⟨o2,JI,gf,Gw⟩,e2,a2⟩:=h;refine⟨⟨o2,JI,gf,λb z=>?_⟩,⟨λb x h n=>?_,λb xs h=>e2.tp _ _ (e.tp _ _ h)⟩,λb x h=>?_⟩
 ·rcases Gw b z with q | q
  ·exact hA b q
  ·refine .inr ?_;cases hb:H b with
   | none=>rfl
   | some x=>obtain⟨y,hy⟩:=Cj b x hb;rw[q] at hy;cases hy
 ·refine e2.kp _ _ (e.kp _ _ h n) λz=>?_
  rcases hA b z with q | q
  ·exact n q
  ·rw[h] at q;cases q
 ·obtain⟨y,hy⟩:=Cj b x h;exact a2 b y hy
theorem oA {fr:Nat->Bool} {c:C} {d:Dt} {v:V} {H1:Hp} (h:eI c d=true) (eo:EO Φ.K fr o c H d v H1):RV Φ.K o.A H1 v d:=by
 unfold eI at h;rw[QZ] at h;rcases h with h | h
 ·exact eo.dq (Qm h)
 ·exact eo.val.lI h
theorem CN {i:Nat} {c:C} {st:Stmt} (hp:plainS Γ i=true) (h:PS X st (qw (bO Φ Γ F g.fr c) (ey i))):PS X st (ll Φ Γ F W fF (.asg i c)):=bA h λD σ H q=>by obtain⟨o,ρ,S,oi,er,q⟩:=q;unfold ex at q;rw[ae] at q;refine⟨o,ρ,S,er,af q λp _ q v H1 eo aE=>?_⟩;obtain⟨gs,q⟩:=aN q;exact q _ _ (SO.gP oi (aE.set hp (oA gs eo)) eo.ext)
theorem Fp {i:Nat} {c:C} {st:Stmt} (hp:plainS Γ i=true) (hf:fresh g.fr c=true) (h:PS X st (qw (bO Φ Γ F g.fr c) (ey i))):PS X st (ll Φ Γ F W fF (.asgM i c)):=bA h λD σ H q=>by
 obtain⟨o,ρ,S,oi,er,q⟩:=q;unfold ex at q;rw[ae] at q;refine⟨o,ρ,S,er,af q λp _ q v H1 eo aE=>?_⟩;obtain⟨gs,q⟩:=aN q;have hv:RV Φ.K o.A H1 v p.1:=by
  by_cases hd:∃ds,p.1= .lst ds
  ·obtain⟨ds,hd⟩:=hd;obtain⟨a,xs,rfl,h1,h2,h3,h4⟩:=eo.fk hf ds hd;have na:¬o.A a:=λz=>by obtain⟨x,hx⟩:=er.al a z;rw[h1] at hx;cases hx
   rw[hd] at gs ⊢;refine RV.d8 h2 na ?_;unfold jw at gs;rcases Bool.or_eq_true_iff.mp gs with z | z
   ·exact(h4 (Qm z)).weak λb w=> .inl w
   ·exact h3.iI z
  ·refine oA ?_ eo;unfold jw at gs;unfold eI;cases hq:p.1 with
   | lst ds=>exact absurd ⟨ds,hq⟩ hd
   | _=>rw[hq] at gs;exact gs
 exact q _ _ (SO.gP oi (aE.set hp hv) eo.ext)
theorem ER.own {S1:Sx} {H1:Hp} {fr:Nat->Bool} {c:C} {d:Dt} {v:V} {i:Nat} (oi:OI Φ W o) (er:ER Φ Γ o ρ S σ H) (aE:ER Φ Γ o ρ S1 σ H1) (hm:fm Γ i=true) (hδ:Γ.δ≠some i) (hf:fresh fr c=true) (hl:jw c d=true) (eo:EO Φ.K fr o c H d v H1):
  ∃o',OI Φ W o'/\ER Φ Γ o' (ρ.set i (some d)) S1 (σ.set i (some v)) H1/\∀b,o'.A b->o.A b\/H b=none:=by
 by_cases hd:∃ds,d= .lst ds
 ·obtain⟨ds,rfl⟩:=hd;obtain⟨a,xs,rfl,h1,h2,h3,h4⟩:=eo.fk hf ds rfl;have h4:ak Φ.K (λb=>o.A b\/b=a) H1 xs ds:=by
   unfold jw at hl;rcases Bool.or_eq_true_iff.mp hl with l | l
   ·exact h4 (Qm l)
   ·exact h3.iI l
  have nA:¬o.A a:=λz=>by obtain⟨y,hy⟩:=er.al a z;rw[h1] at hy;cases hy
  have h0:Φ.H0 a=none:=by
   cases q:Φ.H0 a with
   | none=>rfl
   | some x=>
    by_cases x6:Φ.d0=some a
    ·exact absurd (er.da a (oi.d a x6)) nA
    ·rw[er.ent.kp a x q x6] at h1;cases h1
  have av:∀b,(o.A b\/b=a)->o.A b\/H b=none:=λb z=>z.elim .inl λe=> .inr (by rw[e];exact h1)
  have dA:∀b,o.d b->(o.A b\/b=a):=λb z=> .inl (er.da b z)
  refine⟨⟨o.W,λb=>o.A b\/b=a,o.dr⟩,⟨oi.w,oi.d⟩,⟨?_,λb z=> .inl (er.wa b z),λb z=> .inl (er.da b z),λb z=>?_,λj e he=>?_,λj j' b e e' m m' k1 k2 k3 k4=>?_,aE.drw,aE.drn,λj b hj hb=>?_,aE.dr0,aE.ent⟩,av⟩
  ·rw[List.length_set,List.length_set];exact er.len
  ·rcases z with z | z
   ·exact aE.al b z
   ·rw[z];exact⟨_,h2⟩
  ·by_cases hj:j=i
   ·subst hj;rw[List.getElem?_set] at he;simp only[if_true] at he;split at he
    ·rename_i cC;cases he;refine⟨.ref a,by rw[Q4 (by rw[er.len];exact cC)],?_⟩;rw[if_pos hm];exact⟨a,xs,rfl,h2,.inr rfl,λz=>nA (er.wa a z),λz=>nA (er.da a z),h0,h4⟩
    ·cases he
   ·rw[QC (Ne.symm hj)] at he;obtain⟨w,k1,k2⟩:=er.val j e he;refine⟨w,by rw[QC (Ne.symm hj)];exact k1,?_⟩;by_cases hmj:fm Γ j=true
    ·rw[if_pos hmj] at k2 ⊢;cases e with
     | lst es=>obtain⟨b,ys,e1,e2,e3,e4,e5,e6,e7⟩:=k2;exact⟨b,ys,e1,eo.ext.kp _ _ e2 e5,.inl e3,e4,e5,e6,(e7.bF av).mono eo.ext dA λ_ z=>z⟩
     | _=>exact(RV.bF av k2).mono eo.ext dA λ_ z=>z
    ·rw[if_neg hmj] at k2 ⊢;exact(k2.bF av).mono eo.ext dA λ_ z=>z
  ·
   have other:∀{j:Nat} {e:List Dt} {b:Addr},j≠i->fm Γ j=true->(ρ.set i (some (.lst ds)))[j]?=some (some (.lst e))->(σ.set i (some (.ref a)))[j]?=some (some (.ref b))->b≠a/\ρ[j]?=some (some (.lst e))/\σ[j]?=some (some (.ref b)):=λ {j e b} hj m k1 k3=>by rw[QC (Ne.symm hj)] at k1 k3;obtain⟨w,n1,n2⟩:=er.val j _ k1;rw[if_pos m] at n2;obtain⟨b',ys,e1,e2,_⟩:=n2;rw[k3] at n1;cases n1;cases e1;refine⟨λz=>?_,k1,k3⟩;rw[z,h1] at e2;cases e2
   by_cases hj:j=i
   ·by_cases z9:j'=i
    ·rw[hj,z9]
    ·obtain⟨n,_,_⟩:=other z9 m' k2 k4;subst hj;have cC:j < σ.length:=by have:=(Qn.mp k3).1;rw[List.length_set] at this;exact this
     rw[Q4 cC] at k3;cases k3;exact absurd rfl n
   ·obtain⟨n,p1,p2⟩:=other hj m k1 k3;by_cases z9:j'=i
    ·subst z9;have cC:j' < σ.length:=by have:=(Qn.mp k4).1;rw[List.length_set] at this;exact this
     rw[Q4 cC] at k4;cases k4;exact absurd rfl n
    ·obtain⟨_,p3,p4⟩:=other z9 m' k2 k4;exact er.inj j j' b e e' m m' p1 p3 p2 p4
  ·rw[QC (λz=>hδ (by rw[z];exact hj))];exact aE.drs j b hj hb
 ·
  have nl:∀e,d≠ .lst e:=λe z=>hd ⟨e,z⟩
  have hv:RV Φ.K o.A H1 v d:=by
   unfold jw at hl;rcases Bool.or_eq_true_iff.mp hl with l | l
   ·exact eo.dq (Qm l)
   ·cases d with
    | lst ds=>exact absurd rfl (nl ds)
    | _=>exact eo.val.lI l
  refine⟨o,oi,⟨?_,aE.wa,aE.da,aE.al,λj e he=>?_,λj j' b e e' m m' k1 k2 k3 k4=>?_,aE.drw,aE.drn,λj b hj hb=>?_,aE.dr0,aE.ent⟩,λb z=> .inl z⟩
  ·rw[List.length_set,List.length_set];exact er.len
  ·by_cases hj:j=i
   ·subst hj;rw[List.getElem?_set] at he;simp only[if_true] at he;split at he
    ·rename_i cC;cases he;refine⟨v,by rw[Q4 (by rw[er.len];exact cC)],?_⟩;rw[if_pos hm];cases d with
     | lst ds=>exact absurd rfl (nl ds)
     | _=>exact hv
    ·cases he
   ·rw[QC (Ne.symm hj)] at he;obtain⟨w,k1,k2⟩:=aE.val j e he;exact⟨w,by rw[QC (Ne.symm hj)];exact k1,k2⟩
  ·have other:∀{j:Nat} {e:List Dt},(ρ.set i (some d))[j]?=some (some (.lst e))->j≠i:=λ {j e} k1 z=>by
    subst z;rw[List.getElem?_set] at k1;simp only[if_true] at k1;split at k1
    ·cases k1;exact nl e rfl
    ·cases k1
   have n1:=other k1;have n2:=other k2;rw[QC (Ne.symm n1)] at k1 k3;rw[QC (Ne.symm n2)] at k2 k4;exact aE.inj j j' b e e' m m' k1 k2 k3 k4
  ·rw[QC (λz=>hδ (by rw[z];exact hj))];exact aE.drs j b hj hb
theorem Fo {i:Nat} {c:C} {st:Stmt} (hm:fm Γ i=true) (hδ:Γ.δ≠some i) (hf:fresh g.fr c=true) (h:PS X st (qw (bO Φ Γ F g.fr c) (ey i))):PS X st (ll Φ Γ F W fF (.asgM i c)):=bA h λD σ H q=>by obtain⟨o,ρ,S,oi,er,q⟩:=q;unfold ex at q;rw[ae] at q;refine⟨o,ρ,S,er,af q λp _ q v H1 eo aE=>?_⟩;obtain⟨gs,q⟩:=aN q;exact q _ _ ⟨ER.own oi er aE hm hδ hf gs eo,er.dA eo.ext,aE.Cb eo.ext⟩
end
section
variable {X:Cx} {Φ:Fm} {Γ:Gm} {F:FT} {g:G} {W:Addr->Prop} {fF:Bool} {o:Ow} {ρ:aj} {S:Sx} {σ:L2.St} {H H':Hp}
theorem jS {Ek:Nat->Prop} {ρ:aj} {i:Nat} {P:List Dt->Prop} (h:mR Ek (pS ρ i) P):∃ds,ρ[i]?=some (some (.lst ds))/\P ds:=by
 unfold pS at h;split at h
 ·exact⟨_,by assumption,h⟩
 ·exact h.elim
theorem zA {a:Addr} {u:HO}:∀b x,H b=some x->∃y,upd H a u b=some y:=λb x h=>by
 by_cases z:b=a
 ·subst z;exact⟨_,aB⟩
 ·exact⟨x,by rw[aq z];exact h⟩
theorem nT {ρ:aj} {i:Nat} (h:isLE ρ i=true):∃ds,ρ[i]?=some (some (.lst ds)):=by
 unfold isLE at h;split at h
 ·exact⟨_,by assumption⟩
 ·cases h
theorem ER.chg {i:Nat} {a:Addr} {ds es:List Dt} {xs ys:List V} (er:ER Φ Γ o ρ S σ H) (hm:fm Γ i=true) (hr:ρ[i]?=some (some (.lst ds))) (hs:σ[i]?=some (some (.ref a))) (hx:H a=some (.lst xs)) (hy:ak Φ.K o.A H ys es):
  ER Φ Γ o (ρ.set i (some (.lst es))) S σ (upd H a (.lst ys))/\aW o.A H (upd H a (.lst ys))/\∀b x,H b=some x->∃y,upd H a (.lst ys) b=some y:=by
 obtain⟨v,h1,h2⟩:=er.val i _ hr;rw[if_pos hm] at h2;rw[hs] at h1;cases h1;obtain⟨b,zs,e1,e2,e3,e4,e5,e6,e7⟩:=h2;cases e1;have up:aW (λb=>b=a) H (upd H a (.lst ys)):=⟨λb o h n=>by rw[aq n];exact h,Mx.lA hx⟩;have sub:∀b,b=a->o.A b:=λb z=>by rw[z];exact e3
 refine⟨⟨by rw[List.length_set];exact er.len,er.wa,er.da,λb hb=>?_,λj d hd=>?_,λj j' b d d' m m' k1 k2 k3 k4=>?_,λb hb=>?_,er.drn,er.drs,er.dr0,?_⟩,up.mono sub,zA⟩
 ·obtain⟨x,hx⟩:=er.al b hb;exact zA b x hx
 ·by_cases hj:j=i
  ·subst hj;rw[List.getElem?_set] at hd;simp only[if_true] at hd;split at hd
   ·cases hd;refine⟨.ref a,hs,?_⟩;rw[if_pos hm];exact⟨a,ys,rfl,aB,e3,e4,e5,e6,hy.mono up sub λ_ z=>z⟩
   ·cases hd
  ·rw[QC (Ne.symm hj)] at hd;obtain⟨w,k1,k2⟩:=er.val j d hd;refine⟨w,k1,?_⟩;by_cases hmj:fm Γ j=true
   ·rw[if_pos hmj] at k2 ⊢;cases d with
    | lst dl=>obtain⟨b,PH,n1,n2,n3,n4,n5,n6,n7⟩:=k2;refine⟨b,PH,n1,up.kp _ _ n2 (λz=>?_),n3,n4,n5,n6,n7.mono up sub λ_ z=>z⟩;subst n1 z;exact hj (er.inj j i b dl ds hmj hm hd hr k1 hs)
    | _=>exact RV.mono up sub (λ_ z=>z) k2
   ·rw[if_neg hmj] at k2 ⊢;exact k2.mono up sub λ_ z=>z
 ·have same:∀{j:Nat} {d:List Dt},(ρ.set i (some (.lst es)))[j]?=some (some (.lst d))->∃d',ρ[j]?=some (some (.lst d')):=λ {j d} q=>by
   by_cases hj:j=i
   ·subst hj;exact⟨ds,hr⟩
   ·rw[QC (Ne.symm hj)] at q;exact⟨d,q⟩
  obtain⟨d1,q1⟩:=same k1;obtain⟨d2,q2⟩:=same k2;exact er.inj j j' b d1 d2 m m' q1 q2 k3 k4
 ·obtain⟨ns,n1,n2⟩:=er.drw b hb;exact⟨ns,n1,up.kp _ _ n2 λz=>e5 (by rw[<-z];exact hb)⟩
 ·refine⟨λb x h n=>up.kp _ _ (er.ent.kp b x h n) λz=>?_,λb xs h=>up.tp _ _ (er.ent.tp b xs h)⟩;subst z;rw[h] at e6;cases e6
theorem gK {i:Nat} {ds:List Dt} (er:ER Φ Γ o ρ S σ H) (hm:fm Γ i=true) (hr:ρ[i]?=some (some (.lst ds))):∃a xs,σ[i]?=some (some (.ref a))/\H a=some (.lst xs)/\ak Φ.K o.A H xs ds:=by obtain⟨v,h1,h2⟩:=er.val i _ hr;rw[if_pos hm] at h2;obtain⟨a,xs,e1,e2,e3,e4,e5,e6,e7⟩:=h2;subst e1;exact⟨a,xs,h1,e2,e7⟩
theorem IK {i:Nat} {c:C} {st:Stmt} (hm:fm Γ i=true) (h:PS X st (qx (Mn X.K "list" uL (lT i) (zq (bO Φ Γ F g.fr c) Fc)))):PS X st (ll Φ Γ F W fF (.app i c)):=bA h λD σ H q=>by obtain⟨o,ρ,S,oi,er,q⟩:=q;unfold ex at q;obtain⟨gl,q⟩:=aN q;obtain⟨ds,hr⟩:=nT gl;obtain⟨a,xs,h1,h2,h3⟩:=gK er hm hr;rw[ae] at q;refine⟨.ref a,h1,.inl ⟨rfl,_,dY.of h2⟩,o,ρ,S,er,af q λp _ q v H1 eo aE=>?_⟩;obtain⟨gs,q⟩:=aN q;rw[ae] at q;obtain⟨wy,e1,q⟩:=jS q;rw[hr] at e1;cases e1;obtain⟨gl,q⟩:=aN q;obtain⟨a',oN,gT,mB,Cf⟩:=gK aE hm hr;rw[h1] at gT;cases gT;have iy:=b8;have rL:=sizeLine_eq;have P3:lim=1000000:=rfl;have yb:=Qm gl;refine⟨a,oN,v,rfl,rfl,mB,by rw[Cf.length];lia,?_⟩;obtain⟨k1,k2,k3⟩:=aE.chg hm hr h1 mB (Cf.append (ak.cons (oA gs eo) ak.nil));exact q _ _ (SO.go (er.dA eo.ext) (λb z=> .inl z) (aE.Cb eo.ext) ⟨⟨o,oi,k1,λb z=> .inl z⟩,k2,k3⟩)
theorem IT {i:Nat} {c:C} {st:Stmt} (hm:fm Γ i=true) (h:PS X st (qx (Mn X.K "list" uM (lT i) (zq (bO Φ Γ F g.fr c) Fc)))):PS X st (ll Φ Γ F W fF (.xtd i c)):=bA h λD σ H q=>by
 obtain⟨o,ρ,S,oi,er,q⟩:=q;unfold ex at q;obtain⟨gl,q⟩:=aN q;obtain⟨ds,hr⟩:=nT gl;obtain⟨a,xs,h1,h2,h3⟩:=gK er hm hr;rw[ae] at q;refine⟨.ref a,h1,.inl ⟨rfl,_,dY.of h2⟩,o,ρ,S,er,af q λp _ q v H1 eo aE=>?_⟩;obtain⟨gs,q⟩:=aN q;rw[ae] at q;obtain⟨wy,e1,q⟩:=jS q;rw[hr] at e1;cases e1;obtain⟨a',oN,gT,mB,Cf⟩:=gK aE hm hr;rw[h1] at gT;cases gT;cases hd:p.1 with
 | lst es=>rw[hd] at q eo;obtain⟨gl,q⟩:=aN q;obtain⟨b,zs,rfl,f1,f2⟩:=eo.oz (Qm gs);have iy:=b8;have yb:=Qm gl;refine⟨a,b,oN,zs,rfl,rfl,mB,f1,by rw[Cf.length,f2.length];lia,?_⟩;obtain⟨k1,k2,k3⟩:=aE.chg hm hr h1 mB (Cf.append f2);exact q _ _ (SO.go (er.dA eo.ext) (λb z=> .inl z) (aE.Cb eo.ext) ⟨⟨o,oi,k1,λb z=> .inl z⟩,k2,k3⟩)
 | _=>rw[hd] at q;exact q.elim
theorem IM {i:Nat} {st:Stmt} (hm:fm Γ i=true) (h:PS X st (qx (Iw X.K "list" y7 (lT i)))):PS X st (ll Φ Γ F W fF (.clr i)):=bA h λD σ H q=>by obtain⟨o,ρ,S,oi,er,q⟩:=q;unfold ex at q;rw[ae] at q;obtain⟨ds,hr,q⟩:=jS q;obtain⟨a,xs,h1,h2,h3⟩:=gK er hm hr;obtain⟨k1,k2,k3⟩:=er.chg hm hr h1 h2 (ak.nil (K:=Φ.K) (A:=o.A));exact⟨.ref a,h1,.inl ⟨rfl,_,dY.of h2⟩,a,xs,rfl,rfl,h2,q _ _ ⟨⟨o,oi,k1,λb z=> .inl z⟩,k2,k3⟩⟩
theorem Fu {i:Nat} {k v:C} {st:Stmt} (hm:fm Γ i=true) (h:PS X st (qw (bO Φ Γ F g.fr v) (Gu (lT i) (bO Φ Γ F g.fr k) CF))):PS X st (ll Φ Γ F W fF (.vY i k v)):=bA h λD σ H q=>by
 obtain⟨o,ρ,S,oi,er,q⟩:=q;unfold ex at q;obtain⟨gl,q⟩:=aN q;obtain⟨ds,hr⟩:=nT gl;obtain⟨a,xs,h1,h2,h3⟩:=gK er hm hr;rw[ae] at q;refine⟨o,ρ,S,er,af q λp _ q x H1 eo aE=>?_⟩;rw[ae] at q;refine⟨.ref a,h1,o,ρ,p.2,aE,af q λp2 _ q y H2 eo2 gf=>?_⟩;obtain⟨gs,q⟩:=aN q;rw[ae] at q;obtain⟨wy,e1,q⟩:=jS q;rw[hr] at e1;cases e1;obtain⟨a',oN,gT,mB,Cf⟩:=gK gf hm hr;rw[h1] at gT;cases gT;cases hd:p2.1 with
 | int n=>
  rw[hd] at q eo2;simp only at q;cases hj:mG ds.length n with
  | none=>rw[hj] at q;exact q.elim
  | some j=>
   rw[hj] at q;have hx:RV Φ.K o.A H2 x p.1:=by
    unfold eI at gs;rw[QZ] at gs;obtain⟨k1,k2,k3⟩:=eo.keep eo2.ext er.gS;rcases gs with gs | gs
    ·exact k2 (Qm gs)
    ·exact k1.lI gs
   refine⟨a,oN,n,j,rfl,eo2.val.int_inv,mB,by rw[Cf.length];exact hj,?_⟩;obtain⟨k1,k2,k3⟩:=gf.chg hm hr h1 mB (Cf.set j hx);exact q _ _ (SO.go (er.dA (eo.ext.trans eo2.ext)) (λb z=> .inl z) (gf.Cb (eo.ext.trans eo2.ext)) ⟨⟨o,oi,k1,λb z=> .inl z⟩,k2,k3⟩)
 | _=>rw[hd] at q;exact q.elim
theorem IQ {c:C} {st:Stmt} (h:PS X st (qx (bO Φ Γ F g.fr c))):PS X st (ll Φ Γ F W fF (.Kl c)):=bA h λD σ H q=>by obtain⟨o,ρ,S,oi,er,q⟩:=q;unfold ex at q;rw[ae] at q;exact⟨o,ρ,S,er,af q λp _ q v H1 eo aE=>q _ _ (SO.gP oi aE eo.ext)⟩
theorem ER.h0 {a:Addr} (oi:OI Φ W o) (er:ER Φ Γ o ρ S σ H) (h:H a=none):Φ.H0 a=none:=by
 cases q:Φ.H0 a with
 | none=>rfl
 | some x=>
  by_cases x6:Φ.d0=some a
  ·obtain⟨y,hy⟩:=er.al a (er.da a (oi.d a x6));rw[h] at hy;cases hy
  ·rw[er.ent.kp a x q x6] at h;cases h
theorem CO {c:C} {st:Stmt} (hf:fF=true->fresh g.fr c=true) (h:PS X st (Fe (bO Φ Γ F g.fr c))):PS X st (ll Φ Γ F W fF (.ret c)):=bA h λD σ H q=>by
 obtain⟨o,ρ,S,oi,er,q⟩:=q;unfold ex at q;rw[ae] at q;refine⟨o,ρ,S,er,af q λp Na q v H1 eo aE=>?_⟩;have hw:∀b,W b->o.wd b:=λb z=> .inl (by rw[oi.w];exact z)
 refine q _ _ ⟨eo.val.weak hw,aE.ent,λa ha=>aE.drw a (oi.d a ha),λhfF ds ed=>?_⟩;obtain⟨a,xs,h1,h2,h3,h4,_⟩:=eo.fk (hf hfF) ds ed;exact⟨a,xs,h1,er.h0 oi h2,h3,h4.weak λb z=>z.imp (hw b) id⟩
theorem Fs {i:Nat} {st:Stmt} (hm:fm Γ i=true) (h:PS X st (Fe (lT i))):PS X st (ll Φ Γ F W fF (.ret (.mvr i))):=bA h λD σ H q=>by
 obtain⟨o,ρ,S,oi,er,q⟩:=q;unfold ex ev at q;rw[ae,ae] at q;obtain⟨d,hd,q⟩:=nL q;obtain⟨v,k1,k2⟩:=er.val i d hd;rw[if_pos hm] at k2;have hw:∀b,W b->o.wd b:=λb z=> .inl (by rw[oi.w];exact z)
 have O3:∀b,W b->o.A b:=λb z=>er.wa b (by rw[oi.w];exact z)
 refine⟨v,k1,q _ _ ⟨(k2.val er.wa er.da).weak hw,er.ent,λa ha=>er.drw a (oi.d a ha),λhfF ds ed=>?_⟩⟩;simp only at ed;subst ed;obtain⟨a,xs,e1,e2,e3,e4,e5,e6,e7⟩:=k2;exact⟨a,xs,e1,e6,e2,e7.weak λb z=>z.elim (O3 b) λy=>by rw[y];exact e3⟩
theorem Ft {st:Stmt} (h:PS X st CL):PS X st (ll Φ Γ F W fF .retN):=bA h λD σ H q=>by obtain⟨o,ρ,S,oi,er,q⟩:=q;exact q _ _ ⟨RV.gI,er.ent,λa ha=>er.drw a (oi.d a ha),λ_ ds ed=>by cases ed⟩
theorem Fq {st:Stmt} (h:PS X st zr):PS X st (ll Φ Γ F W fF .pas):=bA h λD σ H q=>by obtain⟨o,ρ,S,oi,er,q⟩:=q;exact q _ _ (SO.gP oi er aW.refl)
theorem IL {st:Stmt} (h:PS X st zp):PS X st (ll Φ Γ F W fF .brk):=bA h λD σ H q=>by obtain⟨o,ρ,S,oi,er,q⟩:=q;exact q _ _ (SO.gP oi er aW.refl)
theorem IP {st:Stmt} (h:PS X st CK):PS X st (ll Φ Γ F W fF .cnt):=bA h λD σ H q=>by obtain⟨o,ρ,S,oi,er,q⟩:=q;exact q _ _ (SO.gP oi er aW.refl)
theorem c6.go {o':Ow} {H1:Hp} {D D':Ends} {p:Fl×aj×Sx} (e:aW o.A H H1) (hA:∀b,o'.A b->o.A b\/H b=none) (Cj:∀b x,H b=some x->∃y,H1 b=some y)
  (hn:∀σ' H',D.nx σ' H'->D'.nx σ' H') (hb:∀σ' H',D.bk σ' H'->D'.bk σ' H') (hc:∀σ' H',D.ct σ' H'->D'.ct σ' H') (hr:∀v H',D.rt v H'->D'.rt v H') (h:c6 Φ Γ W fF o H D p):c6 Φ Γ W fF o' H1 D' p:=by
 unfold c6 at h ⊢;cases hp:p.1 with
 | next=>rw[hp] at h;exact λσ' H' so=>hn _ _ (h σ' H' (SO.go e hA Cj so))
 | brk=>rw[hp] at h;exact λσ' H' so=>hb _ _ (h σ' H' (SO.go e hA Cj so))
 | cnt=>rw[hp] at h;exact λσ' H' so=>hc _ _ (h σ' H' (SO.go e hA Cj so))
 | ret d=>rw[hp] at h;exact λv H' ro=>hr _ _ (h v H' ro)
theorem zM:ve X [] (lp Φ Γ F W fF .nil):=uJ BD λD σ H q=>by obtain⟨o,ρ,S,oi,er,q⟩:=q;exact q _ _ (SO.gP oi er aW.refl)
theorem B1 {st:Stmt} {oF:List Stmt} {t:T} {ts:Ts} (h1:PS X st (ll Φ Γ F W fF t)) (h2:ve X oF (lp Φ Γ F W fF ts)):ve X (st::oF) (lp Φ Γ F W fF (.cons t ts)):=uJ (yX h1 h2) λD σ H q=>by
 obtain⟨o,ρ,S,oi,er,q⟩:=q;unfold aO at q;rw[ae] at q;refine⟨o,ρ,S,oi,er,af q λp _ q=>?_⟩;unfold c6;cases hp:p.1 with
 | next=>rw[hp] at q;intro σ1 H1 so;obtain⟨⟨o1,LR,aE,KA⟩,e1,a1⟩:=so;exact⟨o1,p.2.1,p.2.2,LR,aE,af q λp2 _ q=>c6.go e1 KA a1 (λ_ _ z=>z) (λ_ _ z=>z) (λ_ _ z=>z) (λ_ _ z=>z) q⟩
 | brk=>rw[hp] at q;exact q
 | cnt=>rw[hp] at q;exact q
 | ret d=>rw[hp] at q;exact q
theorem IS {t:C} {a b:Ts} {st:Stmt} (h:PS X st (IA (fP Φ Γ F t) (lp Φ Γ F W fF a) (lp Φ Γ F W fF b))):PS X st (ll Φ Γ F W fF (.ifs t a b)):=bA h λD σ H q=>by
 obtain⟨o,ρ,S,oi,er,q⟩:=q;unfold ex at q;rw[ae] at q;refine⟨o,ρ,S,er,af q λp _ q H1 e1 aE=>?_⟩;have go:∀{ts:Ts},mR Φ.Ek (aO F ts ρ p.2) (c6 Φ Γ W fF o H D)->lp Φ Γ F W fF ts D σ H1:=λq=>⟨o,ρ,p.2,oi,aE,af q λp2 _ q=>c6.go (er.dA e1) (λb z=> .inl z) (aE.Cb e1) (λ_ _ z=>z) (λ_ _ z=>z) (λ_ _ z=>z) (λ_ _ z=>z) q⟩
 cases hp:p.1 with
 | true=>rw[hp] at q;exact Hg (go q)
 | false=>rw[hp] at q;exact Hf (go q)
theorem IR {tg:Tg} {it:o6} {b:Ts} {st:Stmt} (hK:Φ.K=X.K) (hp:∀i∈aT tg,plainS Γ i=true) (h:PS X st (Iz (oH Φ Γ F it) (CM X.K tg) (lp Φ Γ F W fF b))):PS X st (ll Φ Γ F W fF (.fr tg it b)):=bA h λD σ H q=>by
 obtain⟨o,ρ,S,oi,er,q⟩:=q;unfold ex at q;rw[ae] at q;refine⟨o,ρ,S,er,af q λp _ q J H1 io aE=>?_⟩;obtain⟨gs,q⟩:=aN q;have wk:Wk Φ.K o.A o.A J H1 p.1:=(Bool.or_eq_true_iff.mp gs).elim (λz=>io.w0 (Qm z)) io.w2;refine⟨λi m σ2 H2=>m=p.1.length - i/\i<=p.1.length/\∃o2 ρ2 S2,OI Φ W o2/\ER Φ Γ o2 ρ2 S2 σ2 H2/\aW o.A H1 H2/\(∀b,o2.A b->o.A b\/H1 b=none)/\(∀b x,H1 b=some x->∃y,H2 b=some y)/\mR Φ.Ek (forL tg (aO F b) (p.1.drop i) ρ2 S2) (c6 Φ Γ W fF o H D),
  ⟨_,rfl,Nat.zero_le _,o,ρ,p.2,oi,aE,aW.refl,λb z=> .inl z,λb x hx=>⟨x,hx⟩,q⟩,?_⟩
 rintro i m σ2 H2 ⟨rfl,hi,o2,ρ2,S2,JI,gf,e2,Gw,MH,q⟩;have eH:aW o.A H H2:=(er.dA io.ext).trans e2;have aH:∀b x,H b=some x->∃y,H2 b=some y:=λb x hx=>by obtain⟨y,hy⟩:=aE.Cb io.ext b x hx;exact MH b y hy
 have A1:∀b,o2.A b->o.A b\/H b=none:=λb z=>(Gw b z).imp id λq=>by
  cases hb:H b with
  | none=>rfl
  | some x=>obtain⟨y,hy⟩:=aE.Cb io.ext b x hb;rw[q] at hy;cases hy
 by_cases cC:i < p.1.length
 ·refine .inr ⟨wk.go i H2 cC e2,?_⟩;have hd:∃d,p.1[i]?=some d:=⟨p.1[i],by simp[cC]⟩;obtain⟨d0,x6⟩:=hd;have Km:p.1.drop i=d0::p.1.drop (i + 1):=by rw[List.drop_eq_getElem_cons cC];congr 1;exact(Qn.mp x6).2
  rw[Km] at q;unfold forL at q;rw[ae] at q;obtain⟨ρ3,hρ,q⟩:=pV (qm _ _ _) q;rw[ae] at q;refine⟨λσ3 H3=>i + 1<=p.1.length/\∃o3 ρ3 S3,OI Φ W o3/\ER Φ Γ o3 ρ3 S3 σ3 H3/\aW o.A H1 H3/\(∀b,o3.A b->o.A b\/H1 b=none)/\(∀b x,H1 b=some x->∃y,H3 b=some y)/\mR Φ.Ek (forL tg (aO F b) (p.1.drop (i + 1)) ρ3 S3) (c6 Φ Γ W fF o H D),λσ3 H3 z=>⟨p.1.length - (i + 1),by lia,rfl,z⟩,λx H3 y=>?_⟩;obtain⟨s3,d,hd,hx⟩:=wk.yld i x H2 H3 cC e2 y;rw[x6] at hd;cases hd;have pN:=hx o2.A Gw;rw[<-hK];refine zt (gf.grow s3) hp pN hρ λσ4 Kq _=>?_
  refine⟨o2,ρ3,S2,JI,Kq,af q λp2 _ q=>?_⟩;have again:∀{σ5:L2.St} {H5:Hp},SO Φ Γ W o2 H3 p2.2.1 p2.2.2 σ5 H5->mR Φ.Ek (forL tg (aO F b) (p.1.drop (i + 1)) p2.2.1 p2.2.2) (c6 Φ Γ W fF o H D)->i + 1<=p.1.length/\∃o3 ρ3 S3,OI Φ W o3/\ER Φ Γ o3 ρ3 S3 σ5 H5/\aW o.A H1 H5/\(∀b,o3.A b->o.A b\/H1 b=none)/\(∀b x,H1 b=some x->∃y,H5 b=some y)/\mR Φ.Ek (forL tg (aO F b) (p.1.drop (i + 1)) ρ3 S3) (c6 Φ Γ W fF o H D):=λ {σ5 H5} so q=>by have Pj:=SO.go (o:=o) (H:=H1) (e2.trans (aW.of_same s3)) Gw (λb x hx=>by obtain⟨y,hy⟩:=MH b x hx;exact⟨y,s3 _ _ hy⟩) so;obtain⟨⟨o5,Ph,Ji,Ob⟩,e5,a5⟩:=Pj;exact⟨cC,o5,_,_,Ph,Ji,e5,Ob,a5,q⟩
  unfold c6;cases fH:p2.1 with
  | next=>rw[fH] at q;exact λσ5 H5 so=>again so q
  | cnt=>rw[fH] at q;exact λσ5 H5 so=>again so q
  | brk=>rw[fH] at q;intro σ5 H5 so;have q:c6 Φ Γ W fF o H D (.next,p2.2):=q;unfold c6 at q;exact q σ5 H5 (SO.go (eH.trans (aW.of_same s3)) A1 (λb x hx=>by obtain⟨y,hy⟩:=aH b x hx;exact⟨y,s3 _ _ hy⟩) so)
  | ret d=>rw[fH] at q;have q:c6 Φ Γ W fF o H D (.ret d,p2.2):=q;exact q
 ·have e:i=p.1.length:=by lia
  subst e;rw[List.drop_length] at q;have q:c6 Φ Γ W fF o H D (.next,ρ2,S2):=q;unfold c6 at q;exact .inl ⟨wk.stop H2 e2,q _ _ ⟨⟨o2,JI,gf,A1⟩,eH,aH⟩⟩
end
noncomputable def i7:Expr->Bool
 | .ListComp ..=>true
 | .SetComp ..=>true
 | .DictComp ..=>true
 | _=>false
noncomputable def Da (n:Nat) (g:G) (Γ:Gm) (i:Nat) (e:Expr):Option T:=match e with
 | .Name y p=>match slot Γ y with
  | some j=>if fm Γ j then none else(cE n g Γ (.Name y p)).bind λc=>some (.asg i c)
  | none=>(cE n g Γ (.Name y p)).bind λc=>some (.asg i c)
 | e=>(cE n g Γ e).bind λc=>some (if fresh g.fr c&&lk c != 0 then .asgM i c else .asg i c)
noncomputable def Dd (n:Nat) (g:G) (Γ:Gm) (fF:Bool) (e:Expr):Option T:=match e with
 | .Name y p=>match slot Γ y with
  | some j=>if fm Γ j then(if Γ.δ==some j then none else some (.ret (.mvr j))) else(cE n g Γ (.Name y p)).bind λc=>if fF then none else some (.ret c)
  | none=>(cE n g Γ (.Name y p)).bind λc=>if fF then none else some (.ret c)
 | e=>(cE n g Γ e).bind λc=>if !fF||fresh g.fr c then some (.ret c) else none
mutual
noncomputable def cS:Nat->G->Gm->Bool->Bool->Stmt->Option T
 | 0,_,_,_,_,_=>none
 | n + 1,g,Γ,dp,fF,st=>match st with
  | .Assign tgs e _=>match tgs with
   | [.Name x _]=>(fO Γ x).bind λi=>
     if Γ.δ==some i then none
     else if fm Γ i then(cE n g Γ e).bind λc=>if fresh g.fr c then some (.asgM i c) else none
     else Da n g Γ i e
   | [.Subscript (.Name x _) k _]=>(slot Γ x).bind λi=>if fm Γ i then(cE n g Γ e).bind λv'=>(cE n g Γ k).bind λk'=>some (.vY i k' v') else none
   | _=>none
  | .Expr ex _=>match ex with
   | .Call (.Attribute (.Name x _) m ap) [a] [] cp=>(slot Γ x).bind λi=>if fm Γ i&&ap.endLine==cp.line then(cE n g Γ a).bind λa'=>
     (if m==("append":Str) then some (.app i a') else if m==("extend":Str) then some (.xtd i a') else none) else none
   | .Call (.Attribute (.Name x _) m ap) [] [] cp=>(slot Γ x).bind λi=>if fm Γ i&&ap.endLine==cp.line&&m==("clear":Str) then some (.clr i) else none
   | e=>if i7 e then none else(cE n g Γ e).bind λc=>some (.Kl c)
  | .Return (some e) _=>Dd n g Γ fF e
  | .Return none _=>some .retN
  | .If t a b _=>(cE n g Γ t).bind λt'=>(De n g Γ dp fF a).bind λa'=>(De n g Γ dp fF b).bind λb'=>some (.ifs t' a' b')
  | .For tg it b els _=>match els with
   | []=>(cI n g Γ tg it).bind λjM=>(ra Γ tg).bind λlq=>(De n g Γ dp fF b).bind λb'=>some (.fr lq jM b')
   | _=>none
  | .Break _=>some .brk
  | .Continue _=>some .cnt
  | .Pass _=>some .pas
  | _=>none
noncomputable def De:Nat->G->Gm->Bool->Bool->List Stmt->Option Ts
 | 0,_,_,_,_,_=>none
 | n + 1,g,Γ,dp,fF,oF=>match oF with
  | []=>some .nil
  | st::oF=>(cS n g Γ dp fF st).bind λt=>(De n g Γ dp fF oF).bind λts=>some (.cons t ts)
end
section
variable {g:G} {xv:Nat->Value} {CX:j7} {k:Nat} {F:FT} {X:Cx} {Φ:Fm} {Γ:Gm} {W:Addr->Prop}
theorem qv {e:Expr} (h:i7 e=false) (t:Option Expr) (l:Nat) (env:Env):swapsWith e t l env=pure false:=by cases e <;> first | rfl | (simp[i7] at h)
theorem vZ {e:Expr} {t:Expr} (ht:∀x p,t≠ .Name x p) (l:Nat) (env:Env):swapsWith e (some t) l env=pure false:=by cases e <;> first | rfl | (cases t <;> first | rfl | exact absurd rfl (ht _ _))
theorem pA {n:Nat} {elt:Expr} {gens:List Comprehension} {sc:Scope} {fA:Pos} {c:C} (h:cE (n + 1) g Γ (.ListComp elt gens sc fA)=some c):sc.kind= .function/\xa sc.names Γ.names (aX Γ sc).1.N Γ.N (aX Γ sc).2=true/\(aX Γ sc).1.N.Nodup/\
  ((∃tg it ifs jM lq oJ e',gens=[⟨tg,it,ifs,0⟩]/\cI n g Γ tg it=some jM/\ra (aX Γ sc).1 tg=some lq/\Ax n g (aX Γ sc).1 ifs=some oJ/\cE n g (aX Γ sc).1 elt=some e'/\c= .comp (aX Γ sc).2 jM lq oJ e')\/
   (∃tg it ifs oY jN cD jM lq oJ pP lu qB e',gens=[⟨tg,it,ifs,0⟩,⟨oY,jN,cD,0⟩]/\cI n g Γ tg it=some jM/\ra (aX Γ sc).1 tg=some lq/\Ax n g (aX Γ sc).1 ifs=some oJ/\cI n g (aX Γ sc).1 oY jN=some pP/\ra (aX Γ sc).1 oY=some lu/\Ax n g (aX Γ sc).1 cD=some qB/\cE n g (aX Γ sc).1 elt=some e'/\
   (∀i∈aT lu,i∉aT lq)/\c= .ml (aX Γ sc).2 jM lq oJ pP lu qB e')):=by
 unfold cE at h;simp only at h;split at h
 ·rename_i hk;split at h
  ·rename_i tg it ifs;obtain⟨jM,h1,h⟩:=Qh.mp h;obtain⟨lq,h2,h⟩:=Qh.mp h;obtain⟨oJ,h3,h⟩:=Qh.mp h;obtain⟨e',h4,h⟩:=Qh.mp h;split at h
   ·rename_i hb;cases h;rw[Qk] at hb;exact⟨QI hk,hb.1,Qm hb.2,.inl ⟨tg,it,ifs,jM,lq,oJ,e',rfl,h1,h2,h3,h4,rfl⟩⟩
   ·cases h
  ·rename_i tg it ifs oY jN cD;obtain⟨jM,h1,h⟩:=Qh.mp h;obtain⟨lq,h2,h⟩:=Qh.mp h;obtain⟨oJ,h3,h⟩:=Qh.mp h;obtain⟨pP,h5,h⟩:=Qh.mp h;obtain⟨lu,h6,h⟩:=Qh.mp h;obtain⟨qB,h7,h⟩:=Qh.mp h;obtain⟨e',h4,h⟩:=Qh.mp h;split at h
   ·rename_i hb;cases h;rw[Qk,Qk] at hb;refine⟨QI hk,hb.1.1,Qm hb.1.2,.inr ⟨tg,it,ifs,oY,jN,cD,jM,lq,oJ,pP,lu,qB,e',rfl,h1,h2,h3,h5,h6,h7,h4,λi hi z=>?_,rfl⟩⟩;have:=QV.mp hb.2 i hi;simp[z] at this
   ·cases h
  ·cases h
 ·cases h
theorem iL {n i:Nat} {x:Str} {e:Expr} {c:C} {pos' pos:Pos} (gx:GX g Γ X) (hX:HX g xv CX k F Φ X) (hs:fO Γ x=some i) (h:cE n g Γ e=some c):PS X (.Assign [.Name x pos'] e pos) (qw (bO Φ Γ F g.fr c) (ey i)):=by
 have S:=iO (F:=F) n Γ X Φ gx hX;obtain⟨a1,a2,a3⟩:=k8 hs;obtain⟨l1,l2⟩:=gx.loc x a1;have hN:X.N.Nodup:=gx.N▸gx.nd;have hi:X.N[i]?=some x:=by rw[gx.N];exact a3
 by_cases hc:i7 e=true
 ·cases n with
  | zero=>simp[cE] at h
  | succ n=>
   cases e with
   | ListComp elt gens sc fA=>
    have Oh:=(S.e _ _ h).1;obtain⟨hk,hb,fW,GI⟩:=pA h;cases DK:(X.env.blockKind== .function&&X.env.kindOf x==some .local&&pos'.line==(Expr.ListComp elt gens sc fA).pos.line&& !(sc.names.any λ(n,k)=>n==x&&(k== .local||k== .cell))) with
    | false=>exact yW hN hi l1 Oh (by show pure (X.env.blockKind== .function&&X.env.kindOf x==some .local&&pos'.line==(Expr.ListComp elt gens sc fA).pos.line&& !(sc.names.any λ(n,k)=>n==x&&(k== .local||k== .cell)))=_;rw[DK]) l2
    | true=>
     have hl:X.env.kindOf x=some .local:=by rw[Qk,Qk,Qk] at DK;exact QI DK.1.1.2
     have B:=q9 gx hk hb;have S1:=iO (F:=F) n Γ X Φ gx hX;have J:=λC s H fp=>iO (F:=F) n (aX Γ sc).1 (fv X sc (aX Γ sc).1.N C s H fp (sZ X sc (aX Γ sc).1.N (lX Φ xv) C s H fp)) Φ (eQ gx B fW) (rM hX)
     rcases GI with ⟨tg,it,ifs,jM,lq,oJ,e',rfl,h1,h2,h3,h4,rfl⟩ | ⟨tg,it,ifs,oY,jN,cD,jM,lq,oJ,pP,lu,qB,e',rfl,h1,h2,h3,h5,h6,h7,h4,GM,rfl⟩
     ·refine bA (ju (xb:=sZ X sc (aX Γ sc).1.N (lX Φ xv)) (body:=λacc env=>gB elt acc env) (i:=i) gx.calm hN hi hl B (j6 hX.st hX.xgx) (S1.i _ _ _ h1).1 (λoU acc env=>qC ..) (λC s H fp=>sJ (eQ gx B fW) h2) (λC s H fp=>(J C s H fp).ts _ _ h3) (λC s H fp D=>jX ((J C s H fp).e _ _ h4).1) (gE (S1.i _ _ _ h1).2 _) ?_) λD σ H q=>zb hX.K B fW h2 q
      show pure (X.env.blockKind== .function&&X.env.kindOf x==some .local&&pos'.line==(Expr.ListComp elt [⟨tg,it,ifs,0⟩] sc fA).pos.line&& !(sc.names.any λ(n,k)=>n==x&&(k== .local||k== .cell)))=_;rw[DK]
     ·refine bA (ju (xb:=sZ X sc (aX Γ sc).1.N (lX Φ xv)) (body:=λacc env=>nextOf (.ListComp elt [⟨tg,it,ifs,0⟩,⟨oY,jN,cD,0⟩] sc fA) 1 jN acc env) (i:=i) gx.calm hN hi hl B (j6 hX.st hX.xgx) (S1.i _ _ _ h1).1 (λoU acc env=>qD ..) (λC s H fp=>sJ (eQ gx B fW) h2) (λC s H fp=>(J C s H fp).ts _ _ h3)
       (λC s H fp D=>uE gx.calm (uD hX.st) ((J C s H fp).i _ _ _ h5).1 (sJ (eQ gx B fW) h6) ((J C s H fp).ts _ _ h7) (jX ((J C s H fp).e _ _ h4).1) (gE ((J C s H fp).i _ _ _ h5).2 _)) (gE (S1.i _ _ _ h1).2 _) ?_) λD σ H q=>uP hX.K B fW h2 h6 GM q
      show pure (X.env.blockKind== .function&&X.env.kindOf x==some .local&&pos'.line==(Expr.ListComp elt [⟨tg,it,ifs,0⟩,⟨oY,jN,cD,0⟩] sc fA).pos.line&& !(sc.names.any λ(n,k)=>n==x&&(k== .local||k== .cell)))=_;rw[DK]
   | SetComp=>simp[cE] at h
   | DictComp=>simp[cE] at h
   | _=>simp[i7] at hc
 ·exact yW hN hi l1 (S.e _ _ h).1 (qv (by simpa using hc) _ _ _) l2
structure J5 (g:G) (F:FT) (n:Nat) (Γ:Gm) (X:Cx) (Φ:Fm) (W:Addr->Prop) (dp fF:Bool):Prop where
 s:∀st t,cS n g Γ dp fF st=some t->PS X st (ll Φ Γ F W fF t)
 ss:∀oF ts,De n g Γ dp fF oF=some ts->ve X oF (lp Φ Γ F W fF ts)
theorem lC {x:Str} {i:Nat} {p:Pos} (gx:GX g Γ X) (h:slot Γ x=some i):PE X (.Name x p) (lT i):=by obtain⟨v1,v2,v3⟩:=uR h;obtain⟨n1,n2,n3⟩:=eF v2;exact yQ (by rw[gx.N];exact v3) (gx.vis x v1) n1 n2
theorem C1 {n i:Nat} {x:Str} {e:Expr} {t:T} {pos' pos:Pos} {fF:Bool} (gx:GX g Γ X) (hX:HX g xv CX k F Φ X) (hs:fO Γ x=some i) (hp:plainS Γ i=true) (h:Da n g Γ i e=some t):PS X (.Assign [.Name x pos'] e pos) (ll Φ Γ F W fF t):=by
 have EJ:∀{e:Expr} {t:T},((cE n g Γ e).bind λc=>some (T.asg i c))=some t->PS X (.Assign [.Name x pos'] e pos) (ll Φ Γ F W fF t):=λ {e t} h=>by obtain⟨c,h1,h⟩:=Qh.mp h;cases h;exact CN hp (iL gx hX hs h1)
 unfold Da at h;split at h
 ·rename_i y p;split at h
  ·rename_i j hj;split at h
   ·cases h
   ·exact EJ h
  ·exact EJ h
 ·obtain⟨c,h1,h⟩:=Qh.mp h;cases h;split
  ·rename_i hf;rw[Qk] at hf;exact Fp hp hf.1 (iL gx hX hs h1)
  ·exact CN hp (iL gx hX hs h1)
theorem EK {n:Nat} {e:Expr} {t:T} {pos:Pos} {fF:Bool} (gx:GX g Γ X) (hX:HX g xv CX k F Φ X) (h:Dd n g Γ fF e=some t):PS X (.Return (some e) pos) (ll Φ Γ F W fF t):=by
 have S:=iO (F:=F) n Γ X Φ gx hX;have plain:∀{e:Expr} {t:T},((cE n g Γ e).bind λc=>if fF then none else some (T.ret c))=some t->PS X (.Return (some e) pos) (ll Φ Γ F W fF t):=λ {e t} h=>by
  obtain⟨c,h1,h⟩:=Qh.mp h;split at h
  ·cases h
  ·rename_i hf;cases h;exact CO (λz=>absurd z hf) (sG (S.e _ _ h1).1)
 unfold Dd at h;split at h
 ·rename_i y p;split at h
  ·rename_i j hj;split at h
   ·rename_i hm;split at h
    ·cases h
    ·cases h;exact Fs hm (sG (lC gx hj))
   ·exact plain h
  ·exact plain h
 ·obtain⟨c,h1,h⟩:=Qh.mp h;split at h
  ·rename_i hf;cases h;refine CO (λz=>?_) (sG (S.e _ _ h1).1);rw[z] at hf;simpa using hf
  ·cases h
theorem zk {dp fF:Bool} (n:Nat):∀(Γ:Gm) (X:Cx) (Φ:Fm),GX g Γ X->HX g xv CX k F Φ X->(dp=false->Φ.d0=none)->PassesOwn (model X.prog X.w) X.A X.env X.xe->J5 g F n Γ X Φ W dp fF:=by
 induction n with
 | zero=>intro Γ X Φ gx hX hd ho;exact⟨λst t h=>by simp[cS] at h,λst t h=>by simp[De] at h⟩
 | succ n ih=>
  intro Γ X Φ gx hX hd ho;have I:=ih Γ X Φ gx hX hd ho;have S:=iO (F:=F) n Γ X Φ gx hX;have hK:=hX.K;refine⟨λst t h=>?_,λoF ts h=>?_⟩
  ·unfold cS at h;split at h
   ·split at h
    ·rename_i e pos x xp;obtain⟨i,hs,h⟩:=Qh.mp h;split at h
     ·cases h
     ·rename_i hδ;have hδ':Γ.δ≠some i:=λz=>hδ (by rw[z];exact beq_self_eq_true _)
      split at h
      ·rename_i hm;obtain⟨c,h1,h⟩:=Qh.mp h;split at h
       ·rename_i hf;cases h;exact Fo hm hδ' hf (iL gx hX hs h1)
       ·cases h
      ·rename_i hm;refine C1 gx hX hs ?_ h;unfold plainS;rw[Qk];exact⟨by simpa using hm,by simpa using hδ'⟩
    ·rename_i v pos tg0 x xp kx sp;obtain⟨i,hs,h⟩:=Qh.mp h;split at h
     ·rename_i hm;obtain⟨v',h1,h⟩:=Qh.mp h;obtain⟨k',h2,h⟩:=Qh.mp h;cases h;have OF:=(S.e _ _ h2).2.2;refine Fu hm (EB (S.e _ _ h1).1 (Ex (lC gx hs) (S.e _ _ h2).1 set_list (by intro _;cases kx <;> first | rfl | (simp[vz] at OF))) (show swapsWithSole [Expr.Subscript (Expr.Name x xp) kx sp] v pos.line X.env=pure false from vZ (e:=v) (t:=Expr.Subscript (Expr.Name x xp) kx sp) (λx p z=>by cases z) pos.line X.env) ?_);cases v <;> rfl
     ·cases h
    ·cases h
   ·split at h
    ·rename_i pos x xp m ap a cp;obtain⟨i,hs,h⟩:=Qh.mp h;split at h
     ·rename_i hm;rw[Qk] at hm;obtain⟨a',h1,h9⟩:=Qh.mp h;clear h;have lH:=bL (S.e _ _ h1).2.2 [] X.env;split at h9
      ·rename_i hma;have em:=QI hma;subst em;cases h9;exact IK hm.1 (j0 (CB PySem.F.plainAttrs_list PySem.F.slot_list_append PySem.F.type_list_append mM (lC gx hs) (dC (S.e _ _ h1).1 gL lH) rfl (by rw[lH];rfl) hm.2 lH rfl))
      split at h9
      ·rename_i hma;have em:=QI hma;subst em;cases h9;exact IT hm.1 (j0 (CB PySem.F.plainAttrs_list PySem.F.slot_list_extend PySem.F.type_list_extend vO (lC gx hs) (dC (S.e _ _ h1).1 gL lH) rfl (by rw[lH];rfl) hm.2 lH rfl))
      ·cases h9
     ·cases h
    ·rename_i pos x xp m ap cp;obtain⟨i,hs,h9⟩:=Qh.mp h;clear h;split at h9
     ·rename_i hm;rw[Qk,Qk] at hm;have em:=QI hm.2;subst em;cases h9;exact IM hm.1.1 (j0 (En PySem.F.plainAttrs_list PySem.F.slot_list_clear PySem.F.type_list_clear yF (lC gx hs) rfl hm.1.2))
     ·cases h9
    ·split at h
     ·cases h
     ·rename_i hc;obtain⟨c,h1,h⟩:=Qh.mp h;cases h;exact IQ (j0 (S.e _ _ h1).1 (qv (by simpa using hc) _ _ _))
   ·exact EK gx hX h
   ·cases h;exact Ft BB
   ·obtain⟨t',h1,h⟩:=Qh.mp h;obtain⟨a',h2,h⟩:=Qh.mp h;obtain⟨b',h3,h⟩:=Qh.mp h;cases h;exact IS (HL (S.e _ _ h1).2.1 (I.ss _ _ h2) (I.ss _ _ h3))
   ·split at h
    ·obtain⟨jM,h1,h⟩:=Qh.mp h;obtain⟨lq,h2,h⟩:=Qh.mp h;obtain⟨b',h3,h⟩:=Qh.mp h;cases h;exact IR hK (λi hi=>(fQ h2 i hi).1) (EC ho gx.calm (S.i _ _ _ h1).1 (sJ gx h2) (I.ss _ _ h3) (gE (S.i _ _ _ h1).2 _))
    ·cases h
   ·cases h;exact IL yV
   ·cases h;exact IP qf
   ·cases h;exact Fq BA
   ·cases h
  ·unfold De at h;split at h
   ·cases h;exact zM
   ·obtain⟨t,h1,h⟩:=Qh.mp h;obtain⟨oJ,h2,h⟩:=Qh.mp h;cases h;exact B1 (I.s _ _ h1) (I.ss _ _ h2)
end
noncomputable def hE:Nat->G->Gm->Nat->List (Str×Bool)->Option (Nat×Bool)->Expr->Option Bool
 | 0,_,_,_,_,_,_=>none
 | n + 1,g,Γ,i,ts,vb,e=>match e with
  | .Call fe as ks _=>match fe,as,ks with
   | .Name f _,[.Name x _,.Name t _],[]=>if f==("isinstance":Str)&&vv (Γ.names.lookup f)&&g.bls.contains f&&slot Γ x==some i&&vv (Γ.names.lookup t)&&d9 t then ts.lookup t else none
   | _,_,_=>none
  | .Name x _=>vb.bind λv=>if slot Γ x==some v.1 then some v.2 else none
  | .UnaryOp o a _=>match o with
   | .Not=>(hE n g Γ i ts vb a).bind λb=>some !b
   | _=>none
  | .BoolOp o es p=>match es with
   | [a]=>hE n g Γ i ts vb a
   | a::b::es=>(hE n g Γ i ts vb a).bind λx=>(hE n g Γ i ts vb (.BoolOp o (b::es) p)).bind λy=>some (match o with | .And=>x&&y | .Or=>x||y)
   | []=>none
  | _=>none
noncomputable def hS (n:Nat) (g:G) (Γ:Gm) (i:Nat) (ts:List (Str×Bool)):List Stmt->Option Bool
 | [.Return (some e) _]=>hE n g Γ i ts none e
 | [.Assign [.Name x _] e _,.Return (some r) _]=>if Γ.names.lookup x==some .local&& !i7 e then(fO Γ x).bind λj=>if j==i then none else(hE n g Γ i ts none e).bind λb=>hE n g Γ i ts (some (j,b)) r else none
 | _=>none
noncomputable def Dc (n:Nat) (g:G) (Γ:Gm) (dp fF:Bool):List Stmt->Option Ts
 | []=>some .nil
 | st::oF=>(cS n g Γ dp fF st).bind λt=>(Dc n g Γ dp fF oF).bind λts=>some (.cons t ts)
section
variable {g:G} {xv:Nat->Value} {CX:j7} {k:Nat} {F:FT} {X:Cx} {Φ:Fm} {Γ:Gm} {W:Addr->Prop}
theorem GX.dQ {Γ:Gm} {X:Cx} {E:Value->Shared->Prop} (gx:GX g Γ X):GX g Γ (X.dQ E):=⟨gx.N,gx.nd,gx.vis,gx.loc,gx.gl,gx.fre,gx.calm,gx.un,gx.con,gx.bl⟩
theorem lD {X:Cx} {E:Value->Shared->Prop} {E':XK} {e:Value} {s':Shared} (h:j9 (X.dQ E) E' e s'):j9 X E' e s':=by obtain⟨σ,H',a,cls,e1,I,f,q⟩:=h;exact⟨σ,H',a,cls,e1,I.eZ,f,q⟩
theorem zJ {X:Cx} {E:Value->Shared->Prop} {E':XK} {e:Value} {s':Shared} (h:j9 X E' e s'):j9 (X.dQ E) E' e s':=by obtain⟨σ,H',a,cls,e1,I,f,q⟩:=h;exact⟨σ,H',a,cls,e1,I.dQ E,f,q⟩
theorem zL {st:Stmt} {oF:List Stmt} {t:T} {ts:Ts} {fF:Bool} (h1:J4 X st (ll Φ Γ F W fF t)) (h2:m9 X oF (lp Φ Γ F W fF ts)):m9 X (st::oF) (lp Φ Γ F W fF (.cons t ts)):=λs σ H D I q=>vU h1 h2 s σ H D I (by
 obtain⟨o,ρ,S,oi,er,q⟩:=q;unfold aO at q;rw[ae] at q;refine⟨o,ρ,S,oi,er,af q λp _ q=>?_⟩;unfold c6;cases hp:p.1 with
 | next=>rw[hp] at q;intro σ1 H1 so;obtain⟨⟨o1,LR,aE,KA⟩,e1,a1⟩:=so;exact⟨o1,p.2.1,p.2.2,LR,aE,af q λp2 _ q=>c6.go e1 KA a1 (λ_ _ z=>z) (λ_ _ z=>z) (λ_ _ z=>z) (λ_ _ z=>z) q⟩
 | brk=>rw[hp] at q;unfold mR c6 at q;exact q
 | cnt=>rw[hp] at q;unfold mR c6 at q;exact q
 | ret d=>rw[hp] at q;unfold mR c6 at q;exact q)
theorem wY {dp fF:Bool} {n:Nat} (GZ:X.env.scope.names=Γ.names) (gx:GX g Γ X) (hX:HX g xv CX k F Φ X) (hd:dp=false->Φ.d0=none) (own:PassesOwn (model X.prog X.w) X.A X.env X.xe):∀{oF:List Stmt} {ts:Ts},Dc n g Γ dp fF oF=some ts->m9 X oF (lp Φ Γ F W fF ts)
 | [],ts,h=>by cases h;exact BC zM
 | st::oF,ts,h=>by obtain⟨t,h1,h⟩:=Qh.mp h;obtain⟨oJ,h2,h⟩:=Qh.mp h;cases h;refine zL ?_ (wY GZ gx hX hd own h2);exact EA ((zk (dp:=dp) (fF:=fF) (W:=W) n Γ X Φ gx hX hd own).s _ _ h1)
theorem qg {X:Cx} {E:Value->Shared->Prop} {st:List Stmt} {t:TS} (h:m9 (X.dQ E) st t) (hx:∀e s',E e s'->X.xe e s'):m9 X st t:=λs σ H D I hw=>
 wpAny_mono (h s σ H D (I.dQ _) hw) (λ_ _ q=>q.eZ) λe s' z=>hx e s' z
end
section
variable {P:Program} {w:World} {K:Frag} {mg:Str->Option Value} {base:Heap} {g:G} {xv:Nat->Value} {F:FT} {k:Nat}
structure MG (g:G) (mg:Str->Option Value):Prop where
 con:∀x d,g.cons.lookup x=some d->∃u,oX d=true/\mg x=some u/\RelV (qO d) u
 bl:∀x∈g.bls,mg x=none
noncomputable def XG (g:G) (K:Frag) (mg:Str->Option Value) (xv:Nat->Value):Prop:=∀k x ts,g.xs[k]?=some (x,ts)->∃C,xv k= .ref C/\mg x=some (.ref C)/\J8 K mg C ts
noncomputable def vV (bb:Bool) (args:List Dt) (n ps:Nat):aj:=(if bb then[none] else[])++args.map some++List.replicate (n - ps) none
theorem qh {bb:Bool} {args:List Dt} {n ps i:Nat} {d:Dt} (h:(vV bb args n ps)[i]?=some (some d)):∃j,args[j]?=some d/\i=j + (if bb then 1 else 0):=by
 unfold vV at h;have tail:∀{i:Nat},(args.map some++List.replicate (n - ps) (none:Option Dt))[i]?=some (some d)->args[i]?=some d:=λ {i} h=>by
  by_cases hi:i < args.length
  ·rw[Q0 (by simpa using hi),QE] at h;cases e:args[i]? with
   | none=>rw[e] at h;cases h
   | some a=>rw[e] at h;cases h;rfl
  ·rw[Q1 (by simpa using hi),List.getElem?_replicate] at h;split at h <;> cases h
 cases bb with
 | false=>simp only[Bool.false_eq_true,if_false,List.nil_append] at h;exact⟨i,tail h,rfl⟩
 | true=>
  simp only[if_true,Qz] at h;cases i with
  | zero=>cases h
  | succ i=>have h:(args.map some++List.replicate (n - ps) (none:Option Dt))[i]?=some (some d):=h;exact⟨i,tail h,rfl⟩
theorem mU {N:List Str} {vs:List V} {i:Nat} {v:V} (h:vs[i]?=some v):(start N vs)[i]?=some (some v):=by unfold L2.start;have hi:=(Qn.mp h).1;rw[Q0 (by simpa using hi),QE,h];rfl
theorem xE {M:List Bool} {δ:Option Nat} {names:List (Str×NameKind)} {N:List Str} {np:Nat} {bb:Bool} {vs wC:List V} {H:Hp} {W:Addr->Prop} {dr:Option Addr} {args:List Dt} {S:Sx} {Ek:Nat->Prop}
  (hM:∀i,i < np->M[i]?≠some true) (hδ:bb=true->δ=some 0) (P5:np<=N.length) (hl:vs.length=np)
  (hd:if bb=true then∃(a:Addr) (ns:List Int),vs= .ref a::wC/\dr=some a/\W a/\S=some ns/\H a=some (.lst (ns.map V.int)) else vs=wC/\dr=none/\S=none)
  (ha:ak K W H wC args) (hw:∀a,W a->∃x,H a=some x):ER ⟨K,H,dr,Ek⟩ ⟨names,N,M,δ⟩ ⟨W,W,dr⟩ (vV bb args N.length np) S (start N vs) H/\args.length + (if bb then 1 else 0)=np:=by
 have tZ:=ha.length;have GE:args.length + (if bb then 1 else 0)=np:=by
  cases bb with
  | false=>
   simp only[Bool.false_eq_true,if_false] at hd ⊢;obtain⟨e,_,_⟩:=hd;subst e
   lia
  | true=>
   simp only[if_true] at hd ⊢;obtain⟨a,ns,e,_⟩:=hd;rw[e] at hl;simp at hl
   lia
 refine⟨⟨?_,λa z=>z,λa z=>?_,hw,λi d h=>?_,λi j a d e hm hm' h1 h2 _ _=>?_,λa z=>?_,λz=>?_,λi a hi z=>?_,λa z=> .inl z,aW.refl⟩,GE⟩
 ·unfold L2.start vV;simp only[QB,Qu,List.length_replicate];cases bb <;> simp at GE ⊢ <;> lia
 ·cases bb with
  | false=>simp only[Bool.false_eq_true,if_false] at hd;rw[hd.2.1] at z;cases z
  | true=>simp only[if_true] at hd;obtain⟨b,ns,_,e,hb,_⟩:=hd;rw[e] at z;cases z;exact hb
 ·obtain⟨j,hj,rfl⟩:=qh h;obtain⟨v,h1,h2⟩:=ha.getD hj;have OE:=(Qn.mp hj).1;have hm:fm ⟨names,N,M,δ⟩ (j + if bb=true then 1 else 0)=false:=by unfold fm;have:=hM (j + if bb=true then 1 else 0) (by lia);simpa using this
  refine⟨v,mU ?_,?_⟩
  ·cases bb with
   | false=>simp only[Bool.false_eq_true,if_false] at hd ⊢;rw[hd.1];exact h1
   | true=>simp only[if_true] at hd ⊢;obtain⟨b,ns,e,_⟩:=hd;rw[e];simpa using h1
  ·rw[hm,if_neg (by simp)];exact h2
 ·obtain⟨j1,hj,rfl⟩:=qh h1;have OE:=(Qn.mp hj).1;exfalso;unfold fm at hm;exact hM (j1 + if bb=true then 1 else 0) (by lia) (QI hm)
 ·cases bb with
  | false=>simp only[Bool.false_eq_true,if_false] at hd;rw[hd.2.1] at z;cases z
  | true=>simp only[if_true] at hd;obtain⟨b,ns,_,e,_,e2,e3⟩:=hd;rw[e] at z;cases z;exact⟨ns,e2,e3⟩
 ·cases bb with
  | false=>simp only[Bool.false_eq_true,if_false] at hd;exact hd.2.2
  | true=>simp only[if_true] at hd;obtain⟨b,ns,_,e,_⟩:=hd;rw[e] at z;cases z
 ·cases bb with
  | false=>simp only[Bool.false_eq_true,if_false] at hd;rw[hd.2.1] at z;cases z
  | true=>simp only[if_true] at hd;obtain⟨b,ns,e1,e,_⟩:=hd;rw[e] at z;cases z;have hi:δ=some i:=hi;rw[hδ rfl] at hi;cases hi;exact mU (by rw[e1];rfl)
theorem Gv {CX:j7} {N ps:List Str} {sc:Scope} {M:List Bool} {δ:Option Nat} {qual:Str} {f:Addr} {fu:Value} {A:Around} {outer:List Env} {s:Shared} {H:Hp} {E:XK} (m:MG g mg) (S:eJ N ps sc) (hr:gW k (A.deeper (envOfC qual sc s.heap.objs.size f fu))):
  GX g ⟨sc.names,N,M,δ⟩ (kr CX P w K mg base N qual sc f fu A outer s H E) where
 N:=rfl
 nd:=S.nd
 vis:=λx h=>by
  have h:zD (sc.names.lookup x)=true:=h;show F2 sc x;unfold F2;cases hl:sc.names.lookup x with
  | none=>rw[hl] at h;cases h
  | some kk=>
   rw[hl] at h;cases kk with
   | «local»=>exact .inl rfl
   | cell=>exact .inr (.inl rfl)
   | free=>exact .inr (.inr rfl)
   | globalExplicit=>cases h
   | globalImplicit=>cases h
 loc:=λx h=>by
  have h:yD (sc.names.lookup x)=true:=h;refine⟨?_,.inl rfl⟩;show L2.Loc sc x;unfold L2.Loc;cases hl:sc.names.lookup x with
  | none=>rw[hl] at h;cases h
  | some kk=>
   rw[hl] at h;cases kk with
   | «local»=>exact .inl rfl
   | cell=>exact .inr rfl
   | free=>cases h
   | globalExplicit=>cases h
   | globalImplicit=>cases h
 gl:=λx h=>by
  have h:vv (sc.names.lookup x)=true:=h;show sc.names.lookup x=_;cases hl:sc.names.lookup x with
  | none=>rw[hl] at h;cases h
  | some kk=>
   rw[hl] at h;cases kk with
   | globalImplicit=>rfl
   | «local»=>cases h
   | cell=>cases h
   | free=>cases h
   | globalExplicit=>cases h
 fre:=λx h=>h
 calm:=rfl
 un:=by have:=hr.un;show (A.deeper (envOfC qual sc s.heap.objs.size f fu)).units + 150 < cLine;lia
 con:=m.con
 bl:=m.bl
theorem mz {name qual:Str} {params:Arguments} {body:List Stmt} {scope:Scope} {dV kV doc pm fu ct oc:Value} {an od:Option Addr} {uC:Array (Option Value)} {f:Addr} {N ps:List Str} {M:List Bool} {δ:Option Nat} {bb fF:Bool} {n m:Nat} {ts:Ts}
  (lk:K.lookup f=some ⟨oc,od,.func (PySem.W.fnOf name qual params body scope dV kV doc pm an fu ct),uC⟩) (zX:PySem.W.codeIn K fu qual=true) (S:eJ N ps scope) (hm:MG g mg) (A5:XG g K mg xv) (fx:FX g xv (oO P w) P w K mg base m k F)
  (hM:∀i,i < ps.length->M[i]?≠some true) (hδ:bb=true->δ=some 0) (hc:Dc n g ⟨scope.names,N,M,δ⟩ bb fF body=some ts):
  iU P w K mg base (oO P w) (k + 1) f (PySem.W.fnOf name qual params body scope dV kV doc pm an fu ct) ps (NG K xv (gv F ⟨ps.length,N.length,bb,ts⟩) ps.length fF bb):=by
 have gG:ps.length<=N.length:=by have:=congrArg List.length S.pre;rw[List.length_take] at this;lia
 refine Dm lk zX S (λvs H Q E h=>h.1) λA outer s H vs Q E hr h=>?_
 obtain⟨hl,W,dr,args,S0,wC,hd,ha,hw,h⟩:=h;have er:=xE (K:=K) (names:=scope.names) (N:=N) (Ek:=λkk=>∀H',aW (λb=>dr=some b) H H'->E (xv kk) none H') hM hδ gG hl hd ha hw;obtain⟨er,Cj⟩:=er;generalize hXX:kr (oO P w) P w K mg base N qual scope f fu A outer s H E=X;generalize hΦ:(⟨K,H,dr,λkk=>∀H',aW (λb=>dr=some b) H H'->E (xv kk) none H'⟩:Fm)=Φ at er;have hΦE:∀v a H',lX Φ xv v a H'->E v none H':=λv a H' z=>by obtain⟨kk,rfl,z1,z2⟩:=z;subst hΦ;exact z1 H' z2
 have Pp:∀e s',j9 X (lX Φ xv) e s'->X.xe e s':=λe s' z=>by subst hXX;obtain⟨σ,H',a,cls,e1,I,fl,q⟩:=z;exact Fv ⟨σ,H',a,cls,e1,I,fl,hΦE _ _ _ q⟩
 have st:fy X:=by subst hXX;exact zo
 have gx:GX g ⟨scope.names,N,M,δ⟩ X:=by subst hXX;exact Gv (P:=P) (w:=w) (K:=K) (base:=base) (CX:=oO P w) (M:=M) (δ:=δ) (outer:=outer) (H:=H) (E:=E) hm S hr
 have NH:fy (X.dQ (j9 X (lX Φ xv))):=⟨st.pn,st.st⟩;have hX:HX g xv (oO P w) k F Φ (X.dQ (j9 X (lX Φ xv))):=by
  refine⟨?_,⟨m,?_⟩,?_,?_,NH,λe s' z=>lD z,?_⟩
  ·subst hΦ hXX;rfl
  ·subst hXX;exact fx
  ·subst hXX;exact hr
  ·subst hXX;rfl
  ·subst hXX;exact A5
 have own:PassesOwn (model (X.dQ (j9 X (lX Φ xv))).prog (X.dQ (j9 X (lX Φ xv))).w) (X.dQ (j9 X (lX Φ xv))).A (X.dQ (j9 X (lX Φ xv))).env (X.dQ (j9 X (lX Φ xv))).xe:=vc (E:=lX Φ xv) NH (λe s' z=>lD z) λe s' z=>zJ z
 have d0:Φ.d0=dr:=by subst hΦ;rfl
 have SS:=wY (dp:=bb) (fF:=fF) (W:=W) (n:=n) (Γ:=⟨scope.names,N,M,δ⟩) (by subst hXX;rfl) gx.dQ hX (λz=>by
  rw[d0];subst z;simp only[Bool.false_eq_true,if_false] at hd;exact hd.2.1) own hc
 refine⟨_,qg SS Pp,⟨W,W,dr⟩,_,S0,⟨rfl,λa z=>by rw[d0] at z;exact z⟩,er,?_⟩;subst hΦ;unfold gv at h;simp only at h;rw[if_pos Cj] at h;have h:(match (aO F ts (vV bb args N.length ps.length) S0).bind (λp=>match p.1 with
   | .next=>R.ok (Dt.bq,p.2.2)
   | .ret d=>R.ok (d,p.2.2)
   | _=>R.bad) with
  | .ok p=>∀v H',FO K W dr fF H p.1 p.2 v H'->Q v H'
  | .ex kk=>∀H',aW (λb=>dr=some b) H H'->E (xv kk) none H'
  | .bad=>False):=h
 cases he:aO F ts (vV bb args N.length ps.length) S0 with
 | ok p=>
  rw[he] at h;simp only[R.ao] at h;show c6 _ _ _ _ _ _ _ p;unfold c6;cases hp:p.1 with
  | next=>rw[hp] at h;intro σ' H' so;obtain⟨o',oi,Di,_⟩:=so.ex;exact h _ _ ⟨Di.ent,RV.gI,λa z=>Di.drw a (oi.d a z),λ_ ds e=>by cases e⟩
  | ret d=>rw[hp] at h;intro v H' ro;exact h _ _ ⟨ro.ent,ro.val,ro.drw,ro.fk⟩
  | brk=>rw[hp] at h;exact h.elim
  | cnt=>rw[hp] at h;exact h.elim
 | ex kk=>rw[he] at h;exact h
 | bad=>rw[he] at h;exact h.elim
end
structure wD (g:G) (K:Frag) (mg:Str->Option Value) (e:Str×Nat×List Dt×Bool) (idx:Nat) (fn:Fn):Prop where
 ex:∃(fa:Addr) (ps N:List Str) (M:List Bool) (δ:Option Nat) (n:Nat) (oc:Value) (od an:Option Addr) (uC:Array (Option Value)) (params:Arguments) (body:List Stmt) (scope:Scope) (dV kV doc pm fu ct:Value),
  K.lookup fa=some ⟨oc,od,.func (PySem.W.fnOf e.1 e.1 params body scope dV kV doc pm an fu ct),uC⟩/\PySem.W.codeIn K fu e.1=true/\PySem.W.keepIn K (.ref fa)=true/\mg e.1=some (.ref fa)/\eJ N ps scope/\(∀i,i < ps.length->M[i]?≠some true)/\
  (e.2.2.2=true->δ=some 0)/\ps.length=e.2.1/\Dc n g ⟨scope.names,N,M,δ⟩ e.2.2.2 (g.fr idx) body=some fn.body/\fn.ps=ps.length/\fn.n=N.length/\fn.bb=e.2.2.2/\
  (∀j,j<=e.2.2.1.length->∃ds,ax ((e.2.2.1.drop j).map qO) ds/\Binds K (PySem.W.fnOf e.1 e.1 params body scope dV kV doc pm an fu ct) ps ds)/\e.2.2.1.all oX=true
noncomputable def oZ (g:G) (K:Frag) (mg:Str->Option Value):Nat->List (Str×Nat×List Dt×Bool)->List Fn->Prop
 | _,[],[]=>True
 | i,e::es,f::fs=>wD g K mg e i f/\oZ g K mg (i + 1) es fs
 | _,_,_=>False
section
variable {g:G} {K:Frag} {mg:Str->Option Value}
theorem nK {x:Str}:∀{es:List (Str×Nat×List Dt×Bool)} {fs:List Fn} {i j:Nat} {r:Nat×List Dt×Bool},oZ g K mg i es fs->rE x es=some (j,r)->∃f,wD g K mg (x,r) (i + j) f/\fs[j]?=some f
 | [],fs,i,j,r,_,h=>by simp[rE] at h
 | e::es,[],i,j,r,h,_=>h.elim
 | e::es,f::fs,i,j,r,ok,h=>by
  obtain⟨o1,o2⟩:=ok;unfold rE at h;split at h
  ·rename_i hx;cases h;have ex:x=e.1:=QI hx;subst ex;exact⟨f,o1,rfl⟩
  ·obtain⟨p,h1,h2⟩:=QA.mp h;obtain⟨j',r'⟩:=p;cases h2;obtain⟨f',k1,k2⟩:=nK o2 h1;refine⟨f',?_,k2⟩;have:i + (j' + 1)=i + 1 + j':=by lia
   rw[this];exact k1
variable {P:Program} {w:World} {base:Heap} {xv:Nat->Value} {fs:List Fn}
theorem kY (hm:MG g mg) (A5:XG g K mg xv) (ok:oZ g K mg 0 g.fns fs):∀n,FX g xv (oO P w) P w K mg base n n (aF fs n)
 | 0=>⟨λx f np fB bb h=>by
   obtain⟨fn,⟨fa,ps,N,M,δ,n,oc,od,an,uC,params,body,scope,dV,kV,doc,pm,fu,ct,h1,h2,h3,h4,h5,h6,h7,h8,h9,Kv,Kw,Kx,Ky,Kz⟩,hf⟩:=nK ok h;refine⟨fa,_,ps,h8,h4,h3,⟨λvs H Q E q=>q.1.trans h8.symm,λA outer s H args us vs Q E _ _ _ _ q=>?_⟩,Ky,Kz⟩;obtain⟨_,W,dr,as,S,wC,_,_,_,q⟩:=q;exact q.elim⟩
 | n + 1=>⟨λx f np fB bb h=>by
   have ih:=kY hm A5 ok n;obtain⟨fn,⟨fa,ps,N,M,δ,m,oc,od,an,uC,params,body,scope,dV,kV,doc,pm,fu,ct,h1,h2,h3,h4,h5,h6,h7,h8,h9,Kv,Kw,Kx,Ky,Kz⟩,hf⟩:=nK ok h;rw[Nat.zero_add] at h9;refine⟨fa,_,ps,h8,h4,h3,?_,Ky,Kz⟩;have:=mz (xv:=xv) (P:=P) (w:=w) (base:=base) h1 h2 h5 hm A5 ih h6 h7 h9;have e:(aF fs (n + 1)) f=gv (aF fs n) ⟨ps.length,N.length,bb,fn.body⟩:=by funext args S;show (match fs[f]? with | some g=>gv (aF fs n) g args S | none=>R.bad)=_;rw[hf];obtain⟨a1,a2,a3,a4⟩:=fn;simp only at Kv Kw Kx;subst Kv Kw Kx;rfl
   have Oa:ps.length=np:=h8;rw[e,<-Oa];exact this⟩
noncomputable def uT (K:Frag):Sp:=λvs H Q _=>∃(a:Addr) (ns:List Int),vs=[.ref a]/\dY K H a (ns.map V.int)/\ns.length<=63/\∀H',Q (.bl true) H'
theorem len0 {P:List Value->Prop} (h:P []):∀us:List Value,us.length=0->P us:=λus e=>List.eq_nil_of_length_eq_zero e▸h
theorem lenS {n:Nat} {P:List Value->Prop} (h:∀a (us:List Value),us.length=n->P (a::us)):∀us:List Value,us.length=n + 1->P us:=λus e=>by
 cases us with
 | nil=>cases e
 | cons a t=>exact h a t (Nat.succ.inj e)
theorem binds0 {fd:FuncData} {ps:List Str} (h:∀us:List Value,us.length=ps.length->bindArgs fd ⟨us,[]⟩=pure (ps.zip us)):∀j,j<=([]:List Dt).length->∃ds,ax ((([]:List Dt).drop j).map qO) ds/\Binds K fd ps ds:=λj hj=>by
 have:j=0:=by simpa using hj
 subst this;exact⟨[],.nil,Binds.all h⟩
noncomputable def Pb (names:List (Str×NameKind)) (ps:List Str):List Str:=ps++names.filterMap λp=>if yD (some p.2)&& !ps.contains p.1 then some p.1 else none
noncomputable def FM (N ms:List Str):List Bool:=N.map λx=>ms.contains x
theorem Hn {N ms ps:List Str} (h:((FM N ms).take ps.length).all (λb=> !b)=true):∀i,i < ps.length->(FM N ms)[i]?≠some true:=λi hi e=>by have hm:true∈(FM N ms).take ps.length:=List.mem_iff_getElem?.mpr ⟨i,by rw[List.getElem?_take_of_lt hi];exact e⟩;have:=QV.mp h true hm;cases this
end
end Rx
end
section
namespace Rx
open PySem PySem.W PySem.Spec PyProof.Rows L2
section
variable {F:FT} {S:Sx} {ρ:aj}
theorem cA {tg:Tg} {body:aj->Sx->RS} {ds:List Dt} (P:List Dt->aj->Prop) (h0:P [] ρ)
  (step:∀pre x post ρ,ds=pre++x::post->P pre ρ->∃ρ1 ρ2,cM tg x ρ= .ok ρ1/\body ρ1 S= .ok (.next,ρ2,S)/\P (pre++[x]) ρ2):∃ρ',forL tg body ds ρ S= .ok (.next,ρ',S)/\P ds ρ':=by
 have key:∀(post pre:List Dt) (ρ:aj),ds=pre++post->P pre ρ->∃ρ',forL tg body post ρ S= .ok (.next,ρ',S)/\P ds ρ':=by
  intro post
  induction post with
  | nil=>intro pre ρ e h;rw[QY] at e;subst e;exact⟨ρ,rfl,h⟩
  | cons x post ih=>intro pre ρ e h;obtain⟨ρ1,ρ2,h1,h2,h3⟩:=step pre x post ρ e h;obtain⟨ρ',h4,h5⟩:=ih (pre++[x]) ρ2 (by rw[e];simp) h3;refine⟨ρ',?_,h5⟩;rw[forL,h1,R.ao,h2,R.ao];exact h4
 exact key ds [] ρ rfl h0
theorem fE {α β:Type} (f:α->β):∀l:List α,(l.flatMap λx=>[f x])=l.map f
 | []=>rfl
 | x::l=>by rw[List.flatMap_cons,fE f l];rfl
end
theorem BN {fs:List Fn} {n k:Nat} {g:Fn} {args:List Dt} {S:Sx} (h:fs[k]?=some g):aF fs (n + 1) k args S=gv (aF fs n) g args S:=by show (match fs[k]? with | some g=>gv (aF fs n) g args S | none=>R.bad)=_;rw[h]
noncomputable def Hs (d:Dt) (S:Sx):R (Dt×Sx):=match d with | .int i=> .ok (.int (-i),S) | _=> .bad
noncomputable def NB (d:Dt) (S:Sx):R (Dt×Sx):=match d with | .bl b=> .ok (.bl !b,S) | _=> .bad
noncomputable def Ga (d:Dt) (S:Sx):R (Dt×Sx):=match d with | .bl c=> .ok (.bl c,S) | _=> .bad
noncomputable def CZ (f:Sx->R (Dt×Sx)) (d:Dt) (S:Sx):R (Dt×Sx):=match d with | .bl true=>(f S).bind (λy=>Ga y.1 y.2) | .bl false=> .ok (.bl false,S) | _=> .bad
noncomputable def LU (f:Sx->R (Dt×Sx)) (d:Dt) (S:Sx):R (Dt×Sx):=match d with | .bl false=>(f S).bind (λy=>Ga y.1 y.2) | .bl true=> .ok (.bl true,S) | _=> .bad
noncomputable def Cz (k:List Dt->Dt) (ds:List Dt) (S:Sx):R (Dt×Sx):=ag (decide (ds.length<=lim)) (.ok (k ds,S))
noncomputable def Lz (o:Option (List Dt)) (S:Sx):R (List Dt×Sx):=match o with | some ds=> .ok (ds,S) | none=> .bad
noncomputable def Io (d e:Dt) (S:Sx):R (Dt×Sx):=match e with | .int i=>(iN d (some i) none).bind λd=> .ok (d,S) | _=> .bad
noncomputable def Im (d e:Dt) (S:Sx):R (Dt×Sx):=match e with | .int i=>(iN d none (some i)).bind λd=> .ok (d,S) | _=> .bad
theorem RX:
  (∀{F:FT} {S:Sx} {ρ:aj} {d:Dt},ev F (.con d) ρ S= .ok (d,S))/\
  (∀{F:FT} {S:Sx} {ρ:aj} {i:Nat},ev F (.var i) ρ S=(fG ρ i).bind λd=> .ok (d,S))/\
  (∀{F:FT} {S:Sx} {ρ:aj} {i:Nat},ev F (.mvr i) ρ S=(fG ρ i).bind λd=> .ok (d,S))/\
  (∀{F:FT} {S:Sx} {ρ:aj} {o:Operator} {a b:C},ev F (.bin o a b) ρ S=(ev F a ρ S).bind λx=>(ev F b ρ x.2).bind λy=>(qa o x.1 y.1).bind λd=> .ok (d,y.2))/\
  (∀{F:FT} {S:Sx} {ρ:aj} {o:CmpOp} {a b:C},ev F (.cmp o a b) ρ S=(ev F a ρ S).bind λx=>(ev F b ρ x.2).bind λy=>(de o x.1 y.1).bind λd=> .ok (.bl d,y.2))/\
  (∀{F:FT} {S:Sx} {ρ:aj} {a:C},ev F (.neg a) ρ S=(ev F a ρ S).bind λx=>Hs x.1 x.2)/\
  (∀{F:FT} {S:Sx} {ρ:aj} {a:C},ev F (.nt a) ρ S=(ev F a ρ S).bind λx=>NB x.1 x.2)/\
  (∀{F:FT} {S:Sx} {ρ:aj} {a b:C},ev F (.and a b) ρ S=(ev F a ρ S).bind λx=>CZ (ev F b ρ) x.1 x.2)/\
  (∀{F:FT} {S:Sx} {ρ:aj} {a b:C},ev F (.or a b) ρ S=(ev F a ρ S).bind λx=>LU (ev F b ρ) x.1 x.2)/\
  (∀{F:FT} {S:Sx} {ρ:aj} {a b c:C},ev F (.ite a b c) ρ S=(dw F a ρ S).bind λx=>if x.1=true then ev F b ρ x.2 else ev F c ρ x.2)/\
  (∀{F:FT} {S:Sx} {ρ:aj} {a b:C},ev F (.idx a b) ρ S=(ev F a ρ S).bind λx=>(ev F b ρ x.2).bind λy=>(dk x.1 y.1).bind λd=> .ok (d,y.2))/\
  (∀{F:FT} {S:Sx} {ρ:aj} {a b:C},ev F (.sliL a b) ρ S=(ev F a ρ S).bind λx=>(ev F b ρ x.2).bind λy=>Io x.1 y.1 y.2)/\
  (∀{F:FT} {S:Sx} {ρ:aj} {a b:C},ev F (.sliH a b) ρ S=(ev F a ρ S).bind λx=>(ev F b ρ x.2).bind λy=>Im x.1 y.1 y.2)/\
  (∀{F:FT} {S:Sx} {ρ:aj} {f:Nat} {es:Cs} {ds:List Dt},ev F (.call f es ds) ρ S=(gq F es ρ S).bind λx=>(F f (x.1++ds) none).bind λy=> .ok (y.1,x.2))/\
  (∀{F:FT} {S:Sx} {ρ:aj} {u:BI} {es:Cs},ev F (.bi u es) ρ S=(gq F es ρ S).bind λx=>(d5 u x.1).bind λd=> .ok (d,x.2))/\
  (∀{F:FT} {S:Sx} {ρ:aj} {es:Cs},ev F (.tup es) ρ S=(gq F es ρ S).bind λx=>Cz .tup x.1 x.2)/\
  (∀{F:FT} {S:Sx} {ρ:aj} {es:Cs},ev F (.lst es) ρ S=(gq F es ρ S).bind λx=>Cz .lst x.1 x.2)/\
  (∀{F:FT} {S:Sx} {ρ:aj},gq F .nil ρ S= .ok ([],S))/\
  (∀{F:FT} {S:Sx} {ρ:aj} {a:C} {es:Cs},gq F (.cons a es) ρ S=(ev F a ρ S).bind λx=>(gq F es ρ x.2).bind λy=> .ok (x.1::y.1,y.2))/\
  (∀{F:FT} {S:Sx} {ρ:aj} {o:CmpOp} {a b:C},dw F (.cmp o a b) ρ S=(ev F a ρ S).bind λx=>(ev F b ρ x.2).bind λy=>(de o x.1 y.1).bind λd=> .ok (d,y.2))/\
  (∀{F:FT} {S:Sx} {ρ:aj} {a b:C},dw F (.and a b) ρ S=(dw F a ρ S).bind λx=>if x.1=true then dw F b ρ x.2 else .ok (false,x.2))/\
  (∀{F:FT} {S:Sx} {ρ:aj} {a b:C},dw F (.or a b) ρ S=(dw F a ρ S).bind λx=>if x.1=true then .ok (true,x.2) else dw F b ρ x.2)/\
  (∀{F:FT} {S:Sx} {ρ:aj} {a:C},dw F (.nt a) ρ S=(dw F a ρ S).bind λx=> .ok (!x.1,x.2))/\
  (∀{F:FT} {S:Sx} {ρ:aj} {f:Nat} {es:Cs} {ds:List Dt},dw F (.call f es ds) ρ S=(gq F es ρ S).bind λx=>(F f (x.1++ds) none).bind λy=>(dU y.1).bind λb=> .ok (b,x.2))/\
  (∀{F:FT} {S:Sx} {ρ:aj} {u:BI} {es:Cs},dw F (.bi u es) ρ S=(gq F es ρ S).bind λx=>(d5 u x.1).bind λd=>(dU d).bind λb=> .ok (b,x.2))/\
  (∀{F:FT} {S:Sx} {ρ:aj} {i:Nat},dw F (.var i) ρ S=(fG ρ i).bind λd=>(dU d).bind λb=> .ok (b,S))/\
  (∀{F:FT} {S:Sx} {ρ:aj} {i:Nat},dw F (.mvr i) ρ S=(fG ρ i).bind λd=>(dU d).bind λb=> .ok (b,S))/\
  (∀{F:FT} {S:Sx} {ρ:aj} {a b:C},dw F (.idx a b) ρ S=(ev F a ρ S).bind λx=>(ev F b ρ x.2).bind λy=>(dk x.1 y.1).bind λd=>(dU d).bind λb=> .ok (b,y.2))/\
  (∀{F:FT} {S:Sx} {ρ:aj},cV F .nil ρ S= .ok (true,S))/\
  (∀{F:FT} {S:Sx} {ρ:aj} {a:C},cV F (.cons a .nil) ρ S=dw F a ρ S)/\
  (∀{F:FT} {S:Sx} {ρ:aj} {a:C},fj F (.seq a) ρ S=(ev F a ρ S).bind λx=>Lz (itemsOf x.1) x.2)/\
  (∀{F:FT} {S:Sx} {ρ:aj} {a:C},fj F (.enum a) ρ S=(ev F a ρ S).bind λx=>Lz ((bw x.1).map (dG 0)) x.2)/\
  (∀{d:Dt} {ρ:aj},fG (some d::ρ) 0= .ok d)/\
  (∀{e:Option Dt} {ρ:aj} {i:Nat},fG (e::ρ) (i + 1)=fG ρ i)/\
  (∀{S:Sx} {i:Int},Hs (.int i) S= .ok (.int (-i),S))/\
  (∀{S:Sx} {b:Bool},NB (.bl b) S= .ok (.bl !b,S))/\
  (∀{S:Sx} {f:Sx->R (Dt×Sx)},CZ f (.bl false) S= .ok (.bl false,S))/\
  (∀{S:Sx} {f:Sx->R (Dt×Sx)},CZ f (.bl true) S=(f S).bind λy=>Ga y.1 y.2)/\
  (∀{S:Sx} {f:Sx->R (Dt×Sx)},LU f (.bl true) S= .ok (.bl true,S))/\
  (∀{S:Sx} {f:Sx->R (Dt×Sx)},LU f (.bl false) S=(f S).bind λy=>Ga y.1 y.2)/\
  (∀{S:Sx} {b:Bool},Ga (.bl b) S= .ok (.bl b,S))/\
  (∀{S:Sx} {ds:List Dt},Lz (some ds) S= .ok (ds,S))/\
  (∀{ds:List Dt} {f:List Dt->List Dt},(some ds).map f=some (f ds))/\
  (∀{S:Sx} {k:List Dt->Dt},Cz k [] S= .ok (k [],S))/\
  (∀{S:Sx} {k:List Dt->Dt} {a:Dt},Cz k [a] S= .ok (k [a],S))/\
  (∀{S:Sx} {k:List Dt->Dt} {a b:Dt},Cz k [a,b] S= .ok (k [a,b],S))/\
  (∀{S:Sx} {k:List Dt->Dt} {a b c:Dt},Cz k [a,b,c] S= .ok (k [a,b,c],S))/\
  (∀{S:Sx} {k:List Dt->Dt} {a b c d:Dt},Cz k [a,b,c,d] S= .ok (k [a,b,c,d],S))/\
  (∀{S:Sx} {k:List Dt->Dt} {a b c d e:Dt},Cz k [a,b,c,d,e] S= .ok (k [a,b,c,d,e],S))/\
  (∀{S:Sx} {d:Dt} {i:Int},Io d (.int i) S=(iN d (some i) none).bind λd=> .ok (d,S))/\
  (∀{S:Sx} {d:Dt} {i:Int},Im d (.int i) S=(iN d none (some i)).bind λd=> .ok (d,S))/\
  (∀{m n:Int},qa .Add (.int m) (.int n)= .ok (.int (m + n)))/\
  (∀{m n:Int},qa .Sub (.int m) (.int n)= .ok (.int (m - n)))/\
  (∀{m n:Int},de .Lt (.int m) (.int n)= .ok (decide (m < n)))/\
  (∀{m n:Int},de .LtE (.int m) (.int n)= .ok (decide (m<=n)))/\
  (∀{m n:Int},de .Gt (.int m) (.int n)= .ok (decide (n < m)))/\
  (∀{m n:Int},de .GtE (.int m) (.int n)= .ok (decide (n<=m)))/\
  (∀{m n:Int},de .Eq (.int m) (.int n)= .ok (m==n))/\
  (∀{m n:Int},de .NotEq (.int m) (.int n)= .ok (!(m==n)))/\
  (∀{m n:Str},de .Eq (.str m) (.str n)= .ok (m==n))/\
  (∀{m n:Str},de .NotEq (.str m) (.str n)= .ok (!(m==n)))/\
  (∀{ns:List Int},d5 .len [.br ns]= .ok (.int ns.length))/\
  (∀{ds:List Dt},d5 .len [.lst ds]= .ok (.int ds.length))/\
  (∀{ds:List Dt},d5 .len [.tup ds]= .ok (.int ds.length))/\
  (∀{ds:List Dt},d5 .tuple [.lst ds]= .ok (.tup ds))/\
  (∀{ds:List Dt},d5 .tuple [.tup ds]= .ok (.tup ds))/\
  (∀{ds:List Dt},d5 .list [.lst ds]= .ok (.lst ds))/\
  (∀{ds:List Dt},d5 .list [.tup ds]= .ok (.lst ds))/\
  (∀{m n:Int},d5 .min2 [.int m,.int n]= .ok (.int (if n < m then n else m)))/\
  (∀{t:Bool},dU (.bl t)= .ok t)/\
  (∀{ds:List Dt},dU (.lst ds)= .ok !ds.isEmpty)/\
  (∀{ds:List Dt},dU (.tup ds)= .ok !ds.isEmpty)/\
  (∀{ds:List Dt},itemsOf (.lst ds)=some ds)/\
  (∀{ds:List Dt},itemsOf (.tup ds)=some ds)/\
  (∀{ds:List Dt},bw (.lst ds)=some ds)/\
  (∀{ds:List Dt},bw (.tup ds)=some ds)/\
  (∀{α β:Type} {x:α} {f:α->R β},(R.ok x).bind f=f x)/\
  (∀{α:Type} {r:R α},ag true r=r)/\
  (∀{ds:List Dt},(ds++[]:List Dt)=ds)/\
  (∀{e v:Option Dt} {ρ:aj},(e::ρ).set 0 v=v::ρ)/\
  (∀{e v:Option Dt} {ρ:aj} {i:Nat},(e::ρ).set (i + 1) v=e::ρ.set i v)/\
  (∀{d:Dt} {ρ:aj} {i:Nat},cM (.nm i) d ρ= .ok (ρ.set i (some d)))/\
  (∀{is:List Nat} {ds:List Dt} {ρ:aj},cM (.tp is) (.tup ds) ρ=dX is ds ρ)/\
  (∀{ρ:aj},dX [] [] ρ= .ok ρ)/\
  (∀{i:Nat} {is:List Nat} {d:Dt} {ds:List Dt} {ρ:aj},dX (i::is) (d::ds) ρ=dX is ds (ρ.set i (some d)))/\
  (∀{d:Dt},dk (.tup [d]) (.int 0)= .ok d)/\
  (∀{d d2:Dt},dk (.tup [d,d2]) (.int 0)= .ok d)/\
  (∀{d d2:Dt},dk (.tup [d,d2]) (.int 1)= .ok d2)/\
  (∀{d d2 d3:Dt},dk (.tup [d,d2,d3]) (.int 0)= .ok d)/\
  (∀{d d2 d3:Dt},dk (.tup [d,d2,d3]) (.int 1)= .ok d2)/\
  (∀{d d2 d3:Dt},dk (.tup [d,d2,d3]) (.int 2)= .ok d3):=
 ⟨@λ_ _ _ _=>rfl,
  @λ_ _ _ _=>rfl,
  @λ_ _ _ _=>rfl,
  @λ_ _ _ _ _ _=>rfl,
  @λ_ _ _ _ _ _=>rfl,
  @λ_ _ _ _=>rfl,
  @λ_ _ _ _=>rfl,
  @λ_ _ _ _ _=>rfl,
  @λ_ _ _ _ _=>rfl,
  @λ_ _ _ _ _ _=>rfl,
  @λ_ _ _ _ _=>rfl,
  @λ_ _ _ _ _=>rfl,
  @λ_ _ _ _ _=>rfl,
  @λ_ _ _ _ _ _=>rfl,
  @λ_ _ _ _ _=>rfl,
  @λ_ _ _ _=>rfl,
  @λ_ _ _ _=>rfl,
  @λ_ _ _=>rfl,
  @λ_ _ _ _ _=>rfl,
  @λ_ _ _ _ _ _=>rfl,
  @λ_ _ _ _ _=>rfl,
  @λ_ _ _ _ _=>rfl,
  @λ_ _ _ _=>rfl,
  @λ_ _ _ _ _ _=>rfl,
  @λ_ _ _ _ _=>rfl,
  @λ_ _ _ _=>rfl,
  @λ_ _ _ _=>rfl,
  @λ_ _ _ _ _=>rfl,
  @λ_ _ _=>rfl,
  @λ_ _ _ _=>rfl,
  @λ_ _ _ _=>rfl,
  @λF S ρ a=>by rw[fj];cases ev F a ρ S with | ok x=>(simp only[R.ao];cases bw x.1 <;> rfl) | ex k=>rfl | bad=>rfl,
  @λ_ _=>rfl,
  @λ_ _ _=>rfl,
  @λ_ _=>rfl,
  @λ_ _=>rfl,
  @λ_ _=>rfl,
  @λ_ _=>rfl,
  @λ_ _=>rfl,
  @λ_ _=>rfl,
  @λ_ _=>rfl,
  @λ_ _=>rfl,
  @λ_ _=>rfl,
  @λ_ _=>rfl,
  @λ_ _ _=>rfl,
  @λ_ _ _ _=>rfl,
  @λ_ _ _ _ _=>rfl,
  @λ_ _ _ _ _ _=>rfl,
  @λ_ _ _ _ _ _ _=>rfl,
  @λ_ _ _=>rfl,
  @λ_ _ _=>rfl,
  @λ_ _=>rfl,
  @λ_ _=>rfl,
  @λ_ _=>rfl,
  @λ_ _=>rfl,
  @λ_ _=>rfl,
  @λ_ _=>rfl,
  @λ_ _=>rfl,
  @λ_ _=>rfl,
  @λ_ _=>rfl,
  @λ_ _=>rfl,
  @λ_=>rfl,
  @λ_=>rfl,
  @λ_=>rfl,
  @λ_=>rfl,
  @λ_=>rfl,
  @λ_=>rfl,
  @λ_=>rfl,
  @λ_ _=>rfl,
  @λ_=>rfl,
  @λ_=>rfl,
  @λ_=>rfl,
  @λ_=>rfl,
  @λ_=>rfl,
  @λ_=>rfl,
  @λ_=>rfl,
  @λ_ _ _ _=>rfl,
  @λ_ _=>rfl,
  @λds=>QY ds,
  @λ_ _ _=>rfl,
  @λ_ _ _ _=>rfl,
  @λ_ _ _=>rfl,
  @λ_ _ _=>rfl,
  @λ_=>rfl,
  @λ_ _ _ _ _=>rfl,
  @λ_=>rfl,
  @λ_ _=>rfl,
  @λ_ _=>rfl,
  @λ_ _ _=>rfl,
  @λ_ _ _=>rfl,
  @λ_ _ _=>rfl⟩
section
variable {F:FT} {S:Sx} {ρ:aj}
theorem bD {i j:Int} (h:i.natAbs < 2 ^ 64\/j.natAbs < 2 ^ 64):qa .Mult (.int i) (.int j)= .ok (.int (i * j)):=by show ag (decide (i.natAbs < 2 ^ 64)||decide (j.natAbs < 2 ^ 64)) _=_;rw[show (decide (i.natAbs < 2 ^ 64)||decide (j.natAbs < 2 ^ 64))=true by simpa using h];rfl
theorem c9 {i j:Int} (h:0 < j):qa .Mod (.int i) (.int j)= .ok (.int (i % j)):=by show ag (decide (0 < j)) _=_;rw[QO h];rfl
theorem yN {i j:Int} (h:0 < j) (h2:j.natAbs.log2 < 9000):qa .FloorDiv (.int i) (.int j)= .ok (.int (i / j)):=by show ag (decide (0 < j)&&decide (j.natAbs.log2 < 9000)) _=_;rw[QO h,QO h2];rfl
noncomputable def fin (r:RS):R (Dt×Sx):=r.bind λp=>match p.1 with
 | .next=> .ok (.bq,p.2.2)
 | .ret d=> .ok (d,p.2.2)
 | _=> .bad
noncomputable def Ts.app:Ts->Ts->Ts
 | .nil,b=>b
 | .cons t a,b=> .cons t (a.app b)
theorem nI:∀{a b:Ts} {ρ:aj} {S:Sx},aO F (a.app b) ρ S=(aO F a ρ S).bind λp=>match p.1 with
  | .next=>aO F b p.2.1 p.2.2
  | f=> .ok (f,p.2)
 | .nil,b,ρ,S=>rfl
 | .cons t a,b,ρ,S=>by
  show aO F (.cons t (a.app b)) ρ S=_;rw[aO,aO];cases ex F t ρ S with
  | ok p=>
   obtain⟨f,ρ1,S1⟩:=p;cases f with
   | next=>exact nI
   | brk=>rfl
   | cnt=>rfl
   | ret d=>rfl
  | ex k=>rfl
  | bad=>rfl
section
variable {r:R (Dt×Sx)} {ts:Ts}
theorem fD {t:T} {ρ1:aj} {S1:Sx} (h:ex F t ρ S= .ok (.next,ρ1,S1)) (k:fin (aO F ts ρ1 S1)=r):fin (aO F (.cons t ts) ρ S)=r:=by rw[aO,h];exact k
theorem AF {t:T} {ρ1:aj} {S1:Sx} {d:Dt} (h:ex F t ρ S= .ok (.ret d,ρ1,S1)):fin (aO F (.cons t ts) ρ S)= .ok (d,S1):=by rw[aO,h];rfl
theorem aJ {i:Nat} {c:C} {d:Dt} {S1:Sx} (h:ev F c ρ S= .ok (d,S1)) (hs:eI c d=true) (k:fin (aO F ts (ρ.set i (some d)) S1)=r):fin (aO F (.cons (.asg i c) ts) ρ S)=r:=by refine fD ?_ k;rw[ex,h,R.ao,hs];rfl
theorem bu {i:Nat} {c:C} {d:Dt} {S1:Sx} (h:ev F c ρ S= .ok (d,S1)) (hs:jw c d=true) (k:fin (aO F ts (ρ.set i (some d)) S1)=r):fin (aO F (.cons (.asgM i c) ts) ρ S)=r:=by refine fD ?_ k;rw[ex,h,R.ao,hs];rfl
theorem au {c:C} {d:Dt} {S1:Sx} (h:ev F c ρ S= .ok (d,S1)):fin (aO F (.cons (.ret c) ts) ρ S)= .ok (d,S1):=by refine AF (ρ1:=ρ) ?_;rw[ex,h];rfl
theorem xJ {t:C} {a b:Ts} {x:Bool} {S1:Sx} (h:dw F t ρ S= .ok (x,S1)) (k:fin (aO F ((if x=true then a else b).app ts) ρ S1)=r):fin (aO F (.cons (.ifs t a b) ts) ρ S)=r:=by rw[<-k,nI,aO,ex,h,R.ao];cases x <;> rfl
theorem kC {t:C} {a b:Ts} {S1:Sx} (h:dw F t ρ S= .ok (true,S1)) (k:fin (aO F (a.app ts) ρ S1)=r):fin (aO F (.cons (.ifs t a b) ts) ρ S)=r:=xJ h (by rw[if_pos rfl];exact k)
theorem ek {t:C} {a b:Ts} {S1:Sx} (h:dw F t ρ S= .ok (false,S1)) (k:fin (aO F (b.app ts) ρ S1)=r):fin (aO F (.cons (.ifs t a b) ts) ρ S)=r:=xJ h (by rw[if_neg (by simp)];exact k)
theorem bC {tg:Tg} {it:o6} {b:Ts} {ds:List Dt} {ρ1:aj} {S1 S2:Sx} (h:fj F it ρ S= .ok (ds,S1)) (hl:vK it=0) (hf:forL tg (aO F b) ds ρ S1= .ok (.next,ρ1,S2)) (k:fin (aO F ts ρ1 S2)=r):fin (aO F (.cons (.fr tg it b) ts) ρ S)=r:=by refine fD ?_ k;rw[ex,h,R.ao,QO hl,Bool.true_or];exact hf
end
end
theorem aA {fs:List Fn} {n k ps m:Nat} {body:Ts} {args:List Dt} {r:R (Dt×Sx)} {S:Sx} (h:fs[k]?=some ⟨ps,m,false,body⟩) (hn:1<=n) (hl:args.length=ps) (q:fin (aO (aF fs (n - 1)) body (args.map some++List.replicate (m - ps) none) S)=r):aF fs n k args S=r:=by obtain⟨n,rfl⟩:∃m,n=m + 1:=⟨n - 1,by lia⟩;rw[BN h];unfold gv;simp only[Bool.false_eq_true,if_false,Nat.add_zero,hl,if_true,List.nil_append];exact q
noncomputable def ph:Ts:=(.cons (.ifs (.cmp .Lt (.var 1) (.bi .len (.cons (.var 0) .nil))) (.cons (.ret (.idx (.var 0) (.var 1))) .nil) .nil) (.cons (.asg 2 (.bin .Add (.bin .Mult (.var 1) (.con (.int 7919))) (.con (.int 5)))) (.cons (.ifs (.cmp .Gt (.bi .len (.cons (.var 0) .nil)) (.con (.int 0))) (.cons (.asg 2 (.bin .Add (.bin .Add (.bin .Mult (.bin .Mod (.idx (.var 0) (.bin .Mod (.var 1) (.bi .len (.cons (.var 0) .nil)))) (.con (.int 2147483647))) (.con (.int 48271))) (.bin .Mult (.bin .Mult (.var 1) (.var 1)) (.con (.int 7919)))) (.con (.int 11)))) .nil) .nil) (.cons (.ret (.bin .Mod (.bin .Mult (.var 2) (.var 2)) (.con (.int 2147483629)))) .nil))))
theorem ub {ns:List Int} {k:Nat} (h:k < ns.length):dk (.br ns) (.int k)= .ok (.int ns[k]):=by show vf (ns.map Dt.int) k=_;unfold vf;rw[L2.eN (v:= .int ns[k]) (by simp[h])]
noncomputable def hV (ns:List Int) (k:Nat):Int:=if h:k < ns.length then ns[k] else
 let m:Int:=if h:0 < ns.length then ns[k % ns.length]'(Nat.mod_lt _ h) % 2147483647 * 48271 + k * k * 7919 + 11 else k * 7919 + 5
 m * m % 2147483629
theorem tJ {fs:List Fn} {ic:Nat} (hc:fs[ic]?=some ⟨2,3,false,ph⟩) {n:Nat} (hn:1<=n) {ns:List Int} {k:Nat} (hk:k < 1000000):aF fs n ic [.br ns,.int k] none= .ok (.int (hV ns k),none):=by
 refine aA hc hn rfl ?_;show fin (aO (aF fs (n - 1)) ph [some (.br ns),some (.int k),none] none)=_;by_cases h:k < ns.length
 ·refine kC (S1:=none) (by simp only[RX];simp[h]) ?_;exact(au (d:= .int ns[k]) (S1:=none) (by simp only[RX,ub h])).trans (by simp[hV,h])
 ·have b1:(k:Int) * k<=1000000 * 1000000:=by
   have:k * k<=1000000 * 1000000:=Nat.mul_le_mul (by lia) (by lia);rw[<-Int.natCast_mul]
   lia
  have b0:(0:Int)<=(k:Int) * k:=Int.mul_nonneg (by lia) (by lia);have m1:=bD (i:=k) (j:=7919) (.inl (by lia));refine ek (S1:=none) (by simp only[RX];simp;lia) (aJ (d:= .int (k * 7919 + 5)) (S1:=none) (by simp only[RX,m1]) rfl ?_);by_cases h2:0 < ns.length
  ·have hm:=Nat.mod_lt k h2;have e1:((k:Int) % (ns.length:Int))=((k % ns.length:Nat):Int):=by simp
   generalize hx:ns[k % ns.length]=x;have r1:=QW x (b:=2147483647) (by decide);have r2:=QX x (b:=2147483647) (by decide);have m2:=c9 (i:=k) (j:=ns.length) (by lia);rw[e1] at m2;have m3:=c9 (i:=x) (j:=2147483647) (by decide);have m4:=bD (i:=x % 2147483647) (j:=48271) (.inl (by lia));have m5:=bD (i:=k) (j:=k) (.inl (by lia));have m6:=bD (i:=(k:Int) * k) (j:=7919) (.inl (by lia));have m7:=bD (i:=x % 2147483647 * 48271 + k * k * 7919 + 11) (j:=x % 2147483647 * 48271 + k * k * 7919 + 11) (.inl (by lia));have m8:=c9 (i:=(x % 2147483647 * 48271 + k * k * 7919 + 11) * (x % 2147483647 * 48271 + k * k * 7919 + 11)) (j:=2147483629) (by decide);refine kC (S1:=none) (by simp only[RX];simp;lia) (aJ (d:= .int (x % 2147483647 * 48271 + k * k * 7919 + 11)) (S1:=none) ?_ rfl ?_)
   ·simp only[RX,m2,m3,m4,m5,m6,ub hm,hx]
   ·refine(au (d:=_) (S1:=none) (by simp only[RX,m7,m8];rfl)).trans ?_;simp[hV,h,h2,hx]
  ·have z0:decide ((0:Int) < ns.length)=false:=QK (by lia);have m7:=bD (i:=k * 7919 + 5) (j:=k * 7919 + 5) (.inl (by lia));have m8:=c9 (i:=((k:Int) * 7919 + 5) * (k * 7919 + 5)) (j:=2147483629) (by decide);refine ek (S1:=none) (by simp only[RX,z0]) ((au (d:=_) (S1:=none) (by simp only[RX,m7,m8];rfl)).trans ?_);simp[hV,h,h2]
section
variable {F:FT} {S S1 S2:Sx} {ρ ρ1:aj} {ts:Ts} {r:RS} {d:Dt} {ds:List Dt}
theorem nx {t:T} (h:ex F t ρ S= .ok (.next,ρ1,S1)) (k:aO F ts ρ1 S1=r):aO F (.cons t ts) ρ S=r:=by rw[aO,h];exact k
theorem cm {i:Nat} {c:C} (h:ev F c ρ S= .ok (d,S1)) (hs:eI c d=true) (k:aO F ts (ρ.set i (some d)) S1=r):aO F (.cons (.asg i c) ts) ρ S=r:=by refine nx ?_ k;rw[ex,h,R.ao,hs];rfl
theorem Bm {i:Nat} {c:C} (h:ev F c ρ S= .ok (d,S1)) (hs:jw c d=true) (k:aO F ts (ρ.set i (some d)) S1=r):aO F (.cons (.asgM i c) ts) ρ S=r:=by refine nx ?_ k;rw[ex,h,R.ao,hs];rfl
theorem CA {t:C} {a b:Ts} {x:Bool} (h:dw F t ρ S= .ok (x,S1)) (k:aO F ((if x=true then a else b).app ts) ρ S1=r):aO F (.cons (.ifs t a b) ts) ρ S=r:=by rw[<-k,nI,aO,ex,h,R.ao];cases x <;> rfl
theorem sr {t:C} {a b:Ts} (h:dw F t ρ S= .ok (true,S1)) (k:aO F (a.app ts) ρ S1=r):aO F (.cons (.ifs t a b) ts) ρ S=r:=CA h (by rw[if_pos rfl];exact k)
theorem lO {t:C} {a b:Ts} (h:dw F t ρ S= .ok (false,S1)) (k:aO F (b.app ts) ρ S1=r):aO F (.cons (.ifs t a b) ts) ρ S=r:=CA h (by rw[if_neg (by simp)];exact k)
theorem n0 {tg:Tg} {it:o6} {b:Ts} (h:fj F it ρ S= .ok (ds,S1)) (hl:vK it=0) (hf:forL tg (aO F b) ds ρ S1= .ok (.next,ρ1,S2)) (k:aO F ts ρ1 S2=r):aO F (.cons (.fr tg it b) ts) ρ S=r:=by refine nx ?_ k;rw[ex,h,R.ao,QO hl,Bool.true_or];exact hf
theorem nR {i:Nat} (hl:ρ[i]?=some (some (.lst ds))):isLE ρ i=true:=by unfold isLE;rw[hl]
theorem jR {i:Nat} (hl:ρ[i]?=some (some (.lst ds))):pS ρ i= .ok ds:=by unfold pS;rw[hl]
theorem Dj {i:Nat} {c:C} (hl:ρ[i]?=some (some (.lst ds))) (h:ev F c ρ S= .ok (d,S1)) (hs:eI c d=true) (hz:ds.length<=lim):ex F (.app i c) ρ S= .ok (.next,ρ.set i (some (.lst (ds++[d]))),S1):=by rw[ex,nR hl,guard_true,h,R.ao,hs,guard_true,jR hl,R.ao,QO hz];rfl
theorem Dk {i:Nat} {c:C} {es:List Dt} (hl:ρ[i]?=some (some (.lst ds))) (h:ev F c ρ S= .ok (.lst es,S1)) (hs:lk c<=1) (hz:ds.length + es.length<=lim):ex F (.xtd i c) ρ S= .ok (.next,ρ.set i (some (.lst (ds++es))),S1):=by rw[ex,nR hl,guard_true,h,R.ao,QO hs,guard_true,jR hl,R.ao];show ag (decide (ds.length + es.length<=lim)) _=_;rw[QO hz];rfl
theorem tS {i:Nat} {k v:C} {n:Int} {j:Nat} (hl:ρ[i]?=some (some (.lst ds))) (h:ev F v ρ S= .ok (d,S1)) (h2:ev F k ρ S1= .ok (.int n,S2)) (hs:eI v d=true) (hz:mG ds.length n=some j):ex F (.vY i k v) ρ S= .ok (.next,ρ.set i (some (.lst (ds.set j d))),S2):=by rw[ex,nR hl,guard_true,h,R.ao,h2,R.ao,hs,guard_true,jR hl,R.ao];show (match mG ds.length n with | some j=>R.ok (Fl.next,ρ.set i (some (.lst (ds.set j d))),S2) | none=> .bad)=_;rw[hz]
theorem xF {i:Nat} (hl:ρ[i]?=some (some (.lst ds))):ex F (.clr i) ρ S= .ok (.next,ρ.set i (some (.lst [])),S):=by rw[ex,jR hl];rfl
theorem cG {i:Nat} {c:C} (hl:ρ[i]?=some (some (.lst ds))) (h:ev F c ρ S= .ok (d,S1)) (hs:eI c d=true) (hz:ds.length<=lim) (k:aO F ts (ρ.set i (some (.lst (ds++[d])))) S1=r):aO F (.cons (.app i c) ts) ρ S=r:=nx (Dj hl h hs hz) k
theorem yJ {i:Nat} {c:C} {es:List Dt} (hl:ρ[i]?=some (some (.lst ds))) (h:ev F c ρ S= .ok (.lst es,S1)) (hs:lk c<=1) (hz:ds.length + es.length<=lim) (k:aO F ts (ρ.set i (some (.lst (ds++es)))) S1=r):aO F (.cons (.xtd i c) ts) ρ S=r:=nx (Dk hl h hs hz) k
theorem fJ {c:C} (h:ev F c ρ S= .ok (d,S1)) (hd:itemsOf d=some ds):fj F (.seq c) ρ S= .ok (ds,S1):=by show (ev F c ρ S).bind (λx=>match itemsOf x.1 with | some ds=>R.ok (ds,x.2) | none=> .bad)=_;rw[h,R.ao];show (match itemsOf d with | some ds=>R.ok (ds,S1) | none=> .bad)=_;rw[hd]
theorem eR {c:C} {n:Nat} (h:ev F c ρ S= .ok (.int n,S1)) (hn:n<=lim):fj F (.rng1 c) ρ S= .ok (bj 0 n,S1):=by show (ev F c ρ S).bind (λx=>match x.1 with | .int j=>ag (decide (j<=lim)&&decide (-lim<=j)) (.ok (bj 0 j.toNat,x.2)) | _=> .bad)=_;rw[h,R.ao];show ag (decide ((n:Int)<=lim)&&decide (-lim<=(n:Int))) (R.ok (bj 0 (n:Int).toNat,S1))=_;rw[show (decide ((n:Int)<=lim)&&decide (-lim<=(n:Int)))=true by have:lim=1000000:=rfl;simp;lia];simp
theorem DN {a b:C} {da db:Dt} {xs ys:List Dt} (ha:ev F a ρ S= .ok (da,S1)) (hb:ev F b ρ S1= .ok (db,S2)) (h1:bw da=some xs) (h2:bw db=some ys):fj F (.zip a b) ρ S= .ok (dR xs ys,S2):=by show (ev F a ρ S).bind (λx=>(ev F b ρ x.2).bind λy=>match bw x.1,bw y.1 with | some xs,some ys=>R.ok (dR xs ys,y.2) | _,_=> .bad)=_;rw[ha,R.ao,hb,R.ao];show (match bw da,bw db with | some xs,some ys=>R.ok (dR xs ys,S2) | _,_=> .bad)=_;rw[h1,h2]
noncomputable def du (F:FT) (e:C):aj->Sx->R (List Dt×Sx):=λρ1 S1=>(ev F e ρ1 S1).bind λy=>ag (eI e y.1) (.ok ([y.1],y.2))
theorem bB {cv:List (Option Nat)} {it:o6} {tg:Tg} {cs:Cs} {e:C} {out:List Dt} (h:fj F it ρ S= .ok (ds,S1)) (hl:ds.length<=lim) (hk:(decide (vK it<=1)||iY F it ρ S)=true) (hc:a9 (bJ tg (cV F cs) (du F e) (lK cv ρ)) ds S1= .ok (out,S2)):
  ev F (.comp cv it tg cs e) ρ S= .ok (.lst out,S2):=by
 rw[ev,h,R.ao,QO hl,hk,Bool.and_true,guard_true];show (a9 (bJ tg (cV F cs) (du F e) (lK cv ρ)) ds S1).bind _=_;rw[hc];rfl
theorem dO {tg:Tg} {e:C} {y:Dt} (hs:cM tg d ρ= .ok ρ1) (he:ev F e ρ1 S= .ok (y,S1)) (hb:eI e y=true):bJ tg (cV F .nil) (du F e) ρ d S= .ok ([y],S1):=by unfold bJ du;rw[hs,R.ao,cV,R.ao];simp only[if_true,he,R.ao,hb,guard_true]
theorem turn_if {tg:Tg} {c e:C} {b:Bool} {y:Dt} (hs:cM tg d ρ= .ok ρ1) (hc:dw F c ρ1 S= .ok (b,S)) (he:b=true->ev F e ρ1 S= .ok (y,S)/\eI e y=true):bJ tg (cV F (.cons c .nil)) (du F e) ρ d S= .ok (if b=true then[y] else[],S):=by
 unfold bJ du;rw[hs,R.ao,cV,hc,R.ao];cases b with
 | false=>rfl
 | true=>simp only[if_true,(he rfl).1,R.ao,(he rfl).2,guard_true]
theorem d6 {k:Nat} (h:ds[k]?=some d):dk (.tup ds) (.int k)= .ok d/\dk (.lst ds) (.int k)= .ok d:=by
 have:vf ds k= .ok d:=by unfold vf;rw[L2.eN h]
 exact⟨this,this⟩
end
mutual
theorem yU:∀m:Mx.D,pl (ofD m)=true
 | .int _=>by simp[ofD,pl]
 | .str _=>by simp[ofD,pl]
 | .tup ms=>by simp[ofD,pl,om ms]
theorem om:∀ms:List Mx.D,oj (aa ms)=true
 | []=>by simp[aa,oj]
 | m::ms=>by simp[aa,oj,yU m,om ms]
end
mutual
theorem xx:∀m:Mx.D,dp (ofD m)=Mx.D.dep m
 | .int _=>by simp[ofD,dp,Mx.D.dep]
 | .str _=>by simp[ofD,dp,Mx.D.dep]
 | .tup ms=>by simp[ofD,dp,Mx.D.dep,iX ms]
theorem iX:∀ms:List Mx.D,rj (aa ms)=Mx.D.bX ms
 | []=>by simp[aa,rj,Mx.D.bX]
 | m::ms=>by simp[aa,rj,Mx.D.bX,xx m,iX ms]
end
mutual
theorem yG:∀m:Mx.D,lI (ofD m)=true
 | .int _=>by simp[ofD,lI]
 | .str _=>by simp[ofD,lI]
 | .tup ms=>by simp[ofD,lI,nZ ms]
theorem nZ:∀ms:List Mx.D,iI (aa ms)=true
 | []=>by simp[aa,iI]
 | m::ms=>by simp[aa,iI,yG m,nZ ms]
end
mutual
theorem xB:∀a b:Mx.D,bT (ofD a) (ofD b)=Mx.D.gp a b
 | .int i,.int j=>by simp[ofD,bT,Mx.D.gp]
 | .str i,.str j=>by simp[ofD,bT,Mx.D.gp]
 | .tup i,.tup j=>by simp[ofD,bT,Mx.D.gp,xD i j]
 | .int _,.str _=>by simp[ofD,bT,Mx.D.gp]
 | .int _,.tup _=>by simp[ofD,bT,Mx.D.gp]
 | .str _,.int _=>by simp[ofD,bT,Mx.D.gp]
 | .str _,.tup _=>by simp[ofD,bT,Mx.D.gp]
 | .tup _,.int _=>by simp[ofD,bT,Mx.D.gp]
 | .tup _,.str _=>by simp[ofD,bT,Mx.D.gp]
theorem xD:∀a b:List Mx.D,b9 (aa a) (aa b)=Mx.D.eqs a b
 | [],[]=>by simp[aa,b9,Mx.D.eqs]
 | [],_::_=>by simp[aa,b9,Mx.D.eqs]
 | _::_,[]=>by simp[aa,b9,Mx.D.eqs]
 | a::as,b::bs=>by simp[aa,b9,Mx.D.eqs,xB a b,xD as bs]
end
theorem tM {a b:Mx.D} (h:Mx.D.dep a<=100):de .Eq (ofD a) (ofD b)= .ok (decide (a=b)):=by show ag (gd (ofD a) (ofD b)) (.ok (bT (ofD a) (ofD b)))=_;rw[show gd (ofD a) (ofD b)=true by simp[gd,yU,xx,h],guard_true,xB,Mx.D.ie]
theorem tN {a b:Mx.D} (h:Mx.D.dep a<=100):de .NotEq (ofD a) (ofD b)= .ok (!decide (a=b)):=by show ag (gd (ofD a) (ofD b)) (.ok (!bT (ofD a) (ofD b)))=_;rw[show gd (ofD a) (ofD b)=true by simp[gd,yU,xx,h],guard_true,xB,Mx.D.ie]
theorem ar (a b:List Mx.D):aa (a++b)=aa a++aa b:=by simp[aK]
theorem ab (a:List Mx.D):(aa a).length=a.length:=by simp[aK]
theorem yE {d:Dt} {a:List Mx.D} (h:d∈aa a):∃m∈a,d=ofD m:=by rw[aK,QU] at h;obtain⟨m,h1,rfl⟩:=h;exact⟨m,h1,rfl⟩
theorem lg {pre post:List Dt} {x:Dt} {a:List Mx.D} (h:aa a=pre++x::post):∃p y q,a=p++y::q/\pre=aa p/\x=ofD y/\post=aa q:=by rw[aK] at h;obtain⟨p,r,e1,e2,e3⟩:=List.map_eq_append_iff.mp h;obtain⟨y,q,e4,e5,e6⟩:=List.map_eq_cons_iff.mp e3;exact⟨p,y,q,by rw[e1,e4],by rw[aK,e2],e5.symm,by rw[aK,e6]⟩
theorem iW {ms:List Mx.D} (h:gA ms=true):d5 .sorted [.lst (aa ms)]= .ok (.lst (aa (aS ms)))/\d5 .sorted [.tup (aa ms)]= .ok (.lst (aa (aS ms))):=by
 constructor
 ·show (match lz (aa ms) with | some ms=>ag (gA ms) (R.ok (Dt.lst (aa (aS ms)))) | none=> .bad)=_;rw[f6];show ag (gA ms) _=_;rw[h];rfl
 ·show (match lz (aa ms) with | some ms=>ag (gA ms) (R.ok (Dt.lst (aa (aS ms)))) | none=> .bad)=_;rw[f6];show ag (gA ms) _=_;rw[h];rfl
theorem rd {ms:List Mx.D} (k:Mx.SK) (hl:ms.length < 1000000) (hd:Mx.D.bX ms<=100) (hk:∀d∈ms,Hi k d=true) (hp:∀d∈ms,∀e∈ms,jQ d e=true):gA ms=true:=by
 have wz:([Mx.SK.tt,.ts,.ti,.s,.i].any λk=>ms.all (Hi k))=true:=by rw[List.any_eq_true];exact⟨k,by cases k <;> simp,QV.mpr hk⟩
 unfold gA;rw[wz,QO hl,QO hd];simp only[Bool.true_and,QZ,Qk];exact .inr (QV.mpr λd h=>QV.mpr λe h2=>hp d h e h2)
theorem cy {n:Nat}:∀{ms:List Mx.D},(∀d∈ms,Mx.D.dep d<=n)->Mx.D.bX ms<=n
 | [],_=>by simp[Mx.D.bX]
 | m::ms,h=>by
  have h1:=h m Qr;have h2:=cy λd hd=>h d (Qo _ hd)
  simp only[Mx.D.bX]
  lia
theorem bI (ms:List Mx.D):(aS ms).Perm ms:=List.mergeSort_perm ..
theorem bx {d:Mx.D} {ms:List Mx.D}:d∈aS ms↔d∈ms:=(bI ms).mem_iff
theorem vJ (a b c:Mx.D) (h1:oV a b=true) (h2:oV b c=true):oV a c=true:=by
 unfold oV at *;simp only[Bool.not_eq_true'] at *;cases h:Mx.D.lt c a with
 | false=>rfl
 | true=>
  exfalso;cases h3:Mx.D.lt a b with
  | true=>rw[Mx.D.lt_trans c a b h h3] at h2;cases h2
  | false=>have:=Mx.D.eA a b h3 h1;subst this;rw[h] at h2;cases h2
theorem vI (a b:Mx.D):(oV a b||oV b a)=true:=by
 unfold oV;cases h:Mx.D.lt b a with
 | false=>rfl
 | true=>
  cases h2:Mx.D.lt a b with
  | false=>rfl
  | true=>have:=Mx.D.lt_trans a b a h2 h;rw[Mx.D.lt_irrefl] at this;cases this
theorem iP (ms:List Mx.D):(aS ms).Pairwise λa b=>oV a b=true:=List.pairwise_mergeSort vJ vI ms
theorem lj:∀{a b:List Mx.D},a.Pairwise (λx y=>Mx.D.lt x y=true)->b.Pairwise (λx y=>Mx.D.lt x y=true)->(∀x,x∈a↔x∈b)->a=b
 | [],[],_,_,_=>rfl
 | [],y::b,_,_,h=>by have:=(h y).mpr Qr;cases this
 | x::a,[],_,_,h=>by have:=(h x).mp Qr;cases this
 | x::a,y::b,ha,hb,h=>by
  have KS:=List.pairwise_cons.mp ha;have jK:=List.pairwise_cons.mp hb;have N2:x=y:=by
   rcases Qx.mp ((h x).mp Qr) with e | e
   ·exact e
   ·rcases Qx.mp ((h y).mpr Qr) with e2 | e2
    ·exact e2.symm
    ·have:=Mx.D.lt_trans x y x (KS.1 y e2) (jK.1 x e);rw[Mx.D.lt_irrefl] at this;cases this
  subst N2;rw[lj KS.2 jK.2 λz=>?_];constructor
  ·intro hz;rcases Qx.mp ((h z).mp (Qo _ hz)) with e | e
   ·subst e;have:=KS.1 z hz;rw[Mx.D.lt_irrefl] at this;cases this
   ·exact e
  ·intro hz;rcases Qx.mp ((h z).mpr (Qo _ hz)) with e | e
   ·subst e;have:=jK.1 z hz;rw[Mx.D.lt_irrefl] at this;cases this
   ·exact e
theorem pT {a b:Mx.D} (h:oV a b=true) (n:a≠b):Mx.D.lt a b=true:=by
 unfold oV at h;cases h2:Mx.D.lt a b with
 | true=>rfl
 | false=>exact absurd (Mx.D.eA a b h2 (by simpa using h)) n
theorem qr {ms:List Mx.D} (h:ms.Nodup):(aS ms).Pairwise λa b=>Mx.D.lt a b=true:=by have h1:=iP ms;have h2:(aS ms).Nodup:=(bI ms).nodup_iff.mpr h;exact h1.imp₂ (λa b x y=>pT x y) h2
noncomputable def uq:Option Mx.D->List Mx.D->List Mx.D
 | _,[]=>[]
 | p,x::r=>if p=some x then uq (some x) r else x::uq (some x) r
theorem zB {x:Mx.D}:∀{a:List Mx.D} {p:Option Mx.D},uq p (a++[x])=uq p a++uq (a.getLast?.or p) [x]
 | [],p=>by show uq p [x]=[]++uq ((none:Option Mx.D).or p) [x];rw[Option.none_or];rfl
 | y::a,p=>by
  have e:((y::a).getLast?.or p)=(a.getLast?.or (some y)):=by
   cases a with
   | nil=>rfl
   | cons z a=>simp[List.getLast?_cons]
  rw[e,List.cons_append,uq,uq,zB];split <;> simp
theorem u6:∀{a:List Mx.D} {p:Option Mx.D},(uq p a).getLast?.or p=a.getLast?.or p
 | [],p=>rfl
 | y::a,p=>by
  have ih:=u6 (a:=a) (p:=some y);rw[uq];have e:((y::a).getLast?.or p)=(a.getLast?.or (some y)):=by
   cases a with
   | nil=>rfl
   | cons z a=>simp[List.getLast?_cons]
  rw[e];split
  ·rename_i h;rw[h];exact ih
  ·rw[<-ih];cases hq:uq (some y) a with
   | nil=>rfl
   | cons z q=>simp[List.getLast?_cons]
theorem zC {x:Mx.D}:∀{a:List Mx.D} {p:Option Mx.D},(x∈uq p a\/p=some x)↔(x∈a\/p=some x)
 | [],p=>by simp[uq]
 | y::a,p=>by
  have ih:=zC (x:=x) (a:=a) (p:=some y);rw[uq];split
  ·rename_i h;subst h;simp only[Option.some.injEq,Qx] at *;constructor
   ·intro z;rcases ih.mp z with z | z
    ·exact .inl (.inr z)
    ·exact .inr z
   ·rintro((z | z) | z)
    ·exact .inr z.symm
    ·exact ih.mpr (.inl z)
    ·exact .inr z
  ·simp only[Qx,Option.some.injEq] at *;constructor
   ·rintro((z | z) | z)
    ·exact .inl (.inl z)
    ·rcases ih.mp (.inl z) with z | z
     ·exact .inl (.inr z)
     ·exact .inl (.inl z.symm)
    ·exact .inr z
   ·rintro((z | z) | z)
    ·exact .inl (.inl z)
    ·rcases ih.mpr (.inl z) with z | z
     ·exact .inl (.inr z)
     ·exact .inl (.inl z.symm)
    ·exact .inr z
theorem jl {x:Mx.D}:∀{a:List Mx.D} {p:Option Mx.D},x∈uq p a->x∈a
 | [],p,h=>by simp[uq] at h
 | y::a,p,h=>by
  rw[uq] at h;split at h
  ·exact Qo _ (jl h)
  ·rcases Qx.mp h with h | h
   ·rw[h];exact Qr
   ·exact Qo _ (jl h)
theorem oK:∀{a:List Mx.D} {p:Option Mx.D},(uq p a).length<=a.length
 | [],p=>by simp[uq]
 | y::a,p=>by have:=oK (a:=a) (p:=some y);rw[uq];split <;> simp <;> lia
theorem mW:∀{a:List Mx.D} {p:Option Mx.D},a.Pairwise (λx y=>oV x y=true)->(∀x∈a,∀y,p=some y->oV y x=true)->(uq p a).Pairwise (λx y=>Mx.D.lt x y=true)/\∀x∈uq p a,∀y,p=some y->Mx.D.lt y x=true
 | [],p,_,_=>by simp[uq]
 | y::a,p,h,hp=>by
  have h':=List.pairwise_cons.mp h;obtain⟨i1,i2⟩:=mW (p:=some y) h'.2 (λx hx z e=>by cases e;exact h'.1 x hx);rw[uq];split
  ·rename_i e;subst e;exact⟨i1,i2⟩
  ·rename_i ne;have key:∀z,p=some z->Mx.D.lt z y=true:=λz e=>pT (hp y Qr z e) λe2=>ne (by rw[e,e2])
   refine⟨List.pairwise_cons.mpr ⟨λx hx=>i2 x hx y rfl,i1⟩,λx hx z e=>?_⟩;rcases Qx.mp hx with rfl | hx
   ·exact key z e
   ·exact Mx.D.lt_trans z y x (key z e) (i2 x hx y rfl)
variable {fs:List Fn}
noncomputable def wV (ic:Nat):Ts:=(.cons (.asg 3 (.bin .Add (.bin .Mult (.bin .Mod (.call ic (.cons (.var 0) (.cons (.var 1) .nil)) []) (.con (.int 2147483647))) (.bin .Add (.con (.int 48271)) (.bin .Mult (.con (.int 2)) (.var 1)))) (.bin .Mult (.con (.int 31)) (.var 1)))) (.cons (.ret (.bin .Mod (.bin .FloorDiv (.bin .Mod (.var 3) (.con (.int 2147483629))) (.con (.int 7))) (.var 2))) .nil))
noncomputable def bH (ns:List Int) (k many:Nat):Nat:=((((hV ns k % 2147483647) * (48271 + 2 * k) + 31 * k) % 2147483629 / 7) % many).toNat
theorem cH {ns:List Int} {k many:Nat} (h:0 < many):bH ns k many < many:=by
 unfold bH;have h1:=QW (((hV ns k % 2147483647) * (48271 + 2 * k) + 31 * k) % 2147483629 / 7) (b:=many) (by lia);have h2:=QX (((hV ns k % 2147483647) * (48271 + 2 * k) + 31 * k) % 2147483629 / 7) (b:=many) (by lia)
 lia
structure gV (fs:List Fn) (ip:Nat):Prop where
 ex:∃ic,fs[ic]?=some ⟨2,3,false,ph⟩/\fs[ip]?=some ⟨3,4,false,wV ic⟩
theorem jY {ip:Nat} (hp:gV fs ip) {n:Nat} (hn:2<=n) {ns:List Int} {k many:Nat} (hk:k < 1000000) (hm:0 < many):aF fs n ip [.br ns,.int k,.int many] none= .ok (.int (bH ns k many),none):=by
 obtain⟨ic,h1,h2⟩:=hp.ex;refine aA h2 (by lia) rfl ?_;show fin (aO (aF fs (n - 1)) (wV ic) [some (.br ns),some (.int k),some (.int many),none] none)=_;have hc:=tJ h1 (n:=n - 1) (by lia) (ns:=ns) hk;generalize hx:hV ns k=x at hc;have r1:=QW x (b:=2147483647) (by decide);have r2:=QX x (b:=2147483647) (by decide);have m1:=c9 (i:=x) (j:=2147483647) (by decide);have m2:=bD (i:=2) (j:=k) (.inl (by decide));have m3:=bD (i:=x % 2147483647) (j:=48271 + 2 * k) (.inl (by lia));have m4:=bD (i:=31) (j:=k) (.inl (by decide));have m5:=c9 (i:=x % 2147483647 * (48271 + 2 * k) + 31 * k) (j:=2147483629) (by decide);have m6:=yN (i:=(x % 2147483647 * (48271 + 2 * k) + 31 * k) % 2147483629) (j:=7) (by decide) (by decide);have m7:=c9 (i:=(x % 2147483647 * (48271 + 2 * k) + 31 * k) % 2147483629 / 7) (j:=many) (by lia);refine aJ (d:= .int (x % 2147483647 * (48271 + 2 * k) + 31 * k)) (S1:=none) (by simp only[RX,hc,m1,m2,m3,m4]) rfl ?_;refine(au (d:=_) (S1:=none) (by simp only[RX,m5,m6,m7];rfl)).trans ?_;have h1:=QW (((x % 2147483647) * (48271 + 2 * k) + 31 * k) % 2147483629 / 7) (b:=many) (by lia);have e:((bH ns k many:Nat):Int)=((x % 2147483647) * (48271 + 2 * k) + 31 * k) % 2147483629 / 7 % many:=by unfold bH;rw[hx];omega
 rw[e]
noncomputable def tE:Ts:=(.cons (.ret (.bin .Mod (.bin .Add (.bin .Add (.bin .Mult (.var 0) (.con (.int 31))) (.bin .Mult (.var 1) (.con (.int 7)))) (.con (.int 13))) (.con (.int 9973)))) .nil)
noncomputable def jt (k j:Nat):Nat:=(k * 31 + j * 7 + 13) % 9973
theorem pZ {k j:Nat}:jt k j < 9973:=Nat.mod_lt _ (by decide)
theorem uy {i:Nat} (hp:fs[i]?=some ⟨2,2,false,tE⟩) {n:Nat} (hn:1<=n) {k j:Nat}:aF fs n i [.int k,.int j] none= .ok (.int (jt k j),none):=by
 refine aA hp hn rfl ?_;show fin (aO (aF fs (n - 1)) tE [some (.int k),some (.int j)] none)=_;have m1:=bD (i:=k) (j:=31) (.inr (by decide));have m2:=bD (i:=j) (j:=7) (.inr (by decide));have m3:=c9 (i:=(k:Int) * 31 + j * 7 + 13) (j:=9973) (by decide);refine(au (d:=_) (S1:=none) (by simp only[RX,m1,m2,m3];rfl)).trans ?_;have e:((jt k j:Nat):Int)=((k:Int) * 31 + j * 7 + 13) % 9973:=by unfold jt;lia
 rw[e]
theorem nQ {z:Str} {k:Nat} (hz:z.length<=lim) (h:k < z.length):∃c,dk (.str z) (.int k)= .ok (.str ⟨#[c]⟩):=by
 have Jz:z.cps.toList.length=z.length:=by simp[Str.length]
 refine⟨z.cps.toList[k],?_⟩;show ag (decide (z.length<=lim)) (match jE z.cps.toList k with | some c=>R.ok (Dt.str ⟨#[c]⟩) | none=> .bad)=_;rw[QO hz,guard_true,L2.eN (v:=z.cps.toList[k]) (QJ _)]
theorem fM {a b:Str} (h:a.length + b.length<=lim):qa .Add (.str a) (.str b)= .ok (.str (a++b)):=by show ag (decide (a.length + b.length<=lim)) _=_;rw[QO h];rfl
theorem len_str {z:Str} (h:z.length<=lim):d5 .len [.str z]= .ok (.int z.length):=by show ag (decide (z.length<=lim)) _=_;rw[QO h];rfl
theorem ow {z:Str} {lo hi:Option Int} (h:z.length<=lim):iN (.str z) lo hi= .ok (.str (PySem.Txt.slice z lo hi)):=by show ag (decide (z.length<=lim)) _=_;rw[QO h];rfl
theorem len_cat (a b:Str):(a++b).length=a.length + b.length:=Str.length_append ..
theorem yu {z:Str} {k:Nat} {d} (hz:z.length<=lim) (h:k < z.length):dk (.str z) (.int k)= .ok (.str ⟨#[z.cps.toList.getD k d]⟩):=by
 have Jz:k < z.cps.toList.length:=by simpa [Str.length] using h
 show ag (decide (z.length<=lim)) (match jE z.cps.toList k with | some c=>R.ok (Dt.str ⟨#[c]⟩) | none=> .bad)=_;rw[QO hz,guard_true,L2.eN (v:=z.cps.toList[k]) (QJ _)];rw[List.getD,QJ Jz];rfl
theorem sN {a b:Str} {x y} (h:a++⟨#[x]⟩++b=a++⟨#[y]⟩++b):x=y:=by
 have h2:=congrArg (λz:Str=>z.cps.toList) h;have e:∀u v:Str,(u++v).cps.toList=u.cps.toList++v.cps.toList:=λu v=>by show (u.cps++v.cps).toList=_;simp
 simp only[e,Qz] at h2;simpa using List.append_cancel_left h2
theorem gJ {α:Type} {l:List α} {d:α} (hn:l.Nodup) {i j:Nat} (hi:i < l.length) (hj:j < l.length) (h:l.getD i d=l.getD j d):i=j:=by
 simp only[List.getD,QJ hi,QJ hj,Option.getD_some] at h;have hp:=List.pairwise_iff_getElem.mp hn;rcases Nat.lt_trichotomy i j with z | z | z
 ·exact absurd h (hp i j hi hj z)
 ·exact z
 ·exact absurd h.symm (hp j i hj hi z)
noncomputable def tD:Ts:=(.cons (.asg 8 (.idx (.var 2) (.bin .Mod (.bin .Add (.var 6) (.bin .Mult (.con (.int 7)) (.var 4))) (.con (.int 26))))) (.cons (.app 7 (.bin .Add (.bin .Add (.sliH (.var 3) (.var 5)) (.var 8)) (.sliL (.var 3) (.var 5)))) .nil))
noncomputable def qX (ip:Nat):Ts:=(.cons (.asg 3 (.con (.str ""))) (.cons (.fr (.nm 4) (.rng1 (.call ip (.cons (.var 0) (.cons (.var 1) (.cons (.con (.int 6)) .nil))) [])) (.cons (.asg 3 (.bin .Add (.var 3) (.idx (.var 2) (.call ip (.cons (.var 0) (.cons (.bin .Add (.bin .Add (.var 1) (.bin .Mult (.con (.int 11)) (.var 4))) (.con (.int 1))) (.cons (.con (.int 26)) .nil))) [])))) .nil)) (.cons (.asg 5 (.call ip (.cons (.var 0) (.cons (.bin .Add (.var 1) (.con (.int 2))) (.cons (.bin .Add (.bi .len (.cons (.var 3) .nil)) (.con (.int 1))) .nil))) [])) (.cons (.asg 6 (.call ip (.cons (.var 0) (.cons (.bin .Add (.var 1) (.con (.int 3))) (.cons (.con (.int 26)) .nil))) [])) (.cons (.ifs (.cmp .Eq (.call ip (.cons (.var 0) (.cons (.bin .Add (.var 1) (.con (.int 4))) (.cons (.con (.int 3)) .nil))) []) (.con (.int 0))) (.cons (.asg 3 (.bin .Add (.sliH (.var 3) (.con (.int 3))) (.idx (.var 2) (.var 6)))) (.cons (.ret (.lst (.cons (.var 3) (.cons (.bin .Add (.var 3) (.idx (.var 2) (.var 5))) (.cons (.bin .Add (.bin .Add (.var 3) (.idx (.var 2) (.var 5))) (.idx (.var 2) (.var 6))) .nil))))) .nil)) .nil) (.cons (.asgM 7 (.lst .nil)) (.cons (.fr (.nm 4) (.rng1 (.con (.int 3))) tD) (.cons (.ret (.mvr 7)) .nil))))))))
theorem dE {n:Nat} {pre post:List Dt} {x:Dt} (h:bj 0 n=pre++x::post):pre.length < n/\x= .int pre.length:=by
 have hl:(bj 0 n).length=n:=by simp[bj]
 have h1:pre.length < n:=by rw[<-hl,h];simp
 refine⟨h1,?_⟩;have e:(bj 0 n)[pre.length]?=some x:=by rw[h];simp
 unfold bj at e;simp[h1] at e;exact e.symm
theorem pX {ip im:Nat} (hp:gV fs ip) (hf:fs[im]?=some ⟨3,9,false,qX ip⟩) {n:Nat} (hn:3<=n) {ns:List Int} {k:Nat} {L:Str} (hk:k < 100000) (hL:L.length=26) (hD:L.cps.toList.Nodup):∃a b c,aF fs n im [.br ns,.int k,.str L] none= .ok (.lst [.str a,.str b,.str c],none)/\a≠b/\b≠c/\a≠c:=by
 have cW:lim=1000000:=rfl;have jA:=cH (ns:=ns) (k:=k) (many:=6) (by decide);have P:=λ(k many:Nat) (h1:k < 1000000) (h2:0 < many)=>jY hp (n:=n - 1) (by lia) (ns:=ns) h1 h2
 have loop:=cA (S:=none) (tg:= .nm 4) (body:=aO (aF fs (n - 1)) (.cons (.asg 3 (.bin .Add (.var 3) (.idx (.var 2) (.call ip (.cons (.var 0) (.cons (.bin .Add (.bin .Add (.var 1) (.bin .Mult (.con (.int 11)) (.var 4))) (.con (.int 1))) (.cons (.con (.int 26)) .nil))) [])))) .nil)) (ds:=bj 0 (bH ns k 6))
  (ρ:=[some (.br ns),some (.int k),some (.str L),some (.str ""),none,none,none,none,none])
  (λpre ρ=>∃w jv,w.length<=pre.length/\ρ=[some (.br ns),some (.int k),some (.str L),some (.str w),jv,none,none,none,none]) ⟨"",none,Qq _,rfl⟩ (by
   rintro pre x post ρ e ⟨w,jv,hw,rfl⟩;obtain⟨h1,rfl⟩:=dE e;have Nj:=P (k + 11 * pre.length + 1) 26 (by lia) (by decide);have cC:=cH (ns:=ns) (k:=k + 11 * pre.length + 1) (many:=26) (by decide);obtain⟨c,hc⟩:=nQ (z:=L) (k:=bH ns (k + 11 * pre.length + 1) 26) (by lia) (by lia);have m1:=bD (i:=11) (j:=pre.length) (.inl (by decide));have ca:=fM (a:=w) (b:=⟨#[c]⟩) (by show w.length + 1<=lim;lia);refine⟨_,_,rfl,cm (d:= .str (w++⟨#[c]⟩)) (S1:=none) ?_ rfl rfl,w++⟨#[c]⟩,_,?_,rfl⟩
   ·rw[show ((k + 11 * pre.length + 1:Nat):Int)=(k:Int) + 11 * pre.length + 1 by lia] at Nj;simp only[RX,m1];rw[show ([Dt.br ns,.int ((k:Int) + 11 * pre.length + 1),.int 26]:List Dt)=[.br ns,.int ((k:Int) + 11 * pre.length + 1),.int (26:Nat)] from rfl,Nj];simp only[RX,hc,ca]
   ·rw[len_cat,QB];show w.length + 1<=_;simp;lia)
 obtain⟨ρ1,bc,w,jv,hw,rfl⟩:=loop;have Jy:w.length<=5:=by
  have:(bj 0 (bH ns k 6)).length=bH ns k 6:=by simp[bj]
  lia
 have p2:=P (k + 2) (w.length + 1) (by lia) (by lia);have l2:=cH (ns:=ns) (k:=k + 2) (many:=w.length + 1) (by lia);have p3:=P (k + 3) 26 (by lia) (by decide);have l3:=cH (ns:=ns) (k:=k + 3) (many:=26) (by decide);have p4:=P (k + 4) 3 (by lia) (by decide);generalize bH ns (k + 2) (w.length + 1)=at' at p2 l2;generalize bH ns (k + 3) 26=fi at p3 l3;generalize bH ns (k + 4) 3=q4 at p4;have hlen:=len_str (z:=w) (by lia);obtain⟨cf,M8⟩:=nQ (z:=L) (k:=fi) (by lia) (by lia);obtain⟨ca,M7⟩:=nQ (z:=L) (k:=at') (by lia) (by lia);have s3:=ow (z:=w) (lo:=none) (hi:=some 3) (by lia);have e3:=PySem.Txt.slice_le w none (some 3);generalize PySem.Txt.slice w none (some 3)=w3 at s3 e3;have PP:((26:Nat):Int)=26:=rfl;have head:∃a b c,fin (aO (aF fs (n - 1)) (qX ip) [some (.br ns),some (.int k),some (.str L),none,none,none,none,none,none] none)= .ok (.lst [.str a,.str b,.str c],none)/\a≠b/\b≠c/\a≠c:=by
  by_cases h4:q4=0
  ·subst h4;have c1:=fM (a:=w3) (b:=⟨#[cf]⟩) (by show w3.length + 1<=lim;lia);have c2:=fM (a:=w3++⟨#[cf]⟩) (b:=⟨#[ca]⟩) (by rw[len_cat];show w3.length + 1 + 1<=lim;lia);have c3:=fM (a:=w3++⟨#[cf]⟩++⟨#[ca]⟩) (b:=⟨#[cf]⟩) (by rw[len_cat,len_cat];show w3.length + 1 + 1 + 1<=lim;lia);refine⟨w3++⟨#[cf]⟩,w3++⟨#[cf]⟩++⟨#[ca]⟩,w3++⟨#[cf]⟩++⟨#[ca]⟩++⟨#[cf]⟩,?_,λz=>?_,λz=>?_,λz=>?_⟩
   rotate_left
   ·have:=congrArg Str.length z;simp only[len_cat] at this;have:(⟨#[ca]⟩:Str).length=1:=rfl;lia
   ·have:=congrArg Str.length z;simp only[len_cat] at this;have:(⟨#[cf]⟩:Str).length=1:=rfl;lia
   ·have:=congrArg Str.length z;simp only[len_cat] at this;have:(⟨#[cf]⟩:Str).length=1:=rfl;lia
   refine aJ (d:= .str "") (S1:=none) rfl rfl (bC (ds:=bj 0 (bH ns k 6)) (S1:=none) (eR (by simp only[RX];exact congrArg (R.bind · _) (P k 6 (by lia) (by decide))) (by lia)) rfl bc ?_);refine aJ (d:= .int at') (S1:=none) (by simp only[RX,hlen];exact congrArg (R.bind · _) p2) rfl ?_;refine aJ (d:= .int fi) (S1:=none) (by simp only[RX];exact congrArg (R.bind · _) p3) rfl ?_;refine kC (S1:=none) (by simp only[RX];rw[show aF fs (n - 1) ip [.br ns,.int ((k:Int) + 4),.int 3] none=_ from p4];rfl) ?_;refine aJ (d:= .str (w3++⟨#[cf]⟩)) (S1:=none) (by simp only[RX,s3,M8,c1]) rfl ?_;exact au (by simp only[RX,M7,M8,c2,c3])
  ·have l4:=λj:Nat=>Nat.mod_lt (fi + 7 * j) (y:=26) (by decide)
   have s5:=ow (z:=w) (lo:=none) (hi:=some (at':Int)) (by lia);have e5:=PySem.Txt.slice_le w none (some (at':Int));have s6:=ow (z:=w) (lo:=some (at':Int)) (hi:=none) (by lia);have e6:=PySem.Txt.slice_le w (some (at':Int)) none;generalize PySem.Txt.slice w none (some (at':Int))=wa at s5 e5;generalize PySem.Txt.slice w (some (at':Int)) none=wb at s6 e6;have hl:L.cps.toList.length=26:=by rw[<-hL];simp[Str.length]
   have Hl:=cA (S:=none) (tg:= .nm 4) (body:=aO (aF fs (n - 1)) tD) (ds:=bj 0 3)
    (ρ:=[some (.br ns),some (.int k),some (.str L),some (.str w),jv,some (.int at'),some (.int fi),some (.lst []),none])
    (λpre ρ=>∃jv s8,ρ=[some (.br ns),some (.int k),some (.str L),some (.str w),jv,some (.int at'),some (.int fi),some (.lst ((List.range pre.length).map λj=>Dt.str (wa++⟨#[L.cps.toList.getD ((fi + 7 * j) % 26) cf]⟩++wb))),s8]) ⟨jv,none,rfl⟩ (by
     rintro pre x post ρ e ⟨jv,s8,rfl⟩;obtain⟨h1,rfl⟩:=dE e;have hc:=yu (z:=L) (k:=(fi + 7 * pre.length) % 26) (d:=cf) (by lia) (by have:=l4 pre.length;lia);rw[show (((fi + 7 * pre.length) % 26:Nat):Int)=((fi:Int) + 7 * pre.length) % 26 by lia] at hc;generalize hcc:L.cps.toList.getD ((fi + 7 * pre.length) % 26) cf=c at hc;have m1:=bD (i:=7) (j:=pre.length) (.inl (by decide));have m2:=c9 (i:=(fi:Int) + 7 * pre.length) (j:=26) (by decide);have c1:=fM (a:=wa) (b:=⟨#[c]⟩) (by show wa.length + 1<=lim;lia);have c2:=fM (a:=wa++⟨#[c]⟩) (b:=wb) (by rw[len_cat];show wa.length + 1 + wb.length<=lim;lia);refine⟨_,_,rfl,cm (d:= .str ⟨#[c]⟩) (S1:=none) (by simp only[RX,m1,m2,hc]) rfl (cG (ds:=(List.range pre.length).map λj=>Dt.str (wa++⟨#[L.cps.toList.getD ((fi + 7 * j) % 26) cf]⟩++wb)) (d:= .str (wa++⟨#[c]⟩++wb)) (S1:=none) rfl (by simp only[RX,s5,s6,c1,c2]) rfl (by simp;lia) rfl),some (.int pre.length),some (.str ⟨#[c]⟩),?_⟩;rw[QB,List.length_singleton,List.range_succ,Q3,List.map_singleton,hcc];rfl)
   obtain⟨ρ2,DA,Qd,s8,rfl⟩:=Hl;refine⟨wa++⟨#[L.cps.toList.getD ((fi + 7 * 0) % 26) cf]⟩++wb,wa++⟨#[L.cps.toList.getD ((fi + 7 * 1) % 26) cf]⟩++wb,wa++⟨#[L.cps.toList.getD ((fi + 7 * 2) % 26) cf]⟩++wb,?_,λz=>?_,λz=>?_,λz=>?_⟩
   rotate_left
   ·have:=gJ hD (by rw[hl];exact l4 0) (by rw[hl];exact l4 1) (sN z);lia
   ·have:=gJ hD (by rw[hl];exact l4 1) (by rw[hl];exact l4 2) (sN z);lia
   ·have:=gJ hD (by rw[hl];exact l4 0) (by rw[hl];exact l4 2) (sN z);lia
   refine aJ (d:= .str "") (S1:=none) rfl rfl (bC (ds:=bj 0 (bH ns k 6)) (S1:=none) (eR (by simp only[RX];exact congrArg (R.bind · _) (P k 6 (by lia) (by decide))) (by lia)) rfl bc ?_);refine aJ (d:= .int at') (S1:=none) (by simp only[RX,hlen];exact congrArg (R.bind · _) p2) rfl ?_;refine aJ (d:= .int fi) (S1:=none) (by simp only[RX];exact congrArg (R.bind · _) p3) rfl ?_;refine ek (S1:=none) (by simp only[RX];rw[show aF fs (n - 1) ip [.br ns,.int ((k:Int) + 4),.int 3] none=_ from p4];simp only[RX];simp[h4]) ?_;refine bu (d:= .lst []) (S1:=none) rfl rfl (bC (ds:=bj 0 3) (S1:=none) (eR (n:=3) rfl (by decide)) rfl DA ?_);exact au (by simp only[RX];rfl)
 obtain⟨a,b,c,h1,h2⟩:=head;exact⟨a,b,c,aA hf (by lia) rfl h1,h2⟩
variable {fs:List Fn}
mutual
noncomputable def sm:Dt->Bool
 | .int _=>true
 | .str _=>true
 | .tup ds=>BR ds
 | .lst ds=>BR ds
 | _=>false
noncomputable def BR:List Dt->Bool
 | []=>true
 | d::ds=>sm d&&BR ds
end
mutual
theorem Ip:∀m:Mx.D,sm (ofD m)=true
 | .int _=>by simp[ofD,sm]
 | .str _=>by simp[ofD,sm]
 | .tup ms=>by simp[ofD,sm,oy ms]
theorem oy:∀ms:List Mx.D,BR (aa ms)=true
 | []=>by simp[aa,BR]
 | m::ms=>by simp[aa,BR,Ip m,oy ms]
end
theorem uS:∀{ds:List Dt} {d:Dt},BR ds=true->d∈ds->sm d=true/\dp d<=rj ds
 | d::ds,x,h,hx=>by
  simp only[BR,Qk] at h;simp only[rj];rcases Qx.mp hx with rfl | hx
  ·exact⟨h.1,by lia⟩
  ·have:=uS h.2 hx;exact⟨this.1,by lia⟩
noncomputable def px (is:Nat):Ts:=(.cons (.ifs (.bi (.isi "str") (.cons (.var 1) .nil)) (.cons (.ret (.and (.bi (.isi "str") (.cons (.var 0) .nil)) (.cmp .Eq (.var 0) (.var 1)))) .nil) .nil) (.cons (.ifs (.bi (.isi "int") (.cons (.var 1) .nil)) (.cons (.ret (.and (.bi (.isi "int") (.cons (.var 0) .nil)) (.and (.nt (.bi (.isi "bool") (.cons (.var 0) .nil))) (.cmp .Eq (.var 0) (.var 1))))) .nil) .nil) (.cons (.ifs (.or (.cmp .NotEq (.bi (.isi "list") (.cons (.var 1) .nil)) (.bi (.isi "list") (.cons (.var 0) .nil))) (.cmp .NotEq (.bi (.isi "tuple") (.cons (.var 1) .nil)) (.bi (.isi "tuple") (.cons (.var 0) .nil)))) (.cons (.ret (.con (.bl false))) .nil) .nil) (.cons (.ifs (.cmp .NotEq (.bi .len (.cons (.var 0) .nil)) (.bi .len (.cons (.var 1) .nil))) (.cons (.ret (.con (.bl false))) .nil) .nil) (.cons (.fr (.tp [2,3]) (.zip (.var 0) (.var 1)) (.cons (.ifs (.nt (.call is (.cons (.var 2) (.cons (.var 3) .nil)) [])) (.cons (.ret (.con (.bl false))) .nil) .nil) .nil)) (.cons (.ret (.con (.bl true))) .nil))))))
theorem wt {ds pre post:List Dt} {x:Dt} (h:dR ds ds=pre++x::post):∃y∈ds,x= .tup [y,y]:=by
 have hx:x∈dR ds ds:=by rw[h];simp
 unfold dR at hx;have:List.zipWith (λx y=>Dt.tup [x,y]) ds ds=ds.map λy=>Dt.tup [y,y]:=by
  clear h hx
  induction ds with
  | nil=>rfl
  | cons d ds ih=>simp[ih]
 rw[this,QU] at hx;obtain⟨y,h1,h2⟩:=hx;exact⟨y,h1,h2.symm⟩
theorem ot {is:Nat} (hf:fs[is]?=some ⟨2,4,false,px is⟩):∀(n:Nat) (d:Dt),sm d=true->dp d < n->aF fs n is [d,d] none= .ok (.bl true,none)
 | 0,d,_,h=>by lia
 | n + 1,d,h,hd=>by
  have ih:=ot hf n;have main:∀ds:List Dt,BR ds=true->rj ds < n->(d= .tup ds\/d= .lst ds)->aF fs (n + 1) is [d,d] none= .ok (.bl true,none):=by
   intro ds hs hl hd;have hlen:d5 .len [d]= .ok (.int ds.length):=by rcases hd with rfl | rfl <;> rfl
   have Jw:bw d=some ds:=by rcases hd with rfl | rfl <;> rfl
   have i1:d5 (.isi "str") [d]= .ok (.bl false):=by rcases hd with rfl | rfl <;> rfl
   have i2:d5 (.isi "int") [d]= .ok (.bl false):=by rcases hd with rfl | rfl <;> rfl
   have i3:(∃b,d5 (.isi "list") [d]= .ok (.bl b))/\∃b,d5 (.isi "tuple") [d]= .ok (.bl b):=by rcases hd with rfl | rfl <;> exact⟨⟨_,rfl⟩,⟨_,rfl⟩⟩
   obtain⟨⟨b3,i3⟩,⟨b4,i4⟩⟩:=i3;have e3:∀b:Bool,de .NotEq (.bl b) (.bl b)= .ok false:=λb=>by cases b <;> rfl
   have loop:=cA (S:=none) (tg:= .tp [2,3]) (body:=aO (aF fs n) (.cons (.ifs (.nt (.call is (.cons (.var 2) (.cons (.var 3) .nil)) [])) (.cons (.ret (.con (.bl false))) .nil) .nil) .nil)) (ds:=dR ds ds)
    (ρ:=[some d,some d,none,none]) (λpre ρ=>∃a b,ρ=[some d,some d,a,b]) ⟨none,none,rfl⟩ (by
     rintro pre x post ρ e ⟨a,b,rfl⟩;obtain⟨y,hy,rfl⟩:=wt e;have:=uS hs hy;have hc:=ih y this.1 (by lia);exact⟨[some d,some d,some y,some y],_,rfl,lO (S1:=none) (by simp only[RX,hc];rfl) rfl,some y,some y,rfl⟩)
   obtain⟨ρ1,bc,a,b,rfl⟩:=loop;refine aA hf (by lia) rfl ?_;show fin (aO (aF fs n) (px is) [some d,some d,none,none] none)=_;refine ek (S1:=none) (by simp only[RX,i1]) (ek (S1:=none) (by simp only[RX,i2]) (ek (S1:=none) (by simp only[RX,i3,i4,e3];rfl) (ek (S1:=none) (by simp only[RX,hlen];simp) ?_)));refine bC (ds:=dR ds ds) (S1:=none) (DN (S1:=none) (S2:=none) rfl rfl Jw Jw) rfl bc (au rfl)
  cases d with
  | str x=>refine aA hf (by lia) rfl ?_;show fin (aO (aF fs n) (px is) [some (.str x),some (.str x),none,none] none)=_;have i1:d5 (.isi "str") [.str x]= .ok (.bl true):=rfl;exact kC (S1:=none) (by simp only[RX,i1]) (au (by simp only[RX,i1];simp))
  | int x=>refine aA hf (by lia) rfl ?_;show fin (aO (aF fs n) (px is) [some (.int x),some (.int x),none,none] none)=_;have i1:d5 (.isi "str") [.int x]= .ok (.bl false):=rfl;have i2:d5 (.isi "int") [.int x]= .ok (.bl true):=rfl;have i3:d5 (.isi "bool") [.int x]= .ok (.bl false):=rfl;exact ek (S1:=none) (by simp only[RX,i1]) (kC (S1:=none) (by simp only[RX,i2]) (au (by simp only[RX,i2,i3,Bool.not_false];simp)))
  | tup ds=>exact main ds (by simpa [sm] using h) (by simp only[dp] at hd;lia) (.inl rfl)
  | lst ds=>exact main ds (by simpa [sm] using h) (by simp only[dp] at hd;lia) (.inr rfl)
  | _=>simp[sm] at h
noncomputable def fz (x:Str):Mx.D:= .tup [.str "any",.str x]
noncomputable def ofT (x:Str) (ps:List Mx.D):Mx.D:= .tup [.str "of",.str x,.tup ps]
noncomputable def lY (Q:Mx.D->Prop) (it:Mx.D):Prop:=(∃x,it=fz x)\/∃x ps,it=ofT x ps/\ps.length<=3/\∀p∈ps,Q p
noncomputable def tf (Q:Mx.D->Prop) (r:Mx.D):Prop:=∃it c,r= .tup [it,.int c]/\lY Q it
noncomputable def cg:Nat->Mx.D->Prop
 | 0,_=>False
 | n + 1,d=>∃rs,d= .tup rs/\rs.length<=4/\∀r∈rs,tf (cg n) r
theorem cw {n m:Nat} {it:Mx.D} {Q:Mx.D->Prop} (hQ:∀d,Q d->Mx.D.dep d<=m) (hn:n=m + 2) (h:lY Q it):Mx.D.dep it<=n:=by
 rcases h with ⟨x,rfl⟩ | ⟨x,ps,rfl,_,hp⟩
 ·simp[fz,Mx.D.dep,Mx.D.bX];lia
 ·have:=cy λp kI=>hQ p (hp p kI)
  simp[ofT,Mx.D.dep,Mx.D.bX]
  lia
theorem bG:∀{n:Nat} {d:Mx.D},cg n d->Mx.D.dep d<=4 * n
 | 0,d,h=>h.elim
 | n + 1,d,⟨rs,e,_,h⟩=>by
  subst e;have:Mx.D.bX rs<=4 * n + 3:=cy λr hr=>by
   obtain⟨it,c,rfl,hi⟩:=h r hr;have:=cw (n:=4 * n + 2) (λd hd=>bG hd) rfl hi;simp[Mx.D.dep,Mx.D.bX]
   lia
  simp only[Mx.D.dep]
  lia
theorem rY:∀{xs ys:List Mx.D},(∀x∈xs,∀y∈ys,jQ x y=true)->jb xs ys=true
 | [],_,_=>by simp[jb]
 | _::_,[],_=>by simp[jb]
 | x::xs,y::ys,h=>by simp only[jb,Qk];exact⟨h x Qr y Qr,rY λa ha b hb=>h a (Qo _ ha) b (Qo _ hb)⟩
theorem uv {P Q:Mx.D->Prop} {a b:Mx.D} (KH:∀p q,P p->Q q->jQ p q=true) (ha:lY P a) (hb:lY Q b):jQ a b=true:=by
 rcases ha with ⟨x,rfl⟩ | ⟨x,ps,rfl,_,hp⟩ <;> rcases hb with ⟨y,rfl⟩ | ⟨y,qs,rfl,_,hq⟩
 ·simp[fz,jQ,jb]
 ·simp[fz,ofT,jQ,jb]
 ·simp[fz,ofT,jQ,jb]
 ·simp only[ofT,jQ,jb,Bool.true_and,Bool.and_true];exact rY λp kI q hq'=>KH p q (hp p kI) (hq q hq')
theorem lk_row {P Q:Mx.D->Prop} {a b:Mx.D} (KH:∀p q,P p->Q q->jQ p q=true) (ha:tf P a) (hb:tf Q b):jQ a b=true:=by obtain⟨i,c,rfl,hi⟩:=ha;obtain⟨j,d,rfl,hj⟩:=hb;simp only[jQ,jb,Bool.and_true];exact uv KH hi hj
theorem nW:∀{n m:Nat} {a b:Mx.D},cg n a->cg m b->jQ a b=true
 | 0,_,_,_,h,_=>h.elim
 | _ + 1,0,_,_,_,h=>h.elim
 | n + 1,m + 1,a,b,⟨rs,e1,_,h1⟩,⟨qs,e2,_,h2⟩=>by subst e1 e2;simp only[jQ];exact rY λr hr q hq=>lk_row (λp q hp hq=>nW hp hq) (h1 r hr) (h2 q hq)
theorem xl {n:Nat} {ms:List Mx.D} (hn:n<=8) (hl:ms.length < 1000000) (h:∀m∈ms,tf (cg n) m):gA ms=true:=by
 refine rd .tt hl (cy λd hd=>?_) (λd hd=>?_) λd hd e he=>lk_row (λp q hp hq=>nW hp hq) (h d hd) (h e he)
 ·obtain⟨it,c,rfl,hi⟩:=h d hd;have:=cw (n:=4 * n + 2) (λd hd=>bG hd) rfl hi;simp[Mx.D.dep,Mx.D.bX]
  lia
 ·obtain⟨it,c,rfl,hi⟩:=h d hd;rcases hi with ⟨x,rfl⟩ | ⟨x,ps,rfl,_⟩ <;> rfl
theorem kh {n:Nat} {ms:List Mx.D} (hn:n<=8) (hl:ms.length < 1000000) (h:∀m∈ms,lY (cg n) m):gA ms=true:=by
 refine rd .ts hl (cy λd hd=>?_) (λd hd=>?_) λd hd e he=>uv (λp q hp hq=>nW hp hq) (h d hd) (h e he)
 ·have:=cw (n:=4 * n + 2) (λd hd=>bG hd) rfl (h d hd)
  lia
 ·rcases h d hd with ⟨x,rfl⟩ | ⟨x,ps,rfl,_⟩ <;> rfl
theorem xm {ys:List Str} (hl:ys.length < 1000000):gA (ys.map Mx.D.str)=true:=by
 refine rd .s (by simpa using hl) (cy λd hd=>?_) (λd hd=>?_) λd hd e he=>?_
 ·obtain⟨y,_,rfl⟩:=QU.mp hd;simp[Mx.D.dep]
 ·obtain⟨y,_,rfl⟩:=QU.mp hd;rfl
 ·obtain⟨y,_,rfl⟩:=QU.mp hd;obtain⟨z,_,rfl⟩:=QU.mp he;simp[jQ]
noncomputable def wN:Ts:=(.cons (.ifs (.and (.cmp .NotEq (.mvr 1) (.lst .nil)) (.cmp .Eq (.idx (.idx (.mvr 1) (.neg (.con (.int 1)))) (.con (.int 0))) (.var 2))) (.cons (.vY 1 (.neg (.con (.int 1))) (.tup (.cons (.var 2) (.cons (.bin .Add (.idx (.idx (.mvr 1) (.neg (.con (.int 1)))) (.con (.int 1))) (.var 3)) .nil)))) .nil) (.cons (.app 1 (.tup (.cons (.var 2) (.cons (.var 3) .nil)))) .nil)) .nil)
noncomputable def tv:Ts:=(.cons (.asgM 1 (.lst .nil)) (.cons (.fr (.tp [2,3]) (.seq (.bi .sorted (.cons (.var 0) .nil))) wN) (.cons (.ret (.bi .tuple (.cons (.mvr 1) .nil))) .nil)))
theorem fI {ds:List Dt} {d:Dt}:dk (.lst (ds++[d])) (.int (-1))= .ok d:=by show vf (ds++[d]) (-1)=_;unfold vf;rw[Mx.pe]
theorem A9 {n:Nat}:mG (n + 1) (-1)=some n:=by
 unfold mG;rw[if_neg (by decide),if_pos (by lia)];congr 1
 lia
theorem ne_nil {ds:List Dt} {d:Dt} (h1:oj (ds++[d])=true) (h2:rj (ds++[d]) < 100):de .NotEq (.lst (ds++[d])) (.lst [])= .ok true:=by show ag (gd (.lst (ds++[d])) (.lst [])) (.ok (!bT (.lst (ds++[d])) (.lst [])))=_;rw[show gd (.lst (ds++[d])) (.lst [])=true by simp[gd,pl,oj,dp,h1];lia,guard_true];cases ds <;> simp[bT,b9]
theorem eq_nil {ds:List Dt} {d:Dt} (h1:oj (ds++[d])=true) (h2:rj (ds++[d]) < 100):de .Eq (.lst (ds++[d])) (.lst [])= .ok false:=by show ag (gd (.lst (ds++[d])) (.lst [])) (.ok (bT (.lst (ds++[d])) (.lst [])))=_;rw[show gd (.lst (ds++[d])) (.lst [])=true by simp[gd,pl,oj,dp,h1];lia,guard_true];cases ds <;> simp[bT,b9]
theorem AB {n:Nat} {r:Mx.D} (h:tf (cg n) r):Mx.D.dep r<=4 * n + 3:=by
 obtain⟨it,c,rfl,hi⟩:=h;have:=cw (n:=4 * n + 2) (λd hd=>bG hd) rfl hi;simp[Mx.D.dep,Mx.D.bX]
 lia
theorem kN {α:Type}:∀l:List α,l=[]\/∃a x,l=a++[x]
 | []=> .inl rfl
 | x::l=> .inr ⟨(x::l).dropLast,(x::l).getLast (by simp),(List.dropLast_concat_getLast (by simp)).symm⟩
theorem BO {α:Type} (a:List α) (x y:α) {n:Nat} (h:n=a.length):(a++[x]).set n y=a++[y]:=by subst h;simp
theorem AJ {ig:Nat} (hf:fs[ig]?=some ⟨1,4,false,tv⟩) {N n:Nat} (hN:1<=N) (hn:n<=8) {ms:List Mx.D} (hl:ms.length < 1000000) (h:∀m∈ms,tf (cg n) m):∃rs,aF fs N ig [.lst (aa ms)] none= .ok (.tup (aa rs),none)/\rs.length<=ms.length/\∀r∈rs,tf (cg n) r:=by
 have cW:lim=1000000:=rfl;have hs:=(iW (xl hn hl h)).1;have rL:(aS ms).length=ms.length:=(bI ms).length_eq;have loop:=cA (S:=none) (tg:= .tp [2,3]) (body:=aO (aF fs (N - 1)) wN) (ds:=aa (aS ms))
  (ρ:=[some (.lst (aa ms)),some (.lst []),none,none])
  (λpre ρ=>∃rs a b,rs.length<=pre.length/\(∀r∈rs,tf (cg n) r)/\ρ=[some (.lst (aa ms)),some (.lst (aa rs)),a,b]) ⟨[],none,none,Qq _,by simp,rfl⟩ (by
   rintro pre x post ρ e ⟨rs,a,b,Jv,hr,rfl⟩;obtain⟨p,y,q,e1,rfl,rfl,rfl⟩:=lg e;have hy:y∈ms:=bx.mp (by rw[e1];simp);obtain⟨it,c,rfl,hi⟩:=h y hy;have gG:p.length < ms.length:=by rw[<-rL,e1];simp
   rw[ab] at Jv;rcases kN rs with rfl | ⟨mP,r0,rfl⟩
   ·refine⟨[some (.lst (aa ms)),some (.lst []),some (ofD it),some (.int c)],_,by simp[ofD,aa,cM,dX],lO (S1:=none) rfl (cG (ds:=[]) (d:= .tup [ofD it,.int c]) (S1:=none) rfl (by simp only[RX]) rfl (by simp) rfl),[.tup [it,.int c]],some (ofD it),some (.int c),by simp,?_,by simp[ofD,aa]⟩;intro r cX;rw[QT] at cX;subst cX;exact⟨it,c,rfl,hi⟩
   ·obtain⟨rO,c0,rfl,FG⟩:=hr r0 (by simp);have x6:Mx.D.bX (mP++[.tup [rO,.int c0]])<=4 * n + 3:=cy λd hd=>AB (hr d hd)
    have lN:de .NotEq (.lst (aa mP++[.tup [ofD rO,.int c0]])) (.lst [])= .ok true:=by
     have e0:aa mP++[.tup [ofD rO,.int c0]]=aa (mP++[.tup [rO,.int c0]]):=by rw[ar];simp[ofD,aa]
     exact ne_nil (by rw[e0];exact om _) (by rw[e0,iX];lia)
    have Ox:=cw (n:=4 * n + 2) (λd hd=>bG hd) rfl FG;have hq:=tM (a:=rO) (b:=it) (by lia);have el:aa (mP++[.tup [rO,.int c0]])=aa mP++[.tup [ofD rO,.int c0]]:=by rw[ar];simp[ofD,aa]
    rw[el];have Li:((aa mP++[Dt.tup [ofD rO,.int c0]]).set mP.length (.tup [ofD it,.int (c0 + c)]))=aa (mP++[.tup [it,.int (c0 + c)]]):=by rw[ar,BO (aa mP) _ _ (ab mP).symm];simp[ofD,aa]
    by_cases heq:rO=it
    ·rw[QO heq] at hq;refine⟨[some (.lst (aa ms)),some (.lst (aa mP++[.tup [ofD rO,.int c0]])),some (ofD it),some (.int c)],_,by simp[ofD,aa,cM,dX],sr (S1:=none) (by simp only[RX,lN,fI,hq,if_true]) (nx (tS (ds:=aa mP++[.tup [ofD rO,.int c0]]) (d:= .tup [ofD it,.int (c0 + c)]) (S1:=none) (S2:=none) (n:= -1) (j:=mP.length) rfl (by simp only[RX,fI]) (by simp only[RX]) rfl (by rw[QB,ab];exact A9)) rfl),mP++[.tup [it,.int (c0 + c)]],some (ofD it),some (.int c),by simp[ab] at Jv ⊢;lia,?_,by rw[Li];rfl⟩;intro r cX;rcases QH.mp cX with cX | cX
     ·exact hr r (by simp[cX])
     ·rw[QT] at cX;subst cX;exact⟨it,_,rfl,hi⟩
    ·rw[QK heq] at hq;refine⟨[some (.lst (aa ms)),some (.lst (aa mP++[.tup [ofD rO,.int c0]])),some (ofD it),some (.int c)],_,by simp[ofD,aa,cM,dX],lO (S1:=none) (by simp only[RX,lN,fI,hq,if_true]) (cG (ds:=aa mP++[.tup [ofD rO,.int c0]]) (d:= .tup [ofD it,.int c]) (S1:=none) rfl (by simp only[RX]) rfl (by simp[ab] at Jv ⊢;lia) rfl),mP++[.tup [rO,.int c0]]++[.tup [it,.int c]],some (ofD it),some (.int c),by simp[ab] at Jv ⊢;lia,?_,?_⟩
     ·intro r cX;rcases QH.mp cX with cX | cX
      ·exact hr r cX
      ·rw[QT] at cX;subst cX;exact⟨it,_,rfl,hi⟩
     ·rw[ar (mP++_),el];simp[ofD,aa])
 obtain⟨ρ1,bc,rs,a,b,h1,h2,rfl⟩:=loop;rw[ab,rL] at h1;refine⟨rs,?_,h1,h2⟩;refine aA hf hN rfl ?_;show fin (aO (aF fs (N - 1)) tv [some (.lst (aa ms)),none,none,none] none)=_;exact bu (d:= .lst []) (S1:=none) rfl rfl (bC (ds:=aa (aS ms)) (S1:=none) (by simp only[RX,hs]) rfl bc (au (by simp only[RX])))
variable {fs:List Fn}
theorem AE {F:FT} {c:C} {ρ:aj} {S S1:Sx} {d:Dt} {b:Bool} (h:ev F c ρ S= .ok (d,S1)) (hd:lI d=true):(b||iY F (.seq c) ρ S)=true:=by
 have:iY F (.seq c) ρ S=true:=by unfold iY;rw[h];exact hd
 rw[this,Bool.or_true]
theorem kn {f:Dt->Sx->R (List Dt×Sx)} {S:Sx} (Q:Mx.D->Prop):∀{ds:List Dt},(∀x∈ds,∃m,f x S= .ok ([ofD m],S)/\Q m)->∃ms,a9 f ds S= .ok (aa ms,S)/\ms.length=ds.length/\∀m∈ms,Q m
 | [],_=>⟨[],by simp[a9,aa],rfl,by simp⟩
 | x::ds,h=>by
  obtain⟨m,h1,h2⟩:=h x Qr;obtain⟨ms,k1,k2,k3⟩:=kn Q λy hy=>h y (Qo _ hy)
  refine⟨m::ms,?_,by simp[k2],λa ha=>?_⟩
  ·rw[a9,h1,R.ao,k1,R.ao];simp[aa]
  ·rcases Qx.mp ha with rfl | ha
   ·exact h2
   ·exact k3 a ha
theorem BK {n:Nat} {x:Dt} (h:x∈bj 0 n):∃i:Nat,i < n/\x= .int i:=by unfold bj at h;rw[QU] at h;obtain⟨i,h1,rfl⟩:=h;exact⟨i,Q5.mp h1,by simp⟩
noncomputable def wR (ip:Nat):Ts:=(.cons (.app 6 (.tup (.cons (.var 11) (.cons (.bin .Add (.con (.int 1)) (.bin .FloorDiv (.call ip (.cons (.var 0) (.cons (.bin .Add (.var 8) (.con (.int 3))) (.cons (.con (.int 4)) .nil))) []) (.con (.int 3)))) .nil)))) .nil)
noncomputable def wQ (ix im:Nat):C:=(.call im (.cons (.var 5) (.cons (.call ix (.cons (.var 2) (.cons (.bin .Add (.con (.int 5)) (.var 1)) .nil)) []) (.cons (.bin .Sub (.var 3) (.con (.int 1))) (.cons (.var 4) (.cons (.var 6) (.cons (.con (.int 2)) .nil)))))) [])
noncomputable def B7 (ip ix im:Nat):Ts:=(.cons (.ifs (.and (.cmp .Lt (.var 9) (.con (.int 2))) (.cmp .Gt (.bi .len (.cons (.var 3) .nil)) (.con (.int 0)))) (.cons (.asg 11 (.tup (.cons (.con (.str "any")) (.cons (.idx (.var 3) (.call ip (.cons (.var 0) (.cons (.bin .Add (.var 8) (.con (.int 1))) (.cons (.bi .len (.cons (.var 3) .nil)) .nil))) [])) .nil)))) .nil) (.cons (.ifs (.and (.cmp .Eq (.var 9) (.con (.int 3))) (.cmp .Gt (.var 2) (.con (.int 0)))) (.cons (.asg 12 (.bin .Add (.con (.int 1)) (.call ip (.cons (.var 0) (.cons (.bin .Add (.var 8) (.con (.int 2))) (.cons (.con (.int 3)) .nil))) []))) (.cons (.asg 13 (.comp [none,none,some 8,some 2,some 3,some 0,some 4] (.rng1 (.var 12)) (.nm 1) .nil (wQ ix im))) (.cons (.asg 11 (.tup (.cons (.con (.str "of")) (.cons (.var 10) (.cons (.bi .tuple (.cons (.var 13) .nil)) .nil))))) .nil))) .nil) .nil)) (wR ip))
noncomputable def B6 (ip ix im:Nat):Ts:=(.cons (.asg 8 (.call ix (.cons (.var 1) (.cons (.var 7) .nil)) [])) (.cons (.asg 9 (.call ip (.cons (.var 0) (.cons (.var 8) (.cons (.con (.int 4)) .nil))) [])) (.cons (.asg 10 (.idx (.var 4) (.call ip (.cons (.var 0) (.cons (.bin .Add (.var 8) (.con (.int 1))) (.cons (.con (.int 3)) .nil))) []))) (.cons (.asg 11 (.tup (.cons (.con (.str "of")) (.cons (.var 10) (.cons (.tup .nil) .nil))))) (B7 ip ix im)))))
noncomputable def C3 (ip ix ig im:Nat):Ts:=(.cons (.asgM 6 (.lst .nil)) (.cons (.fr (.nm 7) (.rng1 (.call ip (.cons (.var 0) (.cons (.var 1) (.cons (.bin .Add (.var 5) (.con (.int 1))) .nil))) [])) (B6 ip ix im)) (.cons (.ret (.bi .tuple (.cons (.comp [none,none,none] (.seq (.call ig (.cons (.mvr 6) .nil) [])) (.tp [1,2]) .nil (.tup (.cons (.var 1) (.cons (.bi .min2 (.cons (.con (.int 3)) (.cons (.var 2) .nil))) .nil)))) .nil))) .nil)))
theorem qA {a b c:Str} {k:Nat} (h:k < 3):∃x,dk (.lst [.str a,.str b,.str c]) (.int k)= .ok (.str x):=by
 match k,h with
 | 0,_=>exact⟨a,rfl⟩
 | 1,_=>exact⟨b,rfl⟩
 | 2,_=>exact⟨c,rfl⟩
theorem D4 {ip ix ig im:Nat} (hp:gV fs ip) (hx:fs[ix]?=some ⟨2,2,false,tE⟩) (hg:fs[ig]?=some ⟨1,4,false,tv⟩) (hf:fs[im]?=some ⟨6,14,false,C3 ip ix ig im⟩) {ns:List Int} {a b c a' b' c':Str}:
  ∀(deep:Nat),deep<=6->∀{N k most:Nat},deep + 3<=N->k < 1000000->most<=4->∃rs,aF fs N im [.br ns,.int k,.int deep,.lst [.str a,.str b,.str c],.lst [.str a',.str b',.str c'],.int most] none= .ok (.tup (aa rs),none)/\cg (deep + 1) (.tup rs):=λdeep=>by
  induction deep using Nat.strongRecOn with | _ deep ih=>?_
  intro hdp N k most hN hk hmost;have cW:lim=1000000:=rfl;generalize GZ:Dt.lst [.str a,.str b,.str c]=nm;generalize hsg:Dt.lst [.str a',.str b',.str c']=sg;have P:=λ(k many:Nat) (h1:k < 1000000) (h2:0 < many)=>jY hp (n:=N - 1) (by lia) (ns:=ns) h1 h2
  have jA:=cH (ns:=ns) (k:=k) (many:=most + 1) (by lia);have loop:=cA (S:=none) (tg:= .nm 7) (ds:=bj 0 (bH ns k (most + 1))) (ρ:=[some (.br ns),some (.int k),some (.int deep),some nm,some sg,some (.int most),some (.lst []),none,none,none,none,none,none,none])
   (body:=aO (aF fs (N - 1)) (B6 ip ix im))
   (λpre ρ=>∃ms x7 x8 x9 Fj Fk Af Ag,ms.length=pre.length/\(∀m∈ms,tf (cg deep) m)/\ρ=[some (.br ns),some (.int k),some (.int deep),some nm,some sg,some (.int most),some (.lst (aa ms)),x7,x8,x9,Fj,Fk,Af,Ag])
   ⟨[],none,none,none,none,none,none,none,rfl,by simp,by simp[aa]⟩ (by
    rintro pre x post ρ e ⟨ms,x7,x8,x9,Fj,Fk,Af,Ag,AX,hr,rfl⟩;obtain⟨h1,rfl⟩:=dE e;have NC:=uy hx (n:=N - 1) (by lia) (k:=k) (j:=pre.length);have Pe:=pZ (k:=k) (j:=pre.length);generalize jt k pre.length=at' at NC Pe;have p0:=P at' 4 (by lia) (by decide);have p1:=P (at' + 1) 3 (by lia) (by decide);have l1:=cH (ns:=ns) (k:=at' + 1) (many:=3) (by decide);have p2:=P (at' + 2) 3 (by lia) (by decide);have l2:=cH (ns:=ns) (k:=at' + 2) (many:=3) (by decide);have p3:=P (at' + 3) 4 (by lia) (by decide);generalize bH ns at' 4=kd at p0;generalize bH ns (at' + 1) 3=v1 at p1 l1;generalize bH ns (at' + 2) 3=v2 at p2 l2;generalize bH ns (at' + 3) 4=v3 at p3;have q0:aF fs (N - 1) ip [.br ns,.int at',.int 4] none= .ok (.int kd,none):=p0;have q1:aF fs (N - 1) ip [.br ns,.int ((at':Int) + 1),.int 3] none= .ok (.int v1,none):=p1;have q2:aF fs (N - 1) ip [.br ns,.int ((at':Int) + 2),.int 3] none= .ok (.int v2,none):=p2;have q3:aF fs (N - 1) ip [.br ns,.int ((at':Int) + 3),.int 4] none= .ok (.int v3,none):=p3;obtain⟨wA,Ac⟩:=qA (a:=a') (b:=b') (c:=c') l1;obtain⟨LM,rJ⟩:=qA (a:=a) (b:=b) (c:=c) l1;rw[hsg] at Ac;rw[GZ] at rJ;have ln:d5 .len [nm]= .ok (.int 3):=by rw[<-GZ];rfl
    have fd:=yN (i:=v3) (j:=3) (by decide) (by decide);have tl:∀(it:Mx.D) (Fw Fx:Option Dt),lY (cg deep) it->∃ρ2,aO (aF fs (N - 1)) (wR ip) [some (.br ns),some (.int k),some (.int deep),some nm,some sg,some (.int most),some (.lst (aa ms)),some (.int pre.length),some (.int at'),some (.int kd),some (.str wA),some (ofD it),Fw,Fx] none= .ok (.next,ρ2,none)/\
      ∃ms x7 x8 x9 Fj Fk Af Ag,ms.length=(pre++[Dt.int pre.length]).length/\(∀m∈ms,tf (cg deep) m)/\ρ2=[some (.br ns),some (.int k),some (.int deep),some nm,some sg,some (.int most),some (.lst (aa ms)),x7,x8,x9,Fj,Fk,Af,Ag]:=by
     intro it Fw Fx hi;refine⟨_,cG (ds:=aa ms) (d:= .tup [ofD it,.int (1 + v3 / 3)]) (S1:=none) rfl (by simp only[RX,q3,fd]) rfl (by rw[ab];lia) rfl,ms++[.tup [it,.int (1 + v3 / 3)]],some (.int pre.length),some (.int at'),some (.int kd),some (.str wA),some (ofD it),Fw,Fx,by simp[AX],λm hm=>?_,?_⟩
     ·rcases QH.mp hm with hm | hm
      ·exact hr m hm
      ·rw[QT] at hm;subst hm;exact⟨it,_,rfl,hi⟩
     ·rw[ar];simp[ofD,aa]
    suffices hh:∃it Fw Fx,lY (cg deep) it/\∀r,aO (aF fs (N - 1)) (wR ip) [some (.br ns),some (.int k),some (.int deep),some nm,some sg,some (.int most),some (.lst (aa ms)),some (.int pre.length),some (.int at'),some (.int kd),some (.str wA),some (ofD it),Fw,Fx] none=r->
      aO (aF fs (N - 1)) (B7 ip ix im) [some (.br ns),some (.int k),some (.int deep),some nm,some sg,some (.int most),some (.lst (aa ms)),some (.int pre.length),some (.int at'),some (.int kd),some (.str wA),some (.tup [.str "of",.str wA,.tup []]),Af,Ag] none=r by
     obtain⟨it,Fw,Fx,hi,hh⟩:=hh;obtain⟨ρ2,t1,t2⟩:=tl it Fw Fx hi;exact⟨[some (.br ns),some (.int k),some (.int deep),some nm,some sg,some (.int most),some (.lst (aa ms)),some (.int pre.length),x8,x9,Fj,Fk,Af,Ag],ρ2,rfl,cm (d:= .int at') (S1:=none) (by simp only[RX,NC]) rfl (cm (d:= .int kd) (S1:=none) (by simp only[RX,q0]) rfl (cm (d:= .str wA) (S1:=none) (by simp only[RX,q1,Ac]) rfl (cm (d:= .tup [.str "of",.str wA,.tup []]) (S1:=none) (by simp only[RX]) rfl (hh _ t1)))),t2⟩
    by_cases c1:(kd:Int) < 2
    ·refine⟨fz LM,Af,Ag,.inl ⟨LM,rfl⟩,λr cX=>?_⟩;refine sr (S1:=none) (by simp only[RX,ln,QO c1,if_true];rfl) (cm (d:=ofD (fz LM)) (S1:=none) (by simp only[RX,ln,q1,rJ];simp[fz,ofD,aa]) rfl cX)
    ·by_cases c2:(kd:Int)=3/\(0:Int) < deep
     ·have PY:1<=deep:=by lia
      have e1:((1 + v2:Nat):Int)=1 + (v2:Int):=by lia
      obtain⟨qs,k1,k2,k3⟩:=kn (f:=bJ (.nm 1) (cV (aF fs (N - 1)) .nil) (du (aF fs (N - 1)) (wQ ix im)) [none,none,some (.int at'),some (.int deep),some nm,some (.br ns),some sg]) (S:=none) (ds:=bj 0 (1 + v2)) (cg deep) (by
       intro x pN;obtain⟨i,hi,rfl⟩:=BK pN;have Pf:=uy hx (n:=N - 1) (by lia) (k:=at') (j:=5 + i);have Qe:=pZ (k:=at') (j:=5 + i);obtain⟨rs,r1,r2⟩:=ih (deep - 1) (by lia) (by lia) (N:=N - 1) (k:=jt at' (5 + i)) (most:=2) (by lia) (by lia) (by lia);rw[GZ,hsg] at r1;refine⟨.tup rs,dO (ρ1:=[none,some (.int i),some (.int at'),some (.int deep),some nm,some (.br ns),some sg]) rfl ?_ rfl,by rw[show deep=deep - 1 + 1 by lia];exact r2⟩;have Pg:aF fs (N - 1) ix [.int at',.int (5 + (i:Int))] none= .ok (.int (jt at' (5 + i)),none):=Pf;have r3:aF fs (N - 1) im [.br ns,.int (jt at' (5 + i)),.int ((deep:Int) - 1),nm,sg,.int 2] none= .ok (.tup (aa rs),none):=by rw[show (deep:Int) - 1=((deep - 1:Nat):Int) by lia];exact r1
       simp only[wQ,RX,Pg,r3,ofD])
      refine⟨ofT wA qs,some (.int (1 + v2)),some (.lst (aa qs)),.inr ⟨wA,qs,rfl,by rw[k2];simp[bj];lia,k3⟩,λr cX=>?_⟩;refine lO (S1:=none) (by simp only[RX,QK c1];rfl) (sr (S1:=none) (by simp only[RX,c2.1,QO c2.2];rfl) ?_);refine cm (d:= .int (1 + v2)) (S1:=none) (by simp only[RX,q2]) rfl (cm (d:= .lst (aa qs)) (S1:=none) (bB (ds:=bj 0 (1 + v2)) (S1:=none) (eR (n:=1 + v2) (by simp only[RX];rw[<-e1]) (by lia)) (by simp[bj];lia) rfl k1) rfl ?_);exact cm (d:=ofD (ofT wA qs)) (S1:=none) (by simp only[RX];simp[ofT,ofD,aa]) rfl cX
     ·refine⟨ofT wA [],Af,Ag,.inr ⟨wA,[],rfl,by simp,by simp⟩,λr cX=>?_⟩;have c3:(((kd:Int)==3)&&decide ((0:Int) < deep))=false:=by
       cases h:((kd:Int)==3) with
       | false=>rfl
       | true=>have:=QI h;rw[Bool.true_and];exact QK λz=>c2 ⟨this,z⟩
      refine lO (S1:=none) (by simp only[RX,QK c1];rfl) (lO (S1:=none) ?_ ?_)
      ·simp only[RX];cases h:((kd:Int)==3) with
       | false=>rfl
       | true=>rw[h,Bool.true_and] at c3;rw[if_pos rfl,c3]
      ·exact cX)
  obtain⟨ρ1,bc,ms,x7,x8,x9,Fj,Fk,Af,Ag,AX,hr,rfl⟩:=loop;have P4:ms.length<=most:=by rw[AX];simp[bj];lia
  obtain⟨rs,g1,g2,g3⟩:=AJ hg (N:=N - 1) (by lia) (n:=deep) (by lia) (ms:=ms) (by lia) hr;have Cm:ev (aF fs (N - 1)) (.call ig (.cons (.mvr 6) .nil) []) [some (.br ns),some (.int k),some (.int deep),some nm,some sg,some (.int most),some (.lst (aa ms)),x7,x8,x9,Fj,Fk,Af,Ag] none= .ok (.tup (aa rs),none):=by simp only[RX,g1]
  obtain⟨qs,k1,k2,k3⟩:=kn (f:=bJ (.tp [1,2]) (cV (aF fs (N - 1)) .nil) (du (aF fs (N - 1)) (.tup (.cons (.var 1) (.cons (.bi .min2 (.cons (.con (.int 3)) (.cons (.var 2) .nil))) .nil)))) [none,none,none]) (S:=none) (ds:=aa rs) (tf (cg deep)) (by
   intro x pN;obtain⟨m,hm,rfl⟩:=yE pN;obtain⟨it,c,rfl,hi⟩:=g3 m hm;exact⟨.tup [it,.int (if c < 3 then c else 3)],dO (ρ1:=[none,some (ofD it),some (.int c)]) (by simp[ofD,aa,cM,dX]) (by simp only[RX];simp[ofD,aa]) rfl,it,_,rfl,hi⟩)
  refine⟨qs,aA hf (by lia) rfl ?_,qs,rfl,by rw[k2,ab];lia,k3⟩;show fin (aO (aF fs (N - 1)) (C3 ip ix ig im) [some (.br ns),some (.int k),some (.int deep),some nm,some sg,some (.int most),none,none,none,none,none,none,none,none] none)=_;refine bu (d:= .lst []) (S1:=none) rfl rfl (bC (ds:=bj 0 (bH ns k (most + 1))) (S1:=none) (eR (by simp only[RX];exact congrArg (R.bind · _) (P k (most + 1) (by lia) (by lia))) (by lia)) rfl bc (au ?_));rw[show∀(e:C) (ρ:aj),ev (aF fs (N - 1)) (.bi .tuple (.cons e .nil)) ρ none=(ev (aF fs (N - 1)) e ρ none).bind (λx=>(d5 .tuple [x.1]).bind λd=> .ok (d,x.2)) from λe ρ=>by simp only[RX];cases ev (aF fs (N - 1)) e ρ none <;> rfl,bB (ds:=aa rs) (S1:=none) (fJ Cm rfl) (by rw[ab];lia) (AE Cm (yG (.tup rs))) k1];rfl
variable {fs:List Fn}
noncomputable def tw (ic:Nat):Ts:=(.cons (.app 3 (.tup (.cons (.idx (.idx (.var 2) (.var 4)) (.con (.int 0))) (.cons (.bin .Mult (.idx (.idx (.var 2) (.var 4)) (.con (.int 1))) (.bin .Add (.con (.int 1)) (.bin .Mod (.call ic (.cons (.var 0) (.cons (.bin .Add (.var 1) (.var 4)) .nil)) []) (.bin .Pow (.con (.int 10)) (.con (.int 8)))))) .nil)))) .nil)
noncomputable def qW (ic:Nat):Ts:=(.cons (.asgM 3 (.lst .nil)) (.cons (.fr (.nm 4) (.rng1 (.bi .len (.cons (.var 2) .nil))) (tw ic)) (.cons (.ret (.bi .tuple (.cons (.mvr 3) .nil))) .nil)))
theorem pG {ic ig:Nat} (hc:fs[ic]?=some ⟨2,3,false,ph⟩) (hf:fs[ig]?=some ⟨3,5,false,qW ic⟩) {N k n:Nat} (hN:2<=N) (hk:k < 100000) {ns:List Int} {rs:List Mx.D} (h:cg n (.tup rs)):∃qs,aF fs N ig [.br ns,.int k,.tup (aa rs)] none= .ok (.tup (aa qs),none)/\cg n (.tup qs):=by
 have cW:lim=1000000:=rfl;obtain⟨n,rfl⟩:∃m,n=m + 1:=by cases n with | zero=>exact h.elim | succ m=>exact⟨m,rfl⟩
 obtain⟨mP,e,hl,hr⟩:=h;cases e;have loop:=cA (S:=none) (tg:= .nm 4) (ds:=bj 0 rs.length) (ρ:=[some (.br ns),some (.int k),some (.tup (aa rs)),some (.lst []),none])
  (body:=aO (aF fs (N - 1)) (tw ic))
  (λpre ρ=>∃ms x,ms.length=pre.length/\(∀m∈ms,tf (cg n) m)/\ρ=[some (.br ns),some (.int k),some (.tup (aa rs)),some (.lst (aa ms)),x]) ⟨[],none,rfl,by simp,by simp[aa]⟩ (by
   rintro pre x post ρ e ⟨ms,x,AX,hm,rfl⟩;obtain⟨h1,rfl⟩:=dE e;obtain⟨it,c,e1,hi⟩:=hr rs[pre.length] (List.getElem_mem h1);have lG:=(d6 (ds:=aa rs) (k:=pre.length) (d:= .tup [ofD it,.int c]) (by rw[aK,QE,QJ h1,e1];simp[ofD,aa])).1;have Cn:=tJ hc (n:=N - 1) (by lia) (ns:=ns) (k:=k + pre.length) (by lia);generalize hV ns (k + pre.length)=y at Cn;have K0:aF fs (N - 1) ic [.br ns,.int ((k:Int) + pre.length)] none= .ok (.int y,none):=Cn;have pw:qa .Pow (.int 10) (.int 8)= .ok (.int 100000000):=rfl;have m1:=c9 (i:=y) (j:=100000000) (by decide);have r1:=QW y (b:=100000000) (by decide);have r2:=QX y (b:=100000000) (by decide);have m2:=bD (i:=c) (j:=1 + y % 100000000) (.inr (by lia));refine⟨_,_,rfl,cG (ds:=aa ms) (d:= .tup [ofD it,.int (c * (1 + y % 100000000))]) (S1:=none) rfl (by simp only[RX,lG,K0,pw,m1,m2]) rfl (by rw[ab];lia) rfl,ms++[.tup [it,.int (c * (1 + y % 100000000))]],some (.int pre.length),by simp[AX],λm hm'=>?_,?_⟩
   ·rcases QH.mp hm' with hm' | hm'
    ·exact hm m hm'
    ·rw[QT] at hm';subst hm';exact⟨it,_,rfl,hi⟩
   ·rw[ar];simp[ofD,aa])
 obtain⟨ρ1,bc,ms,x,AX,hm,rfl⟩:=loop;refine⟨ms,aA hf (by lia) rfl ?_,ms,rfl,by rw[AX];simp[bj];lia,hm⟩;show fin (aO (aF fs (N - 1)) (qW ic) [some (.br ns),some (.int k),some (.tup (aa rs)),none,none] none)=_;exact bu (d:= .lst []) (S1:=none) rfl rfl (bC (ds:=bj 0 rs.length) (S1:=none) (eR (n:=rs.length) (by simp only[RX,ab]) (by lia)) rfl bc (au (by simp only[RX])))
noncomputable def aQ:Mx.D->List Mx.D
 | .tup [_,_,.tup ps]=>ps
 | _=>[]
noncomputable def jD (f:Mx.D->List Mx.D):Mx.D->List Mx.D
 | .tup [it,_]=>it::(aQ it).flatMap f
 | _=>[]
noncomputable def bz:Nat->Mx.D->List Mx.D
 | n + 1,.tup rs=>rs.flatMap (jD (bz n))
 | _,_=>[]
noncomputable def jG:Nat->Nat
 | 0=>0
 | n + 1=>4 * (1 + 3 * jG n)
theorem cz {α β:Type} {f:α->List β} {k:Nat}:∀{l:List α},(∀x∈l,(f x).length<=k)->(l.flatMap f).length<=l.length * k
 | [],_=>by simp
 | x::l,h=>by
  have h1:=h x Qr;have h2:=cz λy hy=>h y (Qo _ hy)
  rw[List.flatMap_cons,QB,QD,Nat.succ_mul]
  lia
theorem uO {Q:Mx.D->Prop} {f:Mx.D->List Mx.D} {k:Nat} {r:Mx.D} (hf:∀d,Q d->(f d).length<=k) (h:tf Q r):(jD f r).length<=1 + 3 * k:=by
 obtain⟨it,c,rfl,⟨x,rfl⟩ | ⟨x,ps,rfl,hl,hp⟩⟩:=h
 ·simp[jD,fz,aQ]
 ·have:=cz (f:=f) (k:=k) λp kI=>hf p (hp p kI)
  have h2:ps.length * k<=3 * k:=Nat.mul_le_mul_right _ hl;simp[jD,ofT,aQ] at this ⊢
  lia
theorem bo:∀{n:Nat} {d:Mx.D},cg n d->(bz n d).length<=jG n
 | 0,d,h=>h.elim
 | n + 1,d,⟨rs,e,hl,h⟩=>by
  subst e;have:=cz (f:=jD (bz n)) (k:=1 + 3 * jG n) λr hr=>uO (λd hd=>bo hd) (h r hr)
  have h2:rs.length * (1 + 3 * jG n)<=4 * (1 + 3 * jG n):=Nat.mul_le_mul_right _ hl;simp only[bz,jG]
  lia
theorem nq:∀{n m:Nat},n<=m->jG n<=jG m
 | 0,m,_=>Nat.zero_le _
 | n + 1,0,h=>by lia
 | n + 1,m + 1,h=>by
  have:=nq (n:=n) (m:=m) (by lia);simp only[jG]
  lia
theorem cg.up:∀{n:Nat} {d:Mx.D},cg n d->cg (n + 1) d
 | 0,d,h=>h.elim
 | n + 1,d,⟨rs,e,hl,h⟩=>⟨rs,e,hl,λr hr=>by
  obtain⟨it,c,rfl,hi⟩:=h r hr;refine⟨it,c,rfl,hi.imp id ?_⟩;rintro⟨x,ps,rfl,h1,h2⟩;exact⟨x,ps,rfl,h1,λp hp=>(h2 p hp).up⟩⟩
theorem iC:∀{n:Nat} {d it:Mx.D},cg (n + 1) d->it∈bz (n + 1) d->lY (cg n) it
 | n,d,it,⟨rs,e,hl,h⟩,hi=>by
  subst e;simp only[bz,List.mem_flatMap] at hi;obtain⟨r,hr,hi⟩:=hi;obtain⟨rO,c,rfl,Nl⟩:=h r hr;simp only[jD] at hi;rcases Qx.mp hi with rfl | hi
  ·exact Nl
  ·rw[List.mem_flatMap] at hi;obtain⟨p,hp,Cr⟩:=hi;rcases Nl with ⟨x,rfl⟩ | ⟨x,ps,rfl,h1,h2⟩
   ·simp[fz,aQ] at hp
   ·have kI:p∈ps:=by simpa [ofT,aQ] using hp
    have hF:=h2 p kI;cases n with
    | zero=>exact hF.elim
    | succ n=>refine(iC hF Cr).imp id ?_;rintro⟨y,qs,rfl,k1,k2⟩;exact⟨y,qs,rfl,k1,λp hp=>(k2 p hp).up⟩
noncomputable def kf:Ts:=(.cons (.ifs (.cmp .Eq (.idx (.var 0) (.con (.int 0))) (.con (.str "of"))) (.cons (.ret (.idx (.var 0) (.con (.int 2)))) .nil) .nil) (.cons (.ret (.tup .nil)) .nil))
theorem tq (x:Str):ofD (fz x)= .tup [.str "any",.str x]:=by simp[fz,ofD,aa]
theorem lP (x:Str) (ps:List Mx.D):ofD (ofT x ps)= .tup [.str "of",.str x,.tup (aa ps)]:=by simp[ofT,ofD,aa]
theorem yP {ip N:Nat} (hf:fs[ip]?=some ⟨1,1,false,kf⟩) (hN:1<=N) {Q:Mx.D->Prop} {it:Mx.D} (h:lY Q it):aF fs N ip [ofD it] none= .ok (.tup (aa (aQ it)),none):=by
 refine aA hf hN rfl ?_;rcases h with ⟨x,rfl⟩ | ⟨x,ps,rfl,_⟩
 ·rw[tq];show fin (aO (aF fs (N - 1)) kf [some (.tup [.str "any",.str x])] none)=_;exact ek (S1:=none) (by simp only[RX];rfl) (au (by simp[RX,fz,aQ,aa]))
 ·rw[lP];show fin (aO (aF fs (N - 1)) kf [some (.tup [.str "of",.str x,.tup (aa ps)])] none)=_;exact kC (S1:=none) (by simp only[RX];rfl) (au (by simp only[RX];rfl))
noncomputable def wO (ip ii:Nat):Ts:=(.cons (.asgM 1 (.lst .nil)) (.cons (.fr (.tp [2,3]) (.seq (.var 0)) (.cons (.app 1 (.var 2)) (.cons (.fr (.nm 4) (.seq (.call ip (.cons (.var 2) .nil) [])) (.cons (.xtd 1 (.call ii (.cons (.var 4) .nil) [])) .nil)) .nil))) (.cons (.ret (.mvr 1)) .nil)))
noncomputable def pj (ii:Nat):Ts:=(.cons (.ifs (.cmp .Eq (.idx (.var 2) (.con (.int 0))) (.con (.str "of"))) (.cons (.fr (.nm 4) (.seq (.idx (.var 2) (.con (.int 2)))) (.cons (.asgM 1 (.bin .Add (.mvr 1) (.call ii (.cons (.var 4) .nil) []))) .nil)) .nil) .nil) .nil)
noncomputable def tB (ii:Nat):Ts:=(.cons (.asgM 1 (.lst .nil)) (.cons (.fr (.tp [2,3]) (.seq (.var 0)) (.cons (.app 1 (.var 2)) (pj ii))) (.cons (.ret (.mvr 1)) .nil)))
theorem jV {a b:List Dt} (h:a.length + b.length<=lim):qa .Add (.lst a) (.lst b)= .ok (.lst (a++b)):=by show ag (decide (a.length + b.length<=lim)) _=_;rw[QO h];rfl
theorem p8 {a b:List Mx.D} (h:aa a=aa b):a=b:=by have:=f6 a;rw[h,f6] at this;exact(Option.some.inj this).symm
theorem i5 {tg:Tg} {body:aj->Sx->RS} {ds:List Mx.D} {ρ:aj} {S:Sx} (P:List Mx.D->aj->Prop) (h0:P [] ρ)
  (step:∀pre x post ρ,ds=pre++x::post->P pre ρ->∃ρ1 ρ2,cM tg (ofD x) ρ= .ok ρ1/\body ρ1 S= .ok (.next,ρ2,S)/\P (pre++[x]) ρ2):∃ρ',forL tg body (aa ds) ρ S= .ok (.next,ρ',S)/\P ds ρ':=by
 obtain⟨ρ',h1,p,h2,h3⟩:=cA (S:=S) (tg:=tg) (body:=body) (ds:=aa ds) (ρ:=ρ) (λpre ρ=>∃p,pre=aa p/\P p ρ) ⟨[],by simp[aa],h0⟩ (by
  rintro pre x post ρ e ⟨p,e0,hp⟩;obtain⟨p',y,q,e1,e2,rfl,rfl⟩:=lg e;have ep:p=p':=p8 (e0.symm.trans e2);subst ep;obtain⟨ρ1,ρ2,s1,s2,s3⟩:=step p y q ρ e1 hp;exact⟨ρ1,ρ2,s1,s2,p++[y],by rw[e2,ar];simp[aa],s3⟩)
 exact⟨ρ',h1,p8 h2▸h3⟩
theorem mF {body:Ts} {F:FT} {n:Nat} {rs:List Mx.D} (hn:jG (n + 1)<=100000) (hl:rs.length<=4) (h:∀r∈rs,tf (cg n) r)
  (step:∀(acc:List Mx.D) (it:Mx.D) (c:Int) (x:Option Dt),lY (cg n) it->acc.length<=4 * (1 + 3 * jG n)->∃y,aO F body [some (.tup (aa rs)),some (.lst (aa acc)),some (ofD it),some (.int c),x] none= .ok (.next,[some (.tup (aa rs)),some (.lst (aa (acc++jD (bz n) (.tup [it,.int c])))),some (ofD it),some (.int c),y],none)):
  fin (aO F (.cons (.asgM 1 (.lst .nil)) (.cons (.fr (.tp [2,3]) (.seq (.var 0)) body) (.cons (.ret (.mvr 1)) .nil))) [some (.tup (aa rs)),none,none,none,none] none)= .ok (.lst (aa (bz (n + 1) (.tup rs))),none):=by
 have loop:=i5 (S:=none) (tg:= .tp [2,3]) (ds:=rs) (ρ:=[some (.tup (aa rs)),some (.lst []),none,none,none]) (body:=aO F body)
  (λp ρ=>∃x y z,ρ=[some (.tup (aa rs)),some (.lst (aa (p.flatMap (jD (bz n))))),x,y,z]) ⟨none,none,none,by simp[aa]⟩ (by
   rintro p y q ρ e1 ⟨x2,x3,x4,rfl⟩;have hy:=h y (by rw[e1];simp);obtain⟨it,c,rfl,hi⟩:=hy;have hp:p.length<=4:=by
    have:=congrArg List.length e1;simp at this
    lia
   have hlen:(p.flatMap (jD (bz n))).length<=4 * (1 + 3 * jG n):=Qw (cz (k:=1 + 3 * jG n) λr hr=>uO (λd hd=>bo hd) (h r (by rw[e1];simp[hr]))) (Nat.mul_le_mul_right _ hp);obtain⟨y,hs⟩:=step (p.flatMap (jD (bz n))) it c x4 hi hlen;refine⟨[some (.tup (aa rs)),some (.lst (aa (p.flatMap (jD (bz n))))),some (ofD it),some (.int c),x4],_,by simp[ofD,aa,cM,dX],hs,some (ofD it),some (.int c),y,?_⟩;rw[List.flatMap_append];simp only[List.flatMap_cons,List.flatMap_nil,QY])
 obtain⟨ρ1,bc,x,y,z,rfl⟩:=loop;exact bu (d:= .lst []) (S1:=none) rfl rfl (bC (ds:=aa rs) (S1:=none) (by simp only[RX]) rfl bc (au (by simp only[RX];rfl)))
theorem kW {F:FT} {b:Ts} {n:Nat} {ps acc:List Mx.D} {d0 d2 d3:Option Dt} {x:Option Dt} (step:∀(acc:List Mx.D) (p:Mx.D),acc.length<=4 * (1 + 3 * jG n) + 1 + 3 * jG n->cg n p->aO F b [d0,some (.lst (aa acc)),d2,d3,some (ofD p)] none= .ok (.next,[d0,some (.lst (aa (acc++bz n p))),d2,d3,some (ofD p)],none))
  (hl:ps.length<=3) (ha:acc.length<=4 * (1 + 3 * jG n) + 1) (h:∀p∈ps,cg n p):∃y,forL (.nm 4) (aO F b) (aa ps) [d0,some (.lst (aa acc)),d2,d3,x] none= .ok (.next,[d0,some (.lst (aa (acc++ps.flatMap (bz n)))),d2,d3,y],none):=by
 have loop:=i5 (S:=none) (tg:= .nm 4) (ds:=ps) (ρ:=[d0,some (.lst (aa acc)),d2,d3,x]) (body:=aO F b)
  (λp ρ=>∃z,ρ=[d0,some (.lst (aa (acc++p.flatMap (bz n)))),d2,d3,z]) ⟨x,by simp⟩ (by
   rintro p y q ρ e1 ⟨x2,rfl⟩;have hp:p.length<=3:=by
    have:=congrArg List.length e1;simp at this
    lia
   have hlen:=cz (f:=bz n) (k:=jG n) (l:=p) λr hr=>bo (h r (by rw[e1];simp[hr]))
   have h3:p.length * jG n<=3 * jG n:=Nat.mul_le_mul_right _ hp;refine⟨_,_,rfl,step _ y (by rw[QB];lia) (h y (by rw[e1];simp)),some (ofD y),?_⟩;rw[List.flatMap_append,<-Qz];simp only[List.flatMap_cons,List.flatMap_nil,QY])
 obtain⟨ρ1,bc,z,rfl⟩:=loop;exact⟨z,bc⟩
theorem pQ {ip ii:Nat} (hp:fs[ip]?=some ⟨1,1,false,kf⟩) (hf:fs[ii]?=some ⟨1,5,false,wO ip ii⟩):∀{n:Nat} {N:Nat} {d:Mx.D},n<=4->n + 1<=N->cg n d->aF fs N ii [ofD d] none= .ok (.lst (aa (bz n d)),none)
 | 0,N,d,_,_,h=>h.elim
 | n + 1,N,d,hn,hN,⟨rs,e,hl,h⟩=>by
  subst e;have cW:lim=1000000:=rfl;have hb:jG (n + 1)<=100000:=Qw (nq hn) (by decide);have jK:4 * (1 + 3 * jG n)<=100000:=hb;refine aA hf (by lia) rfl (mF (body:= .cons (.app 1 (.var 2)) (.cons (.fr (.nm 4) (.seq (.call ip (.cons (.var 2) .nil) [])) (.cons (.xtd 1 (.call ii (.cons (.var 4) .nil) [])) .nil)) .nil)) hb hl h λacc it c x hi ha=>?_);have OR:=yP hp (N:=N - 1) (by lia) hi;have yq:(aQ it).length<=3/\∀p∈aQ it,cg n p:=by
   rcases hi with ⟨y,rfl⟩ | ⟨y,ps,rfl,h1,h2⟩
   ·simp[fz,aQ]
   ·exact⟨h1,h2⟩
  obtain⟨y,hw⟩:=kW (F:=aF fs (N - 1)) (b:= .cons (.xtd 1 (.call ii (.cons (.var 4) .nil) [])) .nil) (n:=n) (ps:=aQ it) (acc:=acc++[it]) (d0:=some (.tup (aa rs))) (d2:=some (ofD it)) (d3:=some (.int c)) (x:=x) (λacc p ha kI=>by
   have ih:=pQ hp hf (N:=N - 1) (by lia) (by lia) kI;have:=bo kI;refine(yJ (ds:=aa acc) (es:=aa (bz n p)) (S1:=none) rfl (by simp only[RX,ih]) (Nat.le_of_ble_eq_true rfl) (by rw[ab,ab];lia) rfl).trans ?_;rw[ar];rfl) yq.1 (by simp;lia) yq.2
  refine⟨y,cG (ds:=aa acc) (d:=ofD it) (S1:=none) rfl (by simp only[RX]) rfl (by rw[ab];lia) (n0 (ds:=aa (aQ it)) (S1:=none) (by simp only[RX];rw[OR];rfl) rfl ((show aa acc++[ofD it]=aa (acc++[it]) by rw[ar];simp[aa])▸hw) ?_)⟩;rw[Qz];rfl
theorem mE {ii:Nat} (hf:fs[ii]?=some ⟨1,5,false,tB ii⟩):∀{n:Nat} {N:Nat} {d:Mx.D},n<=4->n + 1<=N->cg n d->aF fs N ii [ofD d] none= .ok (.lst (aa (bz n d)),none)
 | 0,N,d,_,_,h=>h.elim
 | n + 1,N,d,hn,hN,⟨rs,e,hl,h⟩=>by
  subst e;have cW:lim=1000000:=rfl;have hb:jG (n + 1)<=100000:=Qw (nq hn) (by decide);have jK:4 * (1 + 3 * jG n)<=100000:=hb;refine aA hf (by lia) rfl (mF (body:= .cons (.app 1 (.var 2)) (pj ii)) hb hl h λacc it c x hi ha=>?_);rcases hi with ⟨y,rfl⟩ | ⟨y,ps,rfl,h1,h2⟩
  ·refine⟨x,cG (ds:=aa acc) (d:=ofD (fz y)) (S1:=none) rfl (by simp only[RX]) rfl (by rw[ab];lia) (lO (S1:=none) (by rw[tq];simp only[RX];rfl) ?_)⟩;rw[ar];simp[jD,fz,aQ,aa,Ts.app,aO]
  ·obtain⟨z,hw⟩:=kW (F:=aF fs (N - 1)) (b:= .cons (.asgM 1 (.bin .Add (.mvr 1) (.call ii (.cons (.var 4) .nil) []))) .nil) (n:=n) (ps:=ps) (acc:=acc++[ofT y ps]) (d0:=some (.tup (aa rs))) (d2:=some (ofD (ofT y ps))) (d3:=some (.int c)) (x:=x) (λacc p ha kI=>by
    have ih:=mE hf (N:=N - 1) (by lia) (by lia) kI;have:=bo kI;have ca:=jV (a:=aa acc) (b:=aa (bz n p)) (by rw[ab,ab];lia);refine(Bm (d:= .lst (aa acc++aa (bz n p))) (S1:=none) (by simp only[RX,ih,ca]) rfl rfl).trans ?_;rw[ar];rfl) h1 (by simp;lia) h2
   refine⟨z,cG (ds:=aa acc) (d:=ofD (ofT y ps)) (S1:=none) rfl (by simp only[RX]) rfl (by rw[ab];lia) (sr (S1:=none) (by rw[lP];simp only[RX];rfl) (n0 (ds:=aa ps) (S1:=none) (by rw[lP];simp only[RX]) rfl ((show aa acc++[ofD (ofT y ps)]=aa (acc++[ofT y ps]) by rw[ar];simp[aa])▸hw) ?_))⟩;rw[Qz];rfl
variable {fs:List Fn}
theorem fT {f:Dt->Sx->R (List Dt×Sx)} {S:Sx} (g:Mx.D->List Dt):∀{ds:List Mx.D},(∀m∈ds,f (ofD m) S= .ok (g m,S))->a9 f (aa ds) S= .ok (ds.flatMap g,S)
 | [],_=>by simp[aa,a9]
 | d::ds,h=>by rw[aa,a9,h d Qr,R.ao,fT g λm hm=>h m (Qo _ hm),R.ao,List.flatMap_cons]
theorem Cc {x:Str}:∀{l:List Str},x∈dd l↔x∈l
 | []=>by simp[dd]
 | y::l=>by
  have ih:=Cc (x:=x) (l:=l);rw[dd];split
  ·rename_i h;rw[ih,Qx];exact⟨.inr,λz=>z.elim (λe=>by rw[e];exact Cc.mp h) id⟩
  ·rw[Qx,ih,Qx]
theorem Kk:∀{l:List Str},(dd l).Nodup
 | []=>by simp[dd]
 | y::l=>by
  rw[dd];split
  ·exact Kk
  ·rename_i h;exact List.nodup_cons.mpr ⟨h,Kk⟩
theorem Kj:∀{l:List Str},(dd l).length<=l.length
 | []=>by simp[dd]
 | y::l=>by have:=Kj (l:=l);rw[dd];split <;> simp <;> lia
theorem iQ:∀ys:List Str,strsOf (aa (ys.map Mx.D.str))=some ys
 | []=>by simp[aa,strsOf]
 | y::ys=>by simp[aa,ofD,strsOf,iQ ys]
theorem str_list:∀{ms:List Mx.D},(∀m∈ms,∃x,m= .str x)->∃zs:List Str,ms=zs.map Mx.D.str
 | [],_=>⟨[],rfl⟩
 | m::ms,h=>by
  obtain⟨x,rfl⟩:=h m Qr;obtain⟨zs,rfl⟩:=str_list λm hm=>h m (Qo _ hm)
  exact⟨x::zs,rfl⟩
theorem mT (ys:List Str):∃zs:List Str,aS (ys.map Mx.D.str)=zs.map Mx.D.str/\zs.length=ys.length/\∀x,x∈zs↔x∈ys:=by
 obtain⟨zs,h⟩:=str_list (ms:=aS (ys.map Mx.D.str)) λm hm=>by obtain⟨x,_,rfl⟩:=QU.mp (bx.mp hm);exact⟨x,rfl⟩
 have hl:=(bI (ys.map Mx.D.str)).length_eq;rw[h] at hl;refine⟨zs,h,by simpa using hl,λx=>?_⟩;have hm:Mx.D.str x∈aS (ys.map Mx.D.str)↔Mx.D.str x∈ys.map Mx.D.str:=bx;rw[h] at hm;simpa using hm
theorem tG {ys:List Str} {d:Dt} (hd:bw d=some (aa (ys.map Mx.D.str))) (hl:ys.length < 4000):d5 .sset [d]= .ok (.lst (aa (aS ((dd ys).map Mx.D.str)))):=by show (match bw d with | some ds=>(match strsOf ds with | some ys=>ag (decide (ys.length < 4000)) (R.ok (Dt.lst (aa (aS ((dd ys).map Mx.D.str))))) | none=> .bad) | none=> .bad)=_;rw[hd];show (match strsOf (aa (ys.map Mx.D.str)) with | some ys=>ag (decide (ys.length < 4000)) (R.ok (Dt.lst (aa (aS ((dd ys).map Mx.D.str))))) | none=> .bad)=_;rw[iQ];show ag (decide (ys.length < 4000)) _=_;rw[QO hl];rfl
noncomputable def eM:Mx.D->List Str
 | .tup [_,.str x]=>[x]
 | _=>[]
noncomputable def lV:Mx.D->List Mx.D
 | .tup [a,b,c]=>[.tup [a,b,c]]
 | _=>[]
theorem ik {α β γ:Type} {f:α->List β} {g:β->γ}:∀l:List α,(l.flatMap λx=>(f x).map g)=(l.flatMap f).map g
 | []=>rfl
 | x::l=>by rw[List.flatMap_cons,List.flatMap_cons,Q3,ik l]
theorem ko {F:FT} {its:List Mx.D} {Q:Mx.D->Prop} (h:∀m∈its,lY Q m):a9 (bJ (.nm 1) (cV F (.cons (.cmp .Eq (.idx (.var 1) (.con (.int 0))) (.con (.str "any"))) .nil)) (du F (.idx (.var 1) (.con (.int 1)))) [none,none]) (aa its) none= .ok (aa ((its.flatMap eM).map Mx.D.str),none):=by
 rw[fT (λm=>aa ((eM m).map Mx.D.str)) λm hm=>?_]
 ·have:∀m:Mx.D,aa ((eM m).map Mx.D.str)=(eM m).map λx=>ofD (.str x):=λm=>by rw[aK,List.map_map];rfl
  simp only[this];rw[ik,aK,List.map_map];rfl
 ·rcases h m hm with ⟨x,rfl⟩ | ⟨x,ps,rfl,_⟩
  ·rw[tq];exact turn_if (b:=true) (y:= .str x) (ρ1:=[none,some (.tup [.str "any",.str x])]) rfl (by simp only[RX];rfl) λ_=>⟨by simp only[RX],rfl⟩
  ·rw[lP];exact turn_if (b:=false) (y:= .bq) (ρ1:=[none,some (.tup [.str "of",.str x,.tup (aa ps)])]) rfl (by simp only[RX];rfl) λz=>by cases z
theorem jo {F:FT} {its:List Mx.D} {Q:Mx.D->Prop} (h:∀m∈its,lY Q m):a9 (bJ (.nm 1) (cV F (.cons (.cmp .Eq (.idx (.var 1) (.con (.int 0))) (.con (.str "of"))) .nil)) (du F (.var 1)) [none,none]) (aa its) none= .ok (aa (its.flatMap lV),none):=by
 rw[fT (λm=>aa (lV m)) λm hm=>?_]
 ·simp only[aK];rw[ik]
 ·rcases h m hm with ⟨x,rfl⟩ | ⟨x,ps,rfl,_⟩
  ·rw[tq];exact turn_if (b:=false) (y:= .bq) (ρ1:=[none,some (.tup [.str "any",.str x])]) rfl (by simp only[RX];rfl) λz=>by cases z
  ·have e:aa (lV (ofT x ps))=[ofD (ofT x ps)]:=by simp[lV,ofT,aa]
   rw[e,lP];exact turn_if (b:=true) (ρ1:=[none,some (.tup [.str "of",.str x,.tup (aa ps)])]) rfl (by simp only[RX];rfl) λ_=>⟨by simp only[RX],rfl⟩
theorem eC {its:List Mx.D}:(its.flatMap eM).length<=its.length:=by
 have:=cz (f:=eM) (k:=1) (l:=its) λx _=>by unfold eM;split <;> simp
 lia
theorem eY {its:List Mx.D}:(its.flatMap lV).length<=its.length:=by
 have:=cz (f:=lV) (k:=1) (l:=its) λx _=>by unfold lV;split <;> simp
 lia
theorem gR {its:List Mx.D} {t:Mx.D} {Q:Mx.D->Prop} (h:∀m∈its,lY Q m) (ht:t∈its.flatMap lV):t∈its/\∃x ps,t=ofT x ps/\ps.length<=3/\∀p∈ps,Q p:=by
 rw[List.mem_flatMap] at ht;obtain⟨m,hm,ht⟩:=ht;rcases h m hm with ⟨x,rfl⟩ | ⟨x,ps,rfl,h1,h2⟩
 ·simp[lV,fz] at ht
 ·have:t=ofT x ps:=by simpa [lV,ofT] using ht
  subst this;exact⟨hm,x,ps,rfl,h1,h2⟩
noncomputable def wU:Ts:=(.cons (.ifs (.or (.cmp .Eq (.mvr 1) (.lst .nil)) (.cmp .NotEq (.idx (.mvr 1) (.neg (.con (.int 1)))) (.var 2))) (.cons (.app 1 (.var 2)) .nil) .nil) .nil)
noncomputable def pv:Ts:=(.cons (.asgM 1 (.lst .nil)) (.cons (.fr (.nm 2) (.seq (.bi .sorted (.cons (.var 0) .nil))) wU) (.cons (.ret (.mvr 1)) .nil)))
theorem uB {io N:Nat} (hf:fs[io]?=some ⟨1,3,false,pv⟩) (hN:1<=N) {ms:List Mx.D} (hc:gA ms=true) (hl:ms.length < 1000000) (hd:∀m∈ms,Mx.D.dep m<=90):aF fs N io [.lst (aa ms)] none= .ok (.lst (aa (uq none (aS ms))),none):=by
 have cW:lim=1000000:=rfl;have hs:=(iW hc).1;have rL:(aS ms).length=ms.length:=(bI ms).length_eq;have loop:=i5 (S:=none) (tg:= .nm 2) (ds:=aS ms) (ρ:=[some (.lst (aa ms)),some (.lst []),none]) (body:=aO (aF fs (N - 1)) wU)
  (λp ρ=>∃z,ρ=[some (.lst (aa ms)),some (.lst (aa (uq none p))),z]) ⟨none,by simp[uq,aa]⟩ (by
   rintro p y q ρ e1 ⟨x2,rfl⟩;have gG:p.length < ms.length:=by rw[<-rL,e1];simp
   have Qa:=oK (a:=p) (p:=none);have hg:=u6 (a:=p) (p:=none);rw[Option.or_none,Option.or_none] at hg;have ha:=zB (x:=y) (a:=p) (p:=none);rw[Option.or_none,<-hg] at ha;refine⟨[some (.lst (aa ms)),some (.lst (aa (uq none p))),some (ofD y)],[some (.lst (aa ms)),some (.lst (aa (uq none (p++[y])))),some (ofD y)],rfl,?_,some (ofD y),rfl⟩;rw[ha];rcases kN (uq none p) with hu | ⟨us,u,hu⟩
   ·rw[hu];refine sr (S1:=none) rfl (cG (ds:=[]) (d:=ofD y) (S1:=none) rfl (by simp only[RX]) rfl (by simp) ?_);simp[uq,aa,aO,Ts.app]
   ·have Lo:u∈ms:=bx.mp (by rw[e1];exact List.mem_append_left _ (jl (a:=p) (p:=none) (by rw[hu];simp)));have G9:∀m∈us++[u],Mx.D.dep m<=90:=λm hm=>hd m (bx.mp (by rw[e1];exact List.mem_append_left _ (jl (a:=p) (p:=none) (by rw[hu];exact hm))))
    have el:aa (us++[u])=aa us++[ofD u]:=by rw[ar];simp[aa]
    have lN:=eq_nil (ds:=aa us) (d:=ofD u) (by rw[<-el];exact om _) (by rw[<-el,iX];have:=cy G9;lia);have hq:=tN (a:=u) (b:=y) (by have:=hd u Lo;lia);rw[hu,el];by_cases hz:u=y
    ·rw[QO hz] at hq;refine lO (S1:=none) (by simp only[RX,lN,fI,hq];rfl) ?_;rw[ar,el];simp[uq,hz,aa,aO,Ts.app]
    ·rw[QK hz] at hq;refine sr (S1:=none) (by simp only[RX,lN,fI,hq];rfl) (cG (ds:=aa us++[ofD u]) (d:=ofD y) (S1:=none) rfl (by simp only[RX]) rfl (by rw[<-el,ab,<-hu];lia) ?_);rw[ar,el];simp[uq,hz,aa,aO,Ts.app])
 obtain⟨ρ1,bc,z,rfl⟩:=loop;refine aA hf hN rfl ?_;show fin (aO (aF fs (N - 1)) pv [some (.lst (aa ms)),none,none] none)=_;exact bu (d:= .lst []) (S1:=none) rfl rfl (bC (ds:=aa (aS ms)) (S1:=none) (by simp only[RX,hs]) rfl bc (au (by simp only[RX])))
theorem AD {f:Dt->Sx->R (List Dt×Sx)} {jh:List Mx.D} (h:∀(i:Nat) (y:Mx.D),jh[i]?=some y->f (.tup [.int i,ofD y]) none= .ok (if i≠0/\jh[i - 1]?=some y then[] else[ofD y],none)):a9 f (dG 0 (aa jh)) none= .ok (aa (uq none jh),none):=by
 have key:∀(post pre:List Mx.D),jh=pre++post->a9 f (dG pre.length (aa post)) none= .ok (aa (uq pre.getLast? post),none):=by
  intro post
  induction post with
  | nil=>intro pre _;simp[aa,dG,a9,uq]
  | cons x post ih=>
   intro pre e;have hx:jh[pre.length]?=some x:=by rw[e];simp
   have hi:=ih (pre++[x]) (by rw[e];simp);rw[QB,List.getLast?_append] at hi;rw[aa,dG,a9,h _ _ hx,R.ao];rw[show pre.length + 1=pre.length + [x].length from rfl,hi,R.ao];have hc:(pre.length≠0/\jh[pre.length - 1]?=some x)↔pre.getLast?=some x:=by
    rcases kN pre with rfl | ⟨a,z,rfl⟩
    ·simp
    ·rw[e];simp
   simp only[hc];rw[uq];split
   ·simp
   ·simp[aa]
 exact key jh [] rfl
noncomputable def g9:Ts:=(.cons (.asg 1 (.bi .sorted (.cons (.comp [none,none] (.seq (.var 0)) (.nm 1) (.cons (.cmp .Eq (.idx (.var 1) (.con (.int 0))) (.con (.str "of"))) .nil) (.var 1)) .nil))) (.cons (.ret (.bi .tuple (.cons (.comp [none,none,none,some 1] (.enum (.var 1)) (.tp [1,2]) (.cons (.or (.cmp .Eq (.var 1) (.con (.int 0))) (.cmp .NotEq (.idx (.var 3) (.bin .Sub (.var 1) (.con (.int 1)))) (.var 2))) .nil) (.var 2)) .nil))) .nil))
theorem wu {F:FT} {u:BI} {e:C} {ρ:aj} {S S1:Sx} {d d':Dt} (h:ev F e ρ S= .ok (d,S1)) (hb:d5 u [d]= .ok d'):ev F (.bi u (.cons e .nil)) ρ S= .ok (d',S1):=by simp only[RX,h,hb]
theorem sO {it N:Nat} (hf:fs[it]?=some ⟨1,2,false,g9⟩) (hN:1<=N) {Q:Mx.D->Prop} {its:List Mx.D} (hl:its.length < 1000000) (h:∀m∈its,lY Q m) (KZ:gA (its.flatMap lV)=true) (hd:∀m∈its.flatMap lV,Mx.D.dep m<=90):aF fs N it [.lst (aa its)] none= .ok (.tup (aa (uq none (aS (its.flatMap lV)))),none):=by
 have cW:lim=1000000:=rfl;have dh:=eY (its:=its);have hs:=(iW KZ).1;have rL:(aS (its.flatMap lV)).length=(its.flatMap lV).length:=(bI _).length_eq;generalize hz:aS (its.flatMap lV)=jh at hs rL;have hd:∀m∈jh,Mx.D.dep m<=90:=λm hm=>hd m (bx.mp (hz▸hm))
 refine aA hf hN rfl ?_;show fin (aO (aF fs (N - 1)) g9 [some (.lst (aa its)),none] none)=_;refine aJ (d:= .lst (aa jh)) (S1:=none) (wu (bB (ds:=aa its) (S1:=none) (by simp only[RX]) (by rw[ab];lia) rfl (jo h)) hs) rfl (au (wu (bB (ds:=dG 0 (aa jh)) (S1:=none) (by simp only[RX]) ?_ rfl (AD λi y hy=>?_)) rfl))
 ·have:∀(l:List Dt) (i:Nat),(dG i l).length=l.length:=by
   intro l
   induction l with
   | nil=>intro i;rfl
   | cons x l ih=>intro i;simp[dG,ih]
  rw[this,ab]
  lia
 ·have Nu:=hd y (List.mem_iff_getElem?.mpr ⟨i,hy⟩);rw[show (if i≠0/\jh[i - 1]?=some y then([]:List Dt) else[ofD y])=if (!decide (i≠0/\jh[i - 1]?=some y))=true then[ofD y] else[] by by_cases q:i≠0/\jh[i - 1]?=some y <;> simp[q]];refine turn_if (ρ1:=[none,some (.int i),some (ofD y),some (.lst (aa jh))]) rfl ?_ λ_=>⟨by simp only[RX],rfl⟩
  by_cases h0:i=0
  ·subst h0;simp only[RX];rfl
  ·have e0:((i:Int)==0)=false:=by simpa using h0
   have cC:i < jh.length:=(Qn.mp hy).1;have JA:jh[i - 1]?=some (jh[i - 1]'(by lia)):=QJ _;generalize jh[i - 1]'(by lia)=w at JA;have lG:=(d6 (ds:=aa jh) (k:=i - 1) (d:=ofD w) (by rw[aK,QE,JA];rfl)).2;rw[show ((i - 1:Nat):Int)=(i:Int) - 1 by lia] at lG;have hq:=tN (a:=w) (b:=y) (by have:=hd w (List.mem_iff_getElem?.mpr ⟨i - 1,JA⟩);lia);simp only[RX,e0,lG,hq,JA];simp[h0]
theorem v7 {it N n:Nat} (hf:fs[it]?=some ⟨1,2,false,g9⟩) (hN:1<=N) (hn:n<=8) {its:List Mx.D} (hl:its.length < 1000000) (h:∀m∈its,lY (cg n) m):aF fs N it [.lst (aa its)] none= .ok (.tup (aa (uq none (aS (its.flatMap lV)))),none):=by
 have ht:∀m∈its.flatMap lV,lY (cg n) m:=λm hm=>h m (gR h hm).1
 have dh:=eY (its:=its);refine sO hf hN hl h (kh hn (by lia) ht) λm hm=>?_
 have:=cw (n:=4 * n + 2) (λd hd=>bG hd) rfl (ht m hm)
 lia
noncomputable def wX (ii:Nat):Ts:=(.cons (.asg 1 (.comp [none,none] (.seq (.call ii (.cons (.var 0) .nil) [])) (.nm 1) (.cons (.cmp .Eq (.idx (.var 1) (.con (.int 0))) (.con (.str "any"))) .nil) (.idx (.var 1) (.con (.int 1))))) (.cons (.ret (.bi .tuple (.cons (.bi .sset (.cons (.var 1) .nil)) .nil))) .nil))
theorem vg:∀{n:Nat},n<=3->jG n<=628:=λ {n} h=>Qw (nq h) (by decide)
theorem BZ {iu ii N:Nat} (hf:fs[iu]?=some ⟨1,2,false,wX ii⟩) {d:Dt} (hN:1<=N) {Q:Mx.D->Prop} {its:List Mx.D} (h:∀m∈its,lY Q m) (hl:its.length < 4000) (hi:aF fs (N - 1) ii [d] none= .ok (.lst (aa its),none)):aF fs N iu [d] none= .ok (.tup (aa (aS ((dd (its.flatMap eM)).map Mx.D.str))),none):=by have cW:lim=1000000:=rfl;have h2:=eC (its:=its);have Lm:=tG (ys:=its.flatMap eM) (d:= .lst (aa ((its.flatMap eM).map Mx.D.str))) rfl (by lia);refine aA hf hN rfl ?_;show fin (aO (aF fs (N - 1)) (wX ii) [some d,none] none)=_;exact aJ (d:= .lst (aa ((its.flatMap eM).map Mx.D.str))) (S1:=none) (bB (ds:=aa its) (S1:=none) (by simp only[RX,hi]) (by rw[ab];lia) rfl (ko h)) rfl (au (wu (wu (by simp only[RX]) Lm) rfl))
theorem zx {iu ii N n:Nat} (hf:fs[iu]?=some ⟨1,2,false,wX ii⟩) {d:Mx.D} (hn:n + 1<=3) (hN:1<=N) (hd:cg (n + 1) d) (hi:aF fs (N - 1) ii [ofD d] none= .ok (.lst (aa (bz (n + 1) d)),none)):aF fs N iu [ofD d] none= .ok (.tup (aa (aS ((dd ((bz (n + 1) d).flatMap eM)).map Mx.D.str))),none):=
 BZ hf hN (λm hm=>iC hd hm) (by have:=bo hd;have:=vg hn;lia) hi
noncomputable def fL (n:Nat) (a b:Mx.D):List Mx.D:=uq none (aS (((bz n a++bz n b).flatMap eM).map Mx.D.str))
noncomputable def eX (n:Nat) (a b:Mx.D):List Mx.D:=uq none (aS ((bz n a++bz n b).flatMap lV))
theorem jW {a b:List Dt} (h:a.length + b.length<=lim):qa .Add (.tup a) (.tup b)= .ok (.tup (a++b)):=by show ag (decide (a.length + b.length<=lim)) _=_;rw[QO h];rfl
noncomputable def kb (iu:Nat):Ts:=(.cons (.ret (.bi .tuple (.cons (.bi .sset (.cons (.bin .Add (.call iu (.cons (.var 0) .nil) []) (.call iu (.cons (.var 1) .nil) [])) .nil)) .nil))) .nil)
theorem sf {ino iu ii N n:Nat} (hf:fs[ino]?=some ⟨2,2,false,kb iu⟩) (hu:fs[iu]?=some ⟨1,2,false,wX ii⟩) (hn:n + 1<=3) (hN:2<=N) {a b:Mx.D} (ha:cg (n + 1) a) (hb:cg (n + 1) b) (hi:∀d,cg (n + 1) d->aF fs (N - 1 - 1) ii [ofD d] none= .ok (.lst (aa (bz (n + 1) d)),none)):
  aF fs N ino [ofD a,ofD b] none= .ok (.tup (aa (fL (n + 1) a b)),none):=by
 have cW:lim=1000000:=rfl;have u1:=zx hu hn (N:=N - 1) (by lia) ha (hi a ha);have u2:=zx hu hn (N:=N - 1) (by lia) hb (hi b hb);have l1:=bo ha;have l2:=bo hb;have FE:=vg hn;have n1:=eC (its:=bz (n + 1) a);have n2:=eC (its:=bz (n + 1) b);have d1:=Kj (l:=(bz (n + 1) a).flatMap eM);have d2:=Kj (l:=(bz (n + 1) b).flatMap eM);obtain⟨z1,e1,k1,m1⟩:=mT (dd ((bz (n + 1) a).flatMap eM));obtain⟨z2,e2,k2,m2⟩:=mT (dd ((bz (n + 1) b).flatMap eM));rw[e1] at u1;rw[e2] at u2;have ca:=jW (a:=aa (z1.map Mx.D.str)) (b:=aa (z2.map Mx.D.str)) (by rw[ab,ab,Qu,Qu];lia);rw[<-ar,<-Q3] at ca;have Lm:=tG (ys:=z1++z2) (d:= .tup (aa ((z1++z2).map Mx.D.str))) rfl (by rw[QB];lia);have e3:aS ((dd (z1++z2)).map Mx.D.str)=fL (n + 1) a b:=by
  refine lj (qr ?_) (mW (iP _) λ_ _ _ z=>by cases z).1 λx=>?_
  ·exact List.pairwise_map.mpr (Kk.imp λh e=>h (by cases e;rfl))
  ·have hq:=zC (x:=x) (a:=aS (((bz (n + 1) a++bz (n + 1) b).flatMap eM).map Mx.D.str)) (p:=none);simp only[reduceCtorEq,or_false] at hq;unfold fL;rw[hq,bx,bx,QU,QU,List.flatMap_append];constructor
   ·rintro⟨y,hy,rfl⟩;rw[Cc,QH,m1,m2,Cc,Cc,<-QH] at hy;exact⟨y,hy,rfl⟩
   ·rintro⟨y,hy,rfl⟩;refine⟨y,?_,rfl⟩;rw[Cc,QH,m1,m2,Cc,Cc,<-QH];exact hy
 rw[<-e3];refine aA hf (by lia) rfl ?_;show fin (aO (aF fs (N - 1)) (kb iu) [some (ofD a),some (ofD b)] none)=_;exact au (wu (wu (by simp only[RX,u1,u2,ca]) Lm) rfl)
noncomputable def iV (ii it:Nat):Ts:=(.cons (.ret (.call it (.cons (.bin .Add (.call ii (.cons (.var 0) .nil) []) (.call ii (.cons (.var 1) .nil) [])) .nil) [])) .nil)
theorem i9 {n:Nat} {a b:Mx.D} (ha:cg (n + 1) a) (hb:cg (n + 1) b):∀m∈bz (n + 1) a++bz (n + 1) b,lY (cg n) m:=λm hm=>(QH.mp hm).elim (iC ha) (iC hb)
theorem qz {ito it ii N n:Nat} (hf:fs[ito]?=some ⟨2,2,false,iV ii it⟩) (ht:fs[it]?=some ⟨1,2,false,g9⟩) (hn:n + 1<=3) (hN:2<=N) {a b:Mx.D} (ha:cg (n + 1) a) (hb:cg (n + 1) b) (hi:∀d,cg (n + 1) d->aF fs (N - 1) ii [ofD d] none= .ok (.lst (aa (bz (n + 1) d)),none)):
  aF fs N ito [ofD a,ofD b] none= .ok (.tup (aa (eX (n + 1) a b)),none):=by
 have cW:lim=1000000:=rfl;have l1:=bo ha;have l2:=bo hb;have FE:=vg hn;have ca:=jV (a:=aa (bz (n + 1) a)) (b:=aa (bz (n + 1) b)) (by rw[ab,ab];lia);rw[<-ar] at ca;have tk:=v7 ht (N:=N - 1) (by lia) (n:=n) (by lia) (its:=bz (n + 1) a++bz (n + 1) b) (by rw[QB];lia) (i9 ha hb);refine aA hf (by lia) rfl ?_;show fin (aO (aF fs (N - 1)) (iV ii it) [some (ofD a),some (ofD b)] none)=_;exact au (by simp only[RX,hi a ha,hi b hb,ca,tk];rfl)
noncomputable def ni (il io:Nat):Ts:=(.cons (.asg 2 (.bin .Add (.call il (.cons (.var 0) .nil) []) (.call il (.cons (.var 1) .nil) []))) (.cons (.ret (.bi .tuple (.cons (.call io (.cons (.comp [none,none] (.seq (.var 2)) (.nm 1) (.cons (.cmp .Eq (.idx (.var 1) (.con (.int 0))) (.con (.str "any"))) .nil) (.idx (.var 1) (.con (.int 1)))) .nil) []) .nil))) .nil))
noncomputable def ka (il io:Nat):Ts:=(.cons (.asg 2 (.bin .Add (.call il (.cons (.var 0) .nil) []) (.call il (.cons (.var 1) .nil) []))) (.cons (.ret (.bi .tuple (.cons (.call io (.cons (.comp [none,none] (.seq (.var 2)) (.nm 1) (.cons (.cmp .Eq (.idx (.var 1) (.con (.int 0))) (.con (.str "of"))) .nil) (.var 1)) .nil) []) .nil))) .nil))
theorem B9 {F:FT} {f:Nat} {e:C} {ρ:aj} {S S1:Sx} {d d':Dt} (h:ev F e ρ S= .ok (d,S1)) (hb:F f [d] none= .ok (d',none)):ev F (.call f (.cons e .nil) []) ρ S= .ok (d',S1):=by simp only[RX,h,hb]
theorem vL {iln il io N n:Nat} (hf:fs[iln]?=some ⟨2,3,false,ni il io⟩) (ho:fs[io]?=some ⟨1,3,false,pv⟩) (hn:n + 1<=3) (hN:2<=N) {a b:Mx.D} (ha:cg (n + 1) a) (hb:cg (n + 1) b) (hi:∀d,cg (n + 1) d->aF fs (N - 1) il [ofD d] none= .ok (.lst (aa (bz (n + 1) d)),none)):
  aF fs N iln [ofD a,ofD b] none= .ok (.tup (aa (fL (n + 1) a b)),none):=by
 have cW:lim=1000000:=rfl;have l1:=bo ha;have l2:=bo hb;have FE:=vg hn;have Jt:(bz (n + 1) a++bz (n + 1) b).length < 4000:=by rw[QB];lia
 have ca:=jV (a:=aa (bz (n + 1) a)) (b:=aa (bz (n + 1) b)) (by rw[ab,ab];lia);rw[<-ar] at ca;have GY:=eC (its:=bz (n + 1) a++bz (n + 1) b);have ok:=uB ho (N:=N - 1) (by lia) (ms:=((bz (n + 1) a++bz (n + 1) b).flatMap eM).map Mx.D.str) (xm (by lia)) (by rw[Qu];lia) (λm hm=>by obtain⟨y,_,rfl⟩:=QU.mp hm;simp[Mx.D.dep]);refine aA hf (by lia) rfl ?_;show fin (aO (aF fs (N - 1)) (ni il io) [some (ofD a),some (ofD b),none] none)=_;refine aJ (d:= .lst (aa (bz (n + 1) a++bz (n + 1) b))) (S1:=none) (by simp only[RX,hi a ha,hi b hb,ca]) rfl ?_;exact au (wu (B9 (bB (ds:=aa (bz (n + 1) a++bz (n + 1) b)) (S1:=none) (by simp only[RX]) (by rw[ab];lia) rfl (ko (i9 ha hb))) ok) rfl)
theorem r8 {ilt il io N n:Nat} (hf:fs[ilt]?=some ⟨2,3,false,ka il io⟩) (ho:fs[io]?=some ⟨1,3,false,pv⟩) (hn:n + 1<=3) (hN:2<=N) {a b:Mx.D} (ha:cg (n + 1) a) (hb:cg (n + 1) b) (hi:∀d,cg (n + 1) d->aF fs (N - 1) il [ofD d] none= .ok (.lst (aa (bz (n + 1) d)),none)):
  aF fs N ilt [ofD a,ofD b] none= .ok (.tup (aa (eX (n + 1) a b)),none):=by
 have cW:lim=1000000:=rfl;have l1:=bo ha;have l2:=bo hb;have FE:=vg hn;have Jt:(bz (n + 1) a++bz (n + 1) b).length < 4000:=by rw[QB];lia
 have ca:=jV (a:=aa (bz (n + 1) a)) (b:=aa (bz (n + 1) b)) (by rw[ab,ab];lia);rw[<-ar] at ca;have GY:=eY (its:=bz (n + 1) a++bz (n + 1) b);have ht:∀m∈(bz (n + 1) a++bz (n + 1) b).flatMap lV,lY (cg n) m:=λm hm=>i9 ha hb m (gR (i9 ha hb) hm).1
 have ok:=uB ho (N:=N - 1) (by lia) (ms:=(bz (n + 1) a++bz (n + 1) b).flatMap lV) (kh (n:=n) (by lia) (by lia) ht) (by lia) (λm hm=>by have:=cw (n:=4 * n + 2) (λd hd=>bG hd) rfl (ht m hm);lia);refine aA hf (by lia) rfl ?_;show fin (aO (aF fs (N - 1)) (ka il io) [some (ofD a),some (ofD b),none] none)=_;refine aJ (d:= .lst (aa (bz (n + 1) a++bz (n + 1) b))) (S1:=none) (by simp only[RX,hi a ha,hi b hb,ca]) rfl ?_;exact au (wu (B9 (bB (ds:=aa (bz (n + 1) a++bz (n + 1) b)) (S1:=none) (by simp only[RX]) (by rw[ab];lia) rfl (jo (i9 ha hb))) ok) rfl)
variable {fs:List Fn}
noncomputable def IsT (n:Nat) (u:Mx.D):Prop:=∃x ps,u=ofT x ps/\ps.length<=3/\∀p∈ps,cg n p
noncomputable def o4 (n:Nat) (g:List Mx.D):Prop:=∃t r,g=t::r/\IsT n t/\∀u∈r,IsT n u/\(aQ u).length=(aQ t).length
theorem je (x:Str) (ps:List Mx.D):aQ (ofT x ps)=ps:=rfl
noncomputable def pq:Ts:=(.cons (.ret (.and (.cmp .Eq (.idx (.var 0) (.con (.int 1))) (.idx (.var 1) (.con (.int 1)))) (.cmp .Eq (.bi .len (.cons (.idx (.var 0) (.con (.int 2))) .nil)) (.bi .len (.cons (.idx (.var 1) (.con (.int 2))) .nil))))) .nil)
theorem Be {il N n:Nat} (hf:fs[il]?=some ⟨2,2,false,pq⟩) (hN:1<=N) {t u:Mx.D} (ht:IsT n t) (hu:IsT n u):∃b,aF fs N il [ofD t,ofD u] none= .ok (.bl b,none)/\(b=true->(aQ t).length=(aQ u).length):=by
 obtain⟨x,ps,rfl,_⟩:=ht;obtain⟨y,qs,rfl,_⟩:=hu;rw[lP,lP,je,je];by_cases h:x=y
 ·refine⟨((aa ps).length:Int)==((aa qs).length:Int),aA hf hN rfl ?_,?_⟩
  ·show fin (aO (aF fs (N - 1)) pq [some (.tup [.str "of",.str x,.tup (aa ps)]),some (.tup [.str "of",.str y,.tup (aa qs)])] none)=_;exact au (by subst h;simp only[RX,beq_self_eq_true])
  ·intro z;have:=QI z;rw[ab,ab] at this
   lia
 ·refine⟨false,aA hf hN rfl ?_,λz=>by cases z⟩;show fin (aO (aF fs (N - 1)) pq [some (.tup [.str "of",.str x,.tup (aa ps)]),some (.tup [.str "of",.str y,.tup (aa qs)])] none)=_;have e:(x==y)=false:=by simpa using h
  exact au (by simp only[RX,e])
theorem vk {f:Dt->Sx->R (List Dt×Sx)} {S:Sx} {m:Nat} (b:Nat->Bool) (h:∀i:Nat,i < m->f (.int i) S= .ok (if b i=true then[.int i] else[],S)):a9 f (bj 0 m) S= .ok (((List.range m).filter b).map λi:Nat=>Dt.int (i:Int),S):=by
 have key:∀l:List Nat,(∀i∈l,i < m)->a9 f (l.map λi:Nat=>Dt.int (0 + (i:Int))) S= .ok ((l.filter b).map λi:Nat=>Dt.int (i:Int),S):=by
  intro l
  induction l with
  | nil=>intro _;rfl
  | cons i l ih=>
   intro hl;rw[Q2,a9,show (0 + (i:Int))=i by lia,h i (hl i Qr),R.ao,ih λj hj=>hl j (Qo _ hj),R.ao];by_cases hb:b i=true
   ·rw[if_pos hb,List.filter_cons_of_pos hb];rfl
   ·rw[if_neg hb,List.filter_cons_of_neg hb];rfl
 exact key (List.range m) λi hi=>Q5.mp hi
theorem sum_set {g g':List Mx.D}:∀{gs:List (List Mx.D)} {i:Nat},gs[i]?=some g->g'.length=g.length + 1->((gs.set i g').map List.length).sum=(gs.map List.length).sum + 1
 | [],_,h,_=>by simp at h
 | a::gs,0,h,e=>by simp at h;subst h;simp;lia
 | a::gs,i + 1,h,e=>by
  have:=sum_set (gs:=gs) (i:=i) (by simpa using h) e;simp only[List.set_cons_succ,Q2,List.sum_cons]
  lia
theorem gH {a:Nat}:∀{l:List Nat},a∈l->a<=l.sum
 | b::l,h=>by
  rcases Qx.mp h with rfl | h
  ·simp
  ·have:=gH h;simp
   lia
theorem kM:∀{gs:List (List Mx.D)},(∀g∈gs,g≠[])->gs.length<=(gs.map List.length).sum
 | [],_=>by simp
 | g::gs,h=>by
  have h1:=h g Qr;have h2:=kM λg hg=>h g (Qo _ hg)
  have:1<=g.length:=by cases g with | nil=>exact absurd rfl h1 | cons=>simp
  simp
  lia
noncomputable abbrev bY (gs:List (List Mx.D)):List Mx.D:=gs.map Mx.D.tup
noncomputable def lZ (ip il:Nat):Ts:=(.cons (.asg 6 (.comp [none,none,some 3,some 4,some 2] (.rng1 (.bi .len (.cons (.mvr 3) .nil))) (.nm 1) (.cons (.call il (.cons (.idx (.idx (.mvr 2) (.var 1)) (.con (.int 0))) (.cons (.idx (.var 4) (.var 3)) .nil)) []) .nil) (.var 1))) (.cons (.asg 5 (.call ip (.cons (.var 0) (.cons (.bin .Add (.var 1) (.var 4)) (.cons (.bin .Add (.bi .len (.cons (.var 6) .nil)) (.con (.int 1))) .nil))) [])) (.cons (.ifs (.cmp .Eq (.var 5) (.bi .len (.cons (.var 6) .nil))) (.cons (.app 3 (.tup (.cons (.idx (.var 2) (.var 4)) .nil))) .nil) (.cons (.vY 3 (.idx (.var 6) (.var 5)) (.bin .Add (.idx (.mvr 3) (.idx (.var 6) (.var 5))) (.tup (.cons (.idx (.var 2) (.var 4)) .nil)))) .nil)) .nil)))
noncomputable def kc (ip il:Nat):Ts:=(.cons (.asgM 3 (.lst .nil)) (.cons (.fr (.nm 4) (.rng1 (.bi .len (.cons (.var 2) .nil))) (lZ ip il)) (.cons (.ret (.bi .tuple (.cons (.mvr 3) .nil))) .nil)))
theorem sD {ig ip il N n k:Nat} (hp:gV fs ip) (hl:fs[il]?=some ⟨2,2,false,pq⟩) (hf:fs[ig]?=some ⟨3,7,false,kc ip il⟩) (hN:3<=N) (hk:k < 100000) {ns:List Int} {ts:List Mx.D} (P9:ts.length<=10000) (ht:∀t∈ts,IsT n t):
  ∃gs,aF fs N ig [.br ns,.int k,.tup (aa ts)] none= .ok (.tup (aa (bY gs)),none)/\(∀g∈gs,o4 n g)/\(gs.map List.length).sum<=ts.length:=by
 have cW:lim=1000000:=rfl;have loop:=cA (S:=none) (tg:= .nm 4) (ds:=bj 0 ts.length) (ρ:=[some (.br ns),some (.int k),some (.tup (aa ts)),some (.lst []),none,none,none])
  (body:=aO (aF fs (N - 1)) (lZ ip il))
  (λpre ρ=>∃gs x y z,(∀g∈gs,o4 n g)/\(gs.map List.length).sum=pre.length/\ρ=[some (.br ns),some (.int k),some (.tup (aa ts)),some (.lst (aa (bY gs))),x,y,z]) ⟨[],none,none,none,by simp,rfl,by simp[aa]⟩ (by
   rintro pre x post ρ e ⟨gs,x,y,z,hg,A0,rfl⟩;obtain⟨h1,rfl⟩:=dE e;have K4:=kM (gs:=gs) λg kH e=>by obtain⟨t,r,rfl,_⟩:=hg g kH;cases e
   have hj:ts[pre.length]?=some ts[pre.length]:=QJ h1;have Jx:=ht _ (List.getElem_mem h1);generalize ts[pre.length]=t at hj Jx;have zT:=(d6 (ds:=aa ts) (k:=pre.length) (d:=ofD t) (by rw[aK,QE,hj];rfl)).1;have hb:∀i:Nat,∃b:Bool,i < gs.length->(∃g t0 r,gs[i]?=some g/\g=t0::r/\aF fs (N - 1) il [ofD t0,ofD t] none= .ok (.bl b,none)/\(b=true->(aQ t0).length=(aQ t).length)):=by
    intro i;by_cases hi:i < gs.length
    ·obtain⟨t0,r,e0,h0,_⟩:=hg _ (List.getElem_mem hi);obtain⟨b,b1,b2⟩:=Be hl (N:=N - 1) (by lia) h0 Jx;exact⟨b,λ_=>⟨_,t0,r,QJ hi,e0,b1,b2⟩⟩
    ·exact⟨false,λz=>absurd z hi⟩
   let B:Nat->Bool:=λi=>(hb i).choose
   have hB:∀i,i < gs.length->(∃g t0 r,gs[i]?=some g/\g=t0::r/\aF fs (N - 1) il [ofD t0,ofD t] none= .ok (.bl (B i),none)/\(B i=true->(aQ t0).length=(aQ t).length)):=λi hi=>(hb i).choose_spec hi
   generalize B=b at hB;have hlen:d5 .len [.lst (aa (bY gs))]= .ok (.int gs.length):=by show R.ok (Dt.int ((aa (bY gs)).length:Int))=_;rw[ab,Qu]
   have x5:ev (aF fs (N - 1)) (.comp [none,none,some 3,some 4,some 2] (.rng1 (.bi .len (.cons (.mvr 3) .nil))) (.nm 1) (.cons (.call il (.cons (.idx (.idx (.mvr 2) (.var 1)) (.con (.int 0))) (.cons (.idx (.var 4) (.var 3)) .nil)) []) .nil) (.var 1)) [some (.br ns),some (.int k),some (.tup (aa ts)),some (.lst (aa (bY gs))),some (.int pre.length),y,z] none= .ok (.lst (((List.range gs.length).filter b).map λi:Nat=>Dt.int (i:Int)),none):=by refine bB (ds:=bj 0 gs.length) (S1:=none) (eR (by simp only[RX,ab,Qu]) (by lia)) (by simp[bj];lia) rfl (vk b λi hi=>?_);obtain⟨g,t0,r,e1,e2,e3,_⟩:=hB i hi;have at2:=(d6 (ds:=aa (bY gs)) (k:=i) (d:= .tup (ofD t0::aa r)) (by rw[aK,QE,QE,e1,e2];simp[ofD,aa])).2;have F7:dk (.tup (ofD t0::aa r)) (.int 0)= .ok (ofD t0):=(d6 (ds:=ofD t0::aa r) (k:=0) (d:=ofD t0) rfl).1;exact turn_if (ρ1:=[none,some (.int i),some (.lst (aa (bY gs))),some (.int pre.length),some (.tup (aa ts))]) rfl (by simp only[RX,zT,at2,F7,e3]) λ_=>⟨by simp only[RX],rfl⟩
   have OC:((List.range gs.length).filter b).length<=gs.length:=by have:=List.length_filter_le b (List.range gs.length);rwa [List.length_range] at this
   have Nb:∀i∈(List.range gs.length).filter b,i < gs.length/\b i=true:=λi hi=>by have:=List.mem_filter.mp hi;exact⟨Q5.mp this.1,this.2⟩
   generalize (List.range gs.length).filter b=fl at x5 OC Nb;have pk:=jY hp (n:=N - 1) (by lia) (ns:=ns) (k:=k + pre.length) (many:=fl.length + 1) (by lia) (by lia);have pl:=cH (ns:=ns) (k:=k + pre.length) (many:=fl.length + 1) (by lia);generalize bH ns (k + pre.length) (fl.length + 1)=w at pk pl;have ND:aF fs (N - 1) ip [.br ns,.int ((k:Int) + pre.length),.int ((fl.length:Int) + 1)] none= .ok (.int w,none):=pk;have ln:d5 .len [.lst (fl.map λi:Nat=>Dt.int (i:Int))]= .ok (.int fl.length):=by show R.ok (Dt.int (((fl.map λi:Nat=>Dt.int (i:Int)).length:Nat):Int))=_;rw[Qu]
   by_cases hw:w=fl.length
   ·refine⟨_,_,rfl,cm (S1:=none) x5 rfl (cm (d:= .int w) (S1:=none) (by simp only[RX,ln,ND,Qu]) rfl (sr (S1:=none) (by simp only[RX,hw,Qu];simp) (cG (ds:=aa (bY gs)) (d:= .tup [ofD t]) (S1:=none) rfl (by simp only[RX,zT]) rfl (by rw[ab,Qu];lia) rfl))),gs++[[t]],some (.int pre.length),some (.int w),some (.lst (fl.map λi:Nat=>Dt.int (i:Int))),λg kH=>?_,?_,?_⟩
    ·rcases QH.mp kH with kH | kH
     ·exact hg g kH
     ·rw[QT] at kH;subst kH;exact⟨t,[],rfl,Jx,by simp⟩
    ·simp[A0]
    ·simp[aK,bY,ofD]
   ·have Nt:w < fl.length:=by lia
    have hi:=Nb fl[w] (List.getElem_mem Nt);have Nc:fl[w]?=some fl[w]:=QJ Nt;generalize fl[w]=i at hi Nc;obtain⟨g,t0,r,e1,e2,e3,e4⟩:=hB i hi.1;have at2:=(d6 (ds:=aa (bY gs)) (k:=i) (d:= .tup (aa g)) (by rw[aK,QE,QE,e1];simp[ofD])).2;have MJ:=(d6 (ds:=fl.map λi:Nat=>Dt.int (i:Int)) (k:=w) (d:= .int i) (by rw[QE,Nc];rfl)).2;have OD:g.length<=ts.length:=by
     have yl:g.length∈gs.map List.length:=QU.mpr ⟨g,List.mem_iff_getElem?.mpr ⟨i,e1⟩,rfl⟩;have:=gH yl
     lia
    have ca:=jW (a:=aa g) (b:=[ofD t]) (by rw[ab,List.length_singleton];lia);have ne:((w:Int)==(fl.length:Int))=false:=by simp;lia
    refine⟨_,_,rfl,cm (S1:=none) x5 rfl (cm (d:= .int w) (S1:=none) (by simp only[RX,ln,ND,Qu]) rfl (lO (S1:=none) (by simp only[RX,Qu,ne]) (nx (tS (ds:=aa (bY gs)) (d:= .tup (aa g++[ofD t])) (S1:=none) (S2:=none) (n:=i) (j:=i) rfl (by simp only[RX,zT,at2,MJ,ca]) (by simp only[RX,MJ]) rfl (by unfold mG;rw[ab,Qu,if_pos (by lia),if_pos (by lia)];simp)) rfl))),gs.set i (g++[t]),some (.int pre.length),some (.int w),some (.lst (fl.map λi:Nat=>Dt.int (i:Int))),λg' kH=>?_,?_,?_⟩
    ·rcases List.mem_or_eq_of_mem_set kH with kH | kH
     ·exact hg g' kH
     ·obtain⟨t1,r1,e5,h5,h6⟩:=hg g (List.mem_iff_getElem?.mpr ⟨i,e1⟩);rw[e2] at e5;cases e5;subst kH e2;refine⟨t0,r++[t],rfl,h5,λu hu=>?_⟩;rcases QH.mp hu with hu | hu
      ·exact h6 u hu
      ·rw[QT] at hu;subst hu;exact⟨Jx,(e4 hi.2).symm⟩
    ·rw[sum_set e1 (by simp),A0];simp
    ·have:(aa (bY gs)).set i (.tup (aa g++[ofD t]))=aa (bY (gs.set i (g++[t]))):=by simp only[bY,aK,List.map_set];simp[ofD,aK]
     rw[<-this];rfl)
 obtain⟨ρ1,bc,gs,x,y,z,hg,A0,rfl⟩:=loop;refine⟨gs,aA hf (by lia) rfl ?_,hg,by rw[A0];simp[bj]⟩;show fin (aO (aF fs (N - 1)) (kc ip il) [some (.br ns),some (.int k),some (.tup (aa ts)),none,none,none,none] none)=_;exact bu (d:= .lst []) (S1:=none) rfl rfl (bC (ds:=bj 0 ts.length) (S1:=none) (eR (n:=ts.length) (by simp only[RX,ab]) (by lia)) rfl bc (au (by simp only[RX])))
variable {fs:List Fn}
theorem xN {α:Type} {enc:α->Dt} {tg:Tg} {body:aj->Sx->RS} {ds:List α} {ρ:aj} {S:Sx} (P:List α->aj->Prop) (h0:P [] ρ)
  (step:∀pre x post ρ,ds=pre++x::post->P pre ρ->∃ρ1 ρ2,cM tg (enc x) ρ= .ok ρ1/\body ρ1 S= .ok (.next,ρ2,S)/\P (pre++[x]) ρ2):∃ρ',forL tg body (ds.map enc) ρ S= .ok (.next,ρ',S)/\P ds ρ':=by
 have key:∀(post pre:List α) (ρ:aj),ds=pre++post->P pre ρ->∃ρ',forL tg body (post.map enc) ρ S= .ok (.next,ρ',S)/\P ds ρ':=by
  intro post
  induction post with
  | nil=>intro pre ρ e h;rw[QY] at e;subst e;exact⟨ρ,rfl,h⟩
  | cons x post ih=>intro pre ρ e h;obtain⟨ρ1,ρ2,h1,h2,h3⟩:=step pre x post ρ e h;obtain⟨ρ',h4,h5⟩:=ih (pre++[x]) ρ2 (by rw[e];simp) h3;refine⟨ρ',?_,h5⟩;rw[Q2,forL,h1,R.ao,h2,R.ao];exact h4
 exact key ds [] ρ rfl h0
noncomputable def dD (ps qs:List Mx.D):List Mx.D:=List.zipWith (λp q=>Mx.D.tup [p,q]) ps qs
noncomputable def vw:List Mx.D->List Mx.D
 | t::r=>r.flatMap λu=>dD (aQ t) (aQ u)
 | []=>[]
noncomputable def bQ (gs:List (List Mx.D)) (one other:Mx.D):List Mx.D:= .tup [one,other]::gs.flatMap vw
theorem lE {ps qs:List Mx.D}:(dD ps qs).length<=qs.length:=by simp[dD];lia
theorem xW {n:Nat} {g:List Mx.D} (h:o4 n g):(vw g).length<=3 * g.length:=by
 obtain⟨t,r,rfl,_,hr⟩:=h;have:=cz (f:=λu=>dD (aQ t) (aQ u)) (k:=3) (l:=r) λu hu=>by obtain⟨⟨x,ps,rfl,h1,_⟩,_⟩:=hr u hu;exact Qw lE h1
 simp only[vw,QD]
 lia
theorem kF {n:Nat}:∀{gs:List (List Mx.D)},(∀g∈gs,o4 n g)->(gs.flatMap vw).length<=3 * (gs.map List.length).sum
 | [],_=>by simp
 | g::gs,h=>by
  have h1:=xW (h g Qr);have h2:=kF λg hg=>h g (Qo _ hg)
  rw[List.flatMap_cons,QB,Q2,List.sum_cons]
  lia
theorem vd:∀{ps qs:List Mx.D},dR (aa ps) (aa qs)=aa (dD ps qs)
 | [],qs=>by simp[dR,dD,aa]
 | _::_,[]=>by simp[dR,dD,aa]
 | p::ps,q::qs=>by have:=vd (ps:=ps) (qs:=qs);simp only[dR,dD,aa,List.zipWith_cons_cons] at this ⊢;rw[this];simp[ofD,aa]
theorem Ki {d:Dt} {ds:List Dt}:iN (.tup (d::ds)) (some 1) none= .ok (.tup ds):=by
 show R.ok (Dt.tup (cutD (d::ds) (some 1) none))=_;have:cutD (d::ds) (some 1) none=ds:=by unfold cutD;simp[HT.bU]
 rw[this]
theorem Kc {d:Dt} {ds:List Dt}:dk (.tup (d::ds)) (.int 0)= .ok d:=(d6 (ds:=d::ds) (k:=0) rfl).1
theorem tX (gs:List (List Mx.D)):aa (bY gs)=gs.map λg=>Dt.tup (aa g):=by simp[bY,aK,ofD]
theorem BS {gs pre post:List (List Mx.D)} {x:List Mx.D} (e:gs=pre++x::post):(pre.map List.length).sum + x.length<=(gs.map List.length).sum:=by rw[e];simp
noncomputable def wM:Ts:=(.cons (.asgM 3 (.lst (.cons (.tup (.cons (.var 1) (.cons (.var 2) .nil))) .nil))) (.cons (.fr (.nm 4) (.seq (.var 0)) (.cons (.fr (.nm 5) (.seq (.sliL (.var 4) (.con (.int 1)))) (.cons (.xtd 3 (.bi .zipL (.cons (.idx (.idx (.var 4) (.con (.int 0))) (.con (.int 2))) (.cons (.idx (.var 5) (.con (.int 2))) .nil)))) .nil)) .nil)) (.cons (.ret (.mvr 3)) .nil)))
noncomputable def tu:Ts:=(.cons (.asgM 3 (.lst (.cons (.tup (.cons (.var 1) (.cons (.var 2) .nil))) .nil))) (.cons (.fr (.nm 4) (.seq (.var 0)) (.cons (.fr (.nm 5) (.seq (.sliL (.var 4) (.con (.int 1)))) (.cons (.fr (.nm 6) (.rng1 (.bi .len (.cons (.idx (.var 5) (.con (.int 2))) .nil))) (.cons (.app 3 (.tup (.cons (.idx (.idx (.idx (.var 4) (.con (.int 0))) (.con (.int 2))) (.var 6)) (.cons (.idx (.idx (.var 5) (.con (.int 2))) (.var 6)) .nil)))) .nil)) .nil)) .nil)) (.cons (.ret (.mvr 3)) .nil)))
theorem mf {F:FT} {b:Ts} {n:Nat} {e0:List (Option Dt)} {gs:List (List Mx.D)} {one other:Mx.D} (R:aj->Prop) (hR:R e0) (hg:∀g∈gs,o4 n g) (hs:(gs.map List.length).sum<=10000)
  (step:∀(x y:Str) (ps qs r acc:List Mx.D) (e:aj),R e->ps.length<=3->qs.length=ps.length->acc.length<=100000->∃e',R e'/\aO F b ([some (.tup (aa (bY gs))),some (ofD one),some (ofD other),some (.lst (aa acc)),some (.tup (ofD (ofT x ps)::aa r)),some (ofD (ofT y qs))]++e) none= .ok (.next,[some (.tup (aa (bY gs))),some (ofD one),some (ofD other),some (.lst (aa (acc++dD ps qs))),some (.tup (ofD (ofT x ps)::aa r)),some (ofD (ofT y qs))]++e',none)):
  fin (aO F (.cons (.asgM 3 (.lst (.cons (.tup (.cons (.var 1) (.cons (.var 2) .nil))) .nil))) (.cons (.fr (.nm 4) (.seq (.var 0)) (.cons (.fr (.nm 5) (.seq (.sliL (.var 4) (.con (.int 1)))) b) .nil)) (.cons (.ret (.mvr 3)) .nil))) ([some (.tup (aa (bY gs))),some (ofD one),some (ofD other),none,none,none]++e0) none)= .ok (.lst (aa (bQ gs one other)),none):=by
 have loop:=xN (S:=none) (enc:=λg:List Mx.D=>Dt.tup (aa g)) (tg:= .nm 4) (ds:=gs) (ρ:=[some (.tup (aa (bY gs))),some (ofD one),some (ofD other),some (.lst (aa [.tup [one,other]])),none,none]++e0) (body:=aO F (.cons (.fr (.nm 5) (.seq (.sliL (.var 4) (.con (.int 1)))) b) .nil))
  (λpre ρ=>∃x y e,R e/\ρ=[some (.tup (aa (bY gs))),some (ofD one),some (ofD other),some (.lst (aa (bQ pre one other))),x,y]++e) ⟨none,none,e0,hR,by simp[bQ]⟩ (by
   rintro pre g post ρ e ⟨x,y,e1,Oj,rfl⟩;have mD:=BS e;have gG:=kF (gs:=pre) λg' kH=>hg g' (by rw[e];simp[kH])
   obtain⟨t,r,rfl,⟨tx,ps,rfl,yq,_⟩,hr⟩:=hg g (by rw[e];simp);have inner:=i5 (S:=none) (tg:= .nm 5) (ds:=r) (ρ:=[some (.tup (aa (bY gs))),some (ofD one),some (ofD other),some (.lst (aa (bQ pre one other))),some (.tup (ofD (ofT tx ps)::aa r)),y]++e1) (body:=aO F b)
    (λp ρ=>∃y e,R e/\ρ=[some (.tup (aa (bY gs))),some (ofD one),some (ofD other),some (.lst (aa (bQ pre one other++p.flatMap λu=>dD ps (aQ u)))),some (.tup (ofD (ofT tx ps)::aa r)),y]++e) ⟨y,e1,Oj,by simp⟩ (by
     rintro p u q ρ e2 ⟨y2,e3,KI,rfl⟩;obtain⟨⟨ux,qs,rfl,P6,_⟩,DJ⟩:=hr u (by rw[e2];simp);have OQ:=cz (f:=λu=>dD ps (aQ u)) (k:=3) (l:=p) λu' Lo=>by obtain⟨⟨x',FN,rfl,gT,_⟩,_⟩:=hr u' (by rw[e2];simp[Lo]);exact Qw lE gT
     have P7:p.length<=r.length:=by rw[e2];simp
     obtain⟨e',Oi,FK⟩:=step tx ux ps qs r (bQ pre one other++p.flatMap λu=>dD ps (aQ u)) e3 KI yq DJ (by rw[QB,bQ,QD];simp only[QD] at mD;lia);refine⟨_,_,rfl,FK,some (ofD (ofT ux qs)),e',Oi,?_⟩;rw[List.flatMap_append,<-Qz];simp[je])
   obtain⟨ρ3,FH,y3,e3,KI,rfl⟩:=inner;refine⟨_,_,rfl,n0 (ds:=aa r) (S1:=none) ?_ rfl FH rfl,some (.tup (ofD (ofT tx ps)::aa r)),y3,e3,KI,?_⟩
   ·have c1:=Ki (d:=ofD (ofT tx ps)) (ds:=aa r);simp only[List.cons_append,List.nil_append,RX,aa,c1]
   ·have:bQ (pre++[ofT tx ps::r]) one other=bQ pre one other++r.flatMap λu=>dD ps (aQ u):=by simp[bQ,vw,je]
    rw[this])
 obtain⟨ρ1,bc,x,y,e,_,rfl⟩:=loop;rw[<-tX] at bc;refine bu (d:= .lst (aa [.tup [one,other]])) (S1:=none) ?_ rfl (bC (ds:=aa (bY gs)) (S1:=none) ?_ rfl bc (au ?_))
 ·simp only[List.cons_append,RX];simp[ofD,aa]
 ·simp only[List.cons_append,RX]
 ·simp only[List.cons_append,RX]
theorem xc {ib N n:Nat} (hf:fs[ib]?=some ⟨3,6,false,wM⟩) (hN:1<=N) {gs:List (List Mx.D)} {one other:Mx.D} (hg:∀g∈gs,o4 n g) (hs:(gs.map List.length).sum<=10000):aF fs N ib [.tup (aa (bY gs)),ofD one,ofD other] none= .ok (.lst (aa (bQ gs one other)),none):=by
 have cW:lim=1000000:=rfl;refine aA hf hN rfl (mf (e0:=[]) (λe=>e=[]) rfl hg hs ?_);rintro x y ps qs r acc e rfl hp hq ha;have hz:=lE (ps:=ps) (qs:=qs);refine⟨[],rfl,yJ (ds:=aa acc) (es:=aa (dD ps qs)) (S1:=none) rfl ?_ (Nat.le_of_ble_eq_true rfl) (by rw[ab,ab];lia) (by rw[ar];rfl)⟩;have zz:d5 .zipL [.tup (aa ps),.tup (aa qs)]= .ok (.lst (aa (dD ps qs))):=by show ag (decide ((aa ps).length<=lim)) (R.ok (Dt.lst (dR (aa ps) (aa qs))))=_;rw[QO (by rw[ab];lia),vd];rfl
 simp only[QY,lP,RX,Kc,zz]
theorem vh {ib N n:Nat} (hf:fs[ib]?=some ⟨3,7,false,tu⟩) (hN:1<=N) {gs:List (List Mx.D)} {one other:Mx.D} (hg:∀g∈gs,o4 n g) (hs:(gs.map List.length).sum<=10000):aF fs N ib [.tup (aa (bY gs)),ofD one,ofD other] none= .ok (.lst (aa (bQ gs one other)),none):=by
 have cW:lim=1000000:=rfl;refine aA hf hN rfl (mf (e0:=[none]) (λe=>∃x,e=[x]) ⟨none,rfl⟩ hg hs ?_);rintro x y ps qs r acc e ⟨w,rfl⟩ hp hq ha;have loop:=cA (S:=none) (tg:= .nm 6) (ds:=bj 0 qs.length) (ρ:=[some (.tup (aa (bY gs))),some (ofD one),some (ofD other),some (.lst (aa acc)),some (.tup (ofD (ofT x ps)::aa r)),some (ofD (ofT y qs)),w]) (body:=aO (aF fs (N - 1)) (.cons (.app 3 (.tup (.cons (.idx (.idx (.idx (.var 4) (.con (.int 0))) (.con (.int 2))) (.var 6)) (.cons (.idx (.idx (.var 5) (.con (.int 2))) (.var 6)) .nil)))) .nil))
  (λpre ρ=>∃w,ρ=[some (.tup (aa (bY gs))),some (ofD one),some (ofD other),some (.lst (aa (acc++(dD ps qs).take pre.length))),some (.tup (ofD (ofT x ps)::aa r)),some (ofD (ofT y qs)),w]) ⟨w,by simp⟩ (by
   rintro pre v post ρ e ⟨w,rfl⟩;obtain⟨h1,rfl⟩:=dE e;have e1:ps[pre.length]?=some (ps[pre.length]'(by lia)):=QJ _;have e2:qs[pre.length]?=some (qs[pre.length]'(by lia)):=QJ _;generalize ps[pre.length]'(by lia)=p at e1;generalize qs[pre.length]'(by lia)=q at e2;have a1:=(d6 (ds:=aa ps) (k:=pre.length) (d:=ofD p) (by rw[aK,QE,e1];rfl)).1;have a2:=(d6 (ds:=aa qs) (k:=pre.length) (d:=ofD q) (by rw[aK,QE,e2];rfl)).1;have hz:(dD ps qs)[pre.length]?=some (.tup [p,q]):=by simp[dD,List.getElem?_zipWith,e1,e2]
   have Qc:((dD ps qs).take pre.length).length<=3:=by rw[List.length_take];lia
   refine⟨_,_,rfl,cG (ds:=aa (acc++(dD ps qs).take pre.length)) (d:= .tup [ofD p,ofD q]) (S1:=none) rfl (by simp only[lP,RX,Kc,a1,a2]) rfl (by rw[ab,QB];lia) rfl,some (.int pre.length),?_⟩;rw[QB,List.length_singleton,List.take_add_one,hz,<-Qz,ar (acc++_)];simp[ofD,aa])
 obtain⟨ρ1,bc,w',rfl⟩:=loop;refine⟨[w'],⟨w',rfl⟩,n0 (ds:=bj 0 qs.length) (S1:=none) (eR (n:=qs.length) (by simp only[List.cons_append,lP,RX,ab]) (by lia)) rfl bc ?_⟩;have:(dD ps qs).take (bj 0 qs.length).length=dD ps qs:=List.take_of_length_le (by simp[bj,dD];lia);rw[this];rfl
noncomputable def BM (item:Mx.D):Mx.D->List Int
 | .tup [it,.int c]=>if it=item then[c] else[]
 | _=>[]
noncomputable def ec (item:Mx.D):Mx.D->Int
 | .tup rs=>(rs.flatMap (BM item)).sum
 | _=>0
noncomputable def qY:Ts:=(.cons (.ret (.bi .sum (.cons (.comp [none,none,none,some 1] (.seq (.var 0)) (.tp [1,2]) (.cons (.cmp .Eq (.var 1) (.var 3)) .nil) (.var 2)) .nil))) .nil)
theorem iB:∀ns:List Int,intsOf (ns.map Dt.int)=some ns
 | []=>rfl
 | n::ns=>by simp[intsOf,iB ns]
theorem w6 (ns:List Int):d5 .sum [.lst (ns.map Dt.int)]= .ok (.int ns.sum):=by show (match intsOf (ns.map Dt.int) with | some ns=>R.ok (Dt.int ns.sum) | none=> .bad)=_;rw[iB]
theorem jk {it N m:Nat} (hf:fs[it]?=some ⟨2,2,false,qY⟩) (hN:1<=N) (hm:m<=8) {d item:Mx.D} (hd:cg m d):aF fs N it [ofD d,ofD item] none= .ok (.int (ec item d),none):=by
 have cW:lim=1000000:=rfl;obtain⟨m,rfl⟩:∃k,m=k + 1:=by cases m with | zero=>exact hd.elim | succ m=>exact⟨m,rfl⟩
 obtain⟨rs,rfl,hl,hr⟩:=hd;have hc:a9 (bJ (.tp [1,2]) (cV (aF fs (N - 1)) (.cons (.cmp .Eq (.var 1) (.var 3)) .nil)) (du (aF fs (N - 1)) (.var 2)) [none,none,none,some (ofD item)]) (aa rs) none= .ok ((rs.flatMap (BM item)).map Dt.int,none):=by rw[fT (λr=>(BM item r).map Dt.int) λr cX=>?_,ik];obtain⟨i,c,rfl,hi⟩:=hr r cX;have Ox:=cw (n:=4 * m + 2) (λd hd=>bG hd) rfl hi;have hq:=tM (a:=i) (b:=item) (by lia);refine(turn_if (b:=decide (i=item)) (y:= .int c) (ρ1:=[none,some (ofD i),some (.int c),some (ofD item)]) (by simp[ofD,aa,cM,dX]) (by simp only[RX,hq]) λ_=>⟨by simp only[RX],rfl⟩).trans ?_;by_cases h:i=item <;> simp[BM,h]
 refine aA hf hN rfl ?_;show fin (aO (aF fs (N - 1)) qY [some (ofD (.tup rs)),some (ofD item)] none)=_;exact au (wu (bB (ds:=aa rs) (S1:=none) (by simp only[RX,ofD]) (by rw[ab];lia) rfl hc) (w6 _))
noncomputable def IX (m:Nat) (pr:Mx.D):Prop:=∃p q,pr= .tup [p,q]/\cg m p/\cg m q
noncomputable def anyOf (nm:Mx.D):Mx.D:= .tup [.str "any",nm]
noncomputable def fq (nms:List Mx.D):Mx.D->Mx.D
 | .tup [p,q]=> .tup (nms.map λnm=> .int (ec (anyOf nm) p - ec (anyOf nm) q))
 | d=>d
noncomputable def eW (g:List Mx.D):Mx.D->Mx.D
 | .tup [p,q]=> .int (g.map λu=>ec u q - ec u p).sum
 | d=>d
theorem hZ {f:Dt->Sx->R (List Dt×Sx)} {S:Sx} (g:Mx.D->Mx.D) {ds:List Mx.D} (h:∀m∈ds,f (ofD m) S= .ok ([ofD (g m)],S)):a9 f (aa ds) S= .ok (aa (ds.map g),S):=by rw[fT (λm=>[ofD (g m)]) h];congr 2;rw[aK,List.map_map];exact fE _ _
theorem wL (nm:Mx.D):ofD (anyOf nm)= .tup [.str "any",ofD nm]:=by simp[anyOf,ofD,aa]
theorem sC (p q:Mx.D):ofD (.tup [p,q])= .tup [ofD p,ofD q]:=by simp[ofD,aa]
theorem Cu (i:Int):ofD (.int i)= .int i:=by simp[ofD]
theorem uX (l:List Mx.D):ofD (.tup l)= .tup (aa l):=by simp[ofD]
noncomputable def wW (it:Nat):Ts:=(.cons (.asgM 2 (.lst .nil)) (.cons (.fr (.tp [3,4]) (.seq (.var 0)) (.cons (.app 2 (.bi .tuple (.cons (.comp [none,none,some 3,some 4] (.seq (.var 1)) (.nm 1) .nil (.bin .Sub (.call it (.cons (.var 2) (.cons (.tup (.cons (.con (.str "any")) (.cons (.var 1) .nil))) .nil)) []) (.call it (.cons (.var 3) (.cons (.tup (.cons (.con (.str "any")) (.cons (.var 1) .nil))) .nil)) []))) .nil))) .nil)) (.cons (.ret (.mvr 2)) .nil)))
theorem za {ir it N m:Nat} (hf:fs[ir]?=some ⟨2,5,false,wW it⟩) (ht:fs[it]?=some ⟨2,2,false,qY⟩) (hN:2<=N) (hm:m<=8) {bs nms:List Mx.D} {dB dN:Dt} (hB:itemsOf dB=some (aa bs)) (Dw:itemsOf dN=some (aa nms)) (hb:∀b∈bs,IX m b) (AO:bs.length<=100000) (GY:nms.length<=100000):
  aF fs N ir [dB,dN] none= .ok (.lst (aa (bs.map (fq nms))),none):=by
 have cW:lim=1000000:=rfl;have loop:=i5 (S:=none) (tg:= .tp [3,4]) (ds:=bs) (ρ:=[some dB,some dN,some (.lst []),none,none]) (body:=aO (aF fs (N - 1)) (.cons (.app 2 (.bi .tuple (.cons (.comp [none,none,some 3,some 4] (.seq (.var 1)) (.nm 1) .nil (.bin .Sub (.call it (.cons (.var 2) (.cons (.tup (.cons (.con (.str "any")) (.cons (.var 1) .nil))) .nil)) []) (.call it (.cons (.var 3) (.cons (.tup (.cons (.con (.str "any")) (.cons (.var 1) .nil))) .nil)) []))) .nil))) .nil))
  (λpre ρ=>∃x y,ρ=[some dB,some dN,some (.lst (aa (pre.map (fq nms)))),x,y]) ⟨none,none,by simp[aa]⟩ (by
   rintro pre b post ρ e ⟨x,y,rfl⟩;obtain⟨p,q,rfl,hp,hq⟩:=hb b (by rw[e];simp);have gG:pre.length<=bs.length:=by rw[e];simp
   have hc:a9 (bJ (.nm 1) (cV (aF fs (N - 1)) .nil) (du (aF fs (N - 1)) (.bin .Sub (.call it (.cons (.var 2) (.cons (.tup (.cons (.con (.str "any")) (.cons (.var 1) .nil))) .nil)) []) (.call it (.cons (.var 3) (.cons (.tup (.cons (.con (.str "any")) (.cons (.var 1) .nil))) .nil)) []))) [none,none,some (ofD p),some (ofD q)]) (aa nms) none= .ok (aa (nms.map λnm=> .int (ec (anyOf nm) p - ec (anyOf nm) q)),none):=by
    refine hZ (λnm=> .int (ec (anyOf nm) p - ec (anyOf nm) q)) λnm _=>?_
    have t1:=jk ht (N:=N - 1) (by lia) hm (item:=anyOf nm) hp;have t2:=jk ht (N:=N - 1) (by lia) hm (item:=anyOf nm) hq;rw[wL] at t1 t2;rw[Cu];exact dO (ρ1:=[none,some (ofD nm),some (ofD p),some (ofD q)]) rfl (by simp only[RX,t1,t2]) rfl
   refine⟨[some dB,some dN,some (.lst (aa (pre.map (fq nms)))),some (ofD p),some (ofD q)],_,by rw[sC];rfl,cG (ds:=aa (pre.map (fq nms))) (S1:=none) rfl (wu (bB (ds:=aa nms) (S1:=none) (fJ (by simp only[RX]) Dw) (by rw[ab];lia) rfl hc) rfl) rfl (by rw[ab,Qu];lia) rfl,some (ofD p),some (ofD q),?_⟩;rw[Q3,ar];simp[fq,ofD,aa])
 obtain⟨ρ1,bc,x,y,rfl⟩:=loop;refine aA hf (by lia) rfl ?_;show fin (aO (aF fs (N - 1)) (wW it) [some dB,some dN,none,none,none] none)=_;exact bu (d:= .lst []) (S1:=none) rfl rfl (bC (ds:=aa bs) (S1:=none) (fJ (by simp only[RX]) hB) rfl bc (au (by simp only[RX])))
noncomputable def C2 (it:Nat):Ts:=(.cons (.asg 2 (.comp [none,none] (.seq (.var 1)) (.nm 1) .nil (.tup (.cons (.con (.str "any")) (.cons (.var 1) .nil))))) (.cons (.ret (.comp [none,none,none,some 2] (.seq (.var 0)) (.tp [1,2]) .nil (.bi .tuple (.cons (.comp [none,none,some 1,some 2] (.seq (.var 3)) (.nm 1) .nil (.bin .Sub (.call it (.cons (.var 2) (.cons (.var 1) .nil)) []) (.call it (.cons (.var 3) (.cons (.var 1) .nil)) []))) .nil)))) .nil))
theorem Dh {ir it N m:Nat} (hf:fs[ir]?=some ⟨2,3,false,C2 it⟩) (ht:fs[it]?=some ⟨2,2,false,qY⟩) (hN:2<=N) (hm:m<=8) {bs nms:List Mx.D} {dB dN:Dt} (hB:itemsOf dB=some (aa bs)) (Dw:itemsOf dN=some (aa nms)) (hb:∀b∈bs,IX m b) (AO:bs.length<=100000) (GY:nms.length<=100000):
  aF fs N ir [dB,dN] none= .ok (.lst (aa (bs.map (fq nms))),none):=by
 have cW:lim=1000000:=rfl;have h1:a9 (bJ (.nm 1) (cV (aF fs (N - 1)) .nil) (du (aF fs (N - 1)) (.tup (.cons (.con (.str "any")) (.cons (.var 1) .nil)))) [none,none]) (aa nms) none= .ok (aa (nms.map anyOf),none):=
  hZ anyOf λnm _=>by rw[wL];exact dO (ρ1:=[none,some (ofD nm)]) rfl (by simp only[RX]) rfl
 have h2:a9 (bJ (.tp [1,2]) (cV (aF fs (N - 1)) .nil) (du (aF fs (N - 1)) (.bi .tuple (.cons (.comp [none,none,some 1,some 2] (.seq (.var 3)) (.nm 1) .nil (.bin .Sub (.call it (.cons (.var 2) (.cons (.var 1) .nil)) []) (.call it (.cons (.var 3) (.cons (.var 1) .nil)) []))) .nil))) [none,none,none,some (.lst (aa (nms.map anyOf)))]) (aa bs) none= .ok (aa (bs.map (fq nms)),none):=by
  refine hZ (fq nms) λb jK=>?_
  obtain⟨p,q,rfl,hp,hq⟩:=hb b jK;have h3:a9 (bJ (.nm 1) (cV (aF fs (N - 1)) .nil) (du (aF fs (N - 1)) (.bin .Sub (.call it (.cons (.var 2) (.cons (.var 1) .nil)) []) (.call it (.cons (.var 3) (.cons (.var 1) .nil)) []))) [none,none,some (ofD p),some (ofD q)]) (aa (nms.map anyOf)) none= .ok (aa ((nms.map anyOf).map λnm=> .int (ec nm p - ec nm q)),none):=by
   refine hZ (λnm=> .int (ec nm p - ec nm q)) λnm _=>?_
   have t1:=jk ht (N:=N - 1) (by lia) hm (item:=nm) hp;have t2:=jk ht (N:=N - 1) (by lia) hm (item:=nm) hq;rw[Cu];exact dO (ρ1:=[none,some (ofD nm),some (ofD p),some (ofD q)]) rfl (by simp only[RX,t1,t2]) rfl
  rw[show ofD (fq nms (.tup [p,q]))= .tup (aa ((nms.map anyOf).map λnm=> .int (ec nm p - ec nm q))) by simp only[fq,ofD,List.map_map];rfl];exact dO (ρ1:=[none,some (ofD p),some (ofD q),some (.lst (aa (nms.map anyOf)))]) (by rw[sC];rfl) (wu (bB (ds:=aa (nms.map anyOf)) (S1:=none) (fJ (d:= .lst (aa (nms.map anyOf))) (by simp only[RX]) rfl) (by rw[ab,Qu];lia) rfl h3) rfl) rfl
 refine aA hf (by lia) rfl ?_;show fin (aO (aF fs (N - 1)) (C2 it) [some dB,some dN,none] none)=_;exact aJ (d:= .lst (aa (nms.map anyOf))) (S1:=none) (bB (ds:=aa nms) (S1:=none) (fJ (by simp only[RX]) Dw) (by rw[ab];lia) rfl h1) rfl (au (bB (ds:=aa bs) (S1:=none) (fJ (by simp only[RX]) hB) (by rw[ab];lia) rfl h2))
noncomputable def nk (it:Nat):Ts:=(.cons (.asgM 2 (.lst .nil)) (.cons (.fr (.tp [3,4]) (.seq (.var 0)) (.cons (.app 2 (.bi .sum (.cons (.comp [none,none,some 3,some 4] (.seq (.var 1)) (.nm 1) .nil (.bin .Sub (.call it (.cons (.var 3) (.cons (.var 1) .nil)) []) (.call it (.cons (.var 2) (.cons (.var 1) .nil)) []))) .nil))) .nil)) (.cons (.ret (.bi .tuple (.cons (.mvr 2) .nil))) .nil)))
theorem qi {ir it N m:Nat} (hf:fs[ir]?=some ⟨2,5,false,nk it⟩) (ht:fs[it]?=some ⟨2,2,false,qY⟩) (hN:2<=N) (hm:m<=8) {bs g:List Mx.D} {dB dN:Dt} (hB:itemsOf dB=some (aa bs)) (Dw:itemsOf dN=some (aa g)) (hb:∀b∈bs,IX m b) (AO:bs.length<=100000) (GY:g.length<=100000):
  aF fs N ir [dB,dN] none= .ok (.tup (aa (bs.map (eW g))),none):=by
 have cW:lim=1000000:=rfl;have loop:=i5 (S:=none) (tg:= .tp [3,4]) (ds:=bs) (ρ:=[some dB,some dN,some (.lst []),none,none]) (body:=aO (aF fs (N - 1)) (.cons (.app 2 (.bi .sum (.cons (.comp [none,none,some 3,some 4] (.seq (.var 1)) (.nm 1) .nil (.bin .Sub (.call it (.cons (.var 3) (.cons (.var 1) .nil)) []) (.call it (.cons (.var 2) (.cons (.var 1) .nil)) []))) .nil))) .nil))
  (λpre ρ=>∃x y,ρ=[some dB,some dN,some (.lst (aa (pre.map (eW g)))),x,y]) ⟨none,none,by simp[aa]⟩ (by
   rintro pre b post ρ e ⟨x,y,rfl⟩;obtain⟨p,q,rfl,hp,hq⟩:=hb b (by rw[e];simp);have gG:pre.length<=bs.length:=by rw[e];simp
   have hc:a9 (bJ (.nm 1) (cV (aF fs (N - 1)) .nil) (du (aF fs (N - 1)) (.bin .Sub (.call it (.cons (.var 3) (.cons (.var 1) .nil)) []) (.call it (.cons (.var 2) (.cons (.var 1) .nil)) []))) [none,none,some (ofD p),some (ofD q)]) (aa g) none= .ok ((g.map λu=>ec u q - ec u p).map Dt.int,none):=by
    rw[fT (λu=>[Dt.int (ec u q - ec u p)]) λu _=>?_,fE,List.map_map]
    ·rfl
    ·have t1:=jk ht (N:=N - 1) (by lia) hm (item:=u) hp;have t2:=jk ht (N:=N - 1) (by lia) hm (item:=u) hq;exact dO (ρ1:=[none,some (ofD u),some (ofD p),some (ofD q)]) rfl (by simp only[RX,t1,t2]) rfl
   refine⟨[some dB,some dN,some (.lst (aa (pre.map (eW g)))),some (ofD p),some (ofD q)],_,by rw[sC];rfl,cG (ds:=aa (pre.map (eW g))) (S1:=none) rfl (wu (bB (ds:=aa g) (S1:=none) (fJ (by simp only[RX]) Dw) (by rw[ab];lia) rfl hc) (w6 _)) rfl (by rw[ab,Qu];lia) rfl,some (ofD p),some (ofD q),?_⟩;rw[Q3,ar];simp[eW,ofD,aa])
 obtain⟨ρ1,bc,x,y,rfl⟩:=loop;refine aA hf (by lia) rfl ?_;show fin (aO (aF fs (N - 1)) (nk it) [some dB,some dN,none,none,none] none)=_;exact bu (d:= .lst []) (S1:=none) rfl rfl (bC (ds:=aa bs) (S1:=none) (fJ (by simp only[RX]) hB) rfl bc (au (by simp only[RX])))
theorem Au {n:Nat} {gs:List (List Mx.D)} {one other:Mx.D} (h1:cg (n + 1) one) (h2:cg (n + 1) other) (hg:∀g∈gs,o4 n g):∀b∈bQ gs one other,IX (n + 1) b:=by
 intro b hb;rcases Qx.mp hb with rfl | hb
 ·exact⟨one,other,rfl,h1,h2⟩
 ·rw[List.mem_flatMap] at hb;obtain⟨g,kH,hb⟩:=hb;obtain⟨t,r,rfl,⟨x,ps,rfl,_,hp⟩,hr⟩:=hg g kH;simp only[vw,List.mem_flatMap] at hb;obtain⟨u,hu,hb⟩:=hb;obtain⟨⟨y,qs,rfl,_,hq⟩,_⟩:=hr u hu;rw[je,je] at hb;unfold dD at hb;obtain⟨i,hi⟩:=List.mem_iff_getElem?.mp hb;rw[List.getElem?_zipWith] at hi;cases e1:ps[i]? with
  | none=>rw[e1] at hi;simp at hi
  | some p=>
   cases e2:qs[i]? with
   | none=>rw[e1,e2] at hi;simp at hi
   | some q=>rw[e1,e2] at hi;simp at hi;exact⟨p,q,hi.symm,(hp p (List.mem_iff_getElem?.mpr ⟨i,e1⟩)).up,(hq q (List.mem_iff_getElem?.mpr ⟨i,e2⟩)).up⟩
end Rx
end
section
namespace Rx
open PySem PySem.W PySem.Spec PyProof.Rows L2 PySem.SeqAt
theorem zf {fs:List Fn} {n k:Nat} {g:Fn} {args:List Dt} {S:Sx} (h:fs[k]?=some g):aF fs (n + 1) k args S=gv (aF fs n) g args S:=by show (match fs[k]? with | some g=>gv (aF fs n) g args S | none=>R.bad)=_;rw[h]
section
variable {g:G} {K:Frag} {mg:Str->Option Value} {P:Program} {w:World} {base:Heap} {fs:List Fn}
theorem rT {n L m:Nat} {params:Arguments} {body:List Stmt} {scope:Scope} {dV kV doc pm fu ct oc:Value} {an od:Option Addr} {uC:Array (Option Value)} {f:Addr} {N ps:List Str} {M:List Bool} {δ:Option Nat} {fF:Bool} {ts:Ts}
  {xv:Nat->Value} (hm:MG g mg) (A5:XG g K mg xv) (ok:oZ g K mg 0 g.fns fs) (lk:K.lookup f=some ⟨oc,od,.func (PySem.W.fnOf "law" "law" params body scope dV kV doc pm an fu ct),uC⟩) (zX:PySem.W.codeIn K fu "law"=true) (S:eJ N ps scope)
  (hM:∀i,i < ps.length->M[i]?≠some true) (hp:ps.length=1) (hc:Dc m g ⟨scope.names,N,M,δ⟩ false fF body=some ts) (hf:fs[L]?=some ⟨1,N.length,false,ts⟩)
  (hn:∀ns:List Int,ns.length<=63->∃S,aF fs (n + 1) L [.br ns] none= .ok (.bl true,S)):
  iU P w K mg base (oO P w) (n + 1) f (PySem.W.fnOf "law" "law" params body scope dV kV doc pm an fu ct) ps (uT K):=by
 have h:=mz (xv:=xv) (P:=P) (w:=w) (base:=base) lk zX S hm A5 (kY (P:=P) (w:=w) (base:=base) (xv:=xv) hm A5 ok n) hM (λz=>by cases z) hc;refine h.imp λvs H Q E q=>?_
 obtain⟨a,ns,rfl,hs,hl,hq⟩:=q;obtain⟨S',hS⟩:=hn ns hl;rw[zf hf] at hS;rw[hp];refine⟨rfl,N0,none,[.br ns],none,[.ref a],⟨rfl,rfl,rfl⟩,ak.cons ?_ ak.nil,λb z=>z.elim,?_⟩
 ·unfold RV;refine⟨a,rfl,?_⟩;rcases hs with hs | hs
  ·exact .inl ⟨hs,λz=>z⟩
  ·exact .inr hs
 ·rw[hS];intro v H' fo;rw[fo.val.aC];exact hq H'
end
theorem walkR {l:PySem.W.OpenLaw} {q:Program} {k:Nat} {loose:List Str} {XP:(Str->Option Value)->Heap->Prop} {YP:World->Heap->Prop} {d:DefRec} {K:Params->PySem.W.Frag} (hn:l.most=some 63) (GK:d.params.defaults=[]) (hr:gW k callerA)
  (hY:∀(w:World) (h:Heap),YP w h->(K w.params).In h)
  (F:∀(w:World) (mg:Str->Option Value) (fa:Addr) (h:Heap),(K w.params).In h->h.Ns mainGlobals mg->mg d.name=some (.ref fa)->
   ∃fd:FuncData,(∀(s:Shared) (u:Value),BindsTo s fd ⟨[u],[]⟩ [("_law_script",u)])/\∀base:Heap,(K w.params).In base->base.Ns mainGlobals mg->iU l.prog w (K w.params) mg base (oO l.prog w) k fa fd ["_law_script"] (uT (K w.params))):
  PySem.W.WalkO q loose XP YP l.row.toRowW d [] (λf vs=>PySem.call f vs):=
 L2.B0 (n:=63) (k:=k) (x:="_law_script") (CX:=λw=>oO l.prog w) (sp:=λw=>uT (K w.params)) hn (by decide) GK hr hY F (λ_ _ a ns hl _ hS=>⟨a,ns,rfl,hS,hl,λ_=>rfl⟩) λ_ _ _ _ _ z=>by obtain⟨_,_,_,_,_,_,_,_,_,z⟩:=z;exact z
structure Row where
 nm:Str
 s:Stmt
 ps:List Str
 ms:List Str:=[]
 dr:Option Str:=none
 dp:Bool:=false
 fB:List Dt:=[]
namespace Row
noncomputable def N (r:Row):List Str:=Pb (bt r.s).names r.ps
noncomputable def gm (r:Row):Gm:=⟨(bt r.s).names,r.N,FM r.N r.ms,if r.dp then some 0 else r.dr.bind (Cv · r.N)⟩
noncomputable def fn (g:G) (j:Nat) (r:Row):Option Fn:=(Dc 60 g r.gm r.dp (g.fr j) (ia r.s)).map λts=>⟨r.ps.length,r.N.length,r.dp,ts⟩
noncomputable def ent (r:Row):Str×Nat×List Dt×Bool:=(r.nm,r.ps.length,r.fB,r.dp)
noncomputable def ok (r:Row):Bool:=
 ((bt r.s).kind== .function)&& !(bt r.s).isCoroutine&& !(bt r.s).isGenerator&&decide r.N.Nodup&&decide (r.N.take r.ps.length=r.ps)&&
 (r.ps.all λx=>(bt r.s).names.lookup x==some .local||(bt r.s).names.lookup x==some .cell)&&((bt r.s).names.all λy=>y.2 != .free)&&
 ((FM r.N r.ms).take r.ps.length).all (λb=> !b)&&r.fB.all oX
theorem scope {r:Row} (h:r.ok=true):eJ r.N r.ps (bt r.s)/\(∀i,i < r.ps.length->(FM r.N r.ms)[i]?≠some true)/\r.fB.all oX=true:=by
 unfold ok at h;simp only[Qk] at h;obtain⟨⟨⟨⟨⟨⟨⟨⟨h1,h2⟩,h3⟩,h4⟩,h5⟩,h6⟩,h7⟩,h8⟩,h9⟩:=h;refine⟨⟨QI h1,by simpa using h2,by simpa using h3,Qm h4,Qm h5,λx hx=>?_,λy hy e=>?_⟩,Hn h8,h9⟩
 ·have:=QV.mp h6 x hx;rcases Bool.or_eq_true_iff.mp this with z | z
  ·exact .inl (QI z)
  ·exact .inr (QI z)
 ·have:=QV.mp h7 y hy;rw[e] at this;cases this
end Row
noncomputable def pE (g:G):Nat->List Row->Option (List Fn)
 | _,[]=>some []
 | j,r::rs=>(r.fn g j).bind λf=>(pE g (j + 1) rs).map (f:: ·)
noncomputable def Fd (K:Frag) (nm:Str) (s:Stmt) (ps:List Str) (fB:List Dt):Prop:=∃(fa:Addr) (oc dV kV doc pm fu ct:Value) (od an:Option Addr) (uC:Array (Option Value)),
 nsIn K mainGlobals nm=some (some (.ref fa))/\K.lookup fa=some ⟨oc,od,.func (fnOf nm nm (nE s) (ia s) (bt s) dV kV doc pm an fu ct),uC⟩/\codeIn K fu nm=true/\keepIn K (.ref fa)=true/\(fB=[]->dV= .none)/\
 ∀j,j<=fB.length->∃ds,ax ((fB.drop j).map qO) ds/\Binds K (fnOf nm nm (nE s) (ia s) (bt s) dV kV doc pm an fu ct) ps ds
noncomputable def IV (K:Frag):List Row->Prop
 | []=>True
 | r::rs=>Fd K r.nm r.s r.ps r.fB/\IV K rs
section
variable {g:G} {K:Frag} {mg:Str->Option Value} {h:Heap} {fs:List Fn}
theorem xM (X:K.In h) (Gs:h.Ns mainGlobals mg):∀{rs:List Row} {i:Nat} {fs:List Fn},rs.all Row.ok=true->pE g i rs=some fs->IV K rs->oZ g K mg i (rs.map Row.ent) fs
 | [],i,fs,_,e,_=>by cases e;trivial
 | r::rs,i,fs,hk,e,F=>by rw[List.all_cons,Qk] at hk;obtain⟨f,e1,e⟩:=Qh.mp e;obtain⟨Kt,e2,rfl⟩:=QA.mp e;obtain⟨ts,c1,rfl⟩:=QA.mp e1;obtain⟨⟨fa,oc,dV,kV,doc,pm,fu,ct,od,an,uC,a,l,c,k,_,b⟩,F⟩:=F;obtain⟨s1,s2,s3⟩:=Row.scope hk.1;exact⟨⟨fa,r.ps,r.N,_,_,60,oc,od,an,uC,_,_,_,dV,kV,doc,pm,fu,ct,l,c,k,mg_of X Gs a,s1,s2,λz=>if_pos z,rfl,c1,rfl,rfl,rfl,b,s3⟩,xM X Gs hk.2 e2 F⟩
theorem Do {rs:List Row}:∀{L i:Nat} {fs:List Fn} {r:Row},pE g i rs=some fs->rs[L]?=some r->∃ts,Dc 60 g r.gm r.dp (g.fr (i + L)) (ia r.s)=some ts/\fs[L]?=some ⟨r.ps.length,r.N.length,r.dp,ts⟩:=by
 induction rs with
 | nil=>intro L i fs r _ e;simp at e
 | cons r0 rs ih=>
  intro L i fs r e hr;obtain⟨f,e1,e⟩:=Qh.mp e;obtain⟨Kt,e2,rfl⟩:=QA.mp e;cases L with
  | zero=>cases hr;obtain⟨ts,c1,rfl⟩:=QA.mp e1;exact⟨ts,c1,rfl⟩
  | succ L=>obtain⟨ts,c1,c2⟩:=ih e2 (by simpa using hr);exact⟨ts,by rw[show i + (L + 1)=i + 1 + L by lia];exact c1,by simpa using c2⟩
theorem xH:∀{rs:List Row} {L:Nat} {r:Row},IV K rs->rs[L]?=some r->Fd K r.nm r.s r.ps r.fB
 | [],L,r,_,e=>by simp at e
 | r0::rs,0,r,F,e=>by cases e;exact F.1
 | r0::rs,L + 1,r,F,e=>xH F.2 (by simpa using e)
noncomputable def J3 (K:Frag):List Str->Prop
 | []=>True
 | x::xs=>nsIn K mainGlobals x=some none/\J3 K xs
noncomputable def JW (K:Frag):List (Str×Dt)->Prop
 | []=>True
 | x::xs=>(∃u,nsIn K mainGlobals x.1=some (some u)/\oX x.2=true/\RelV (qO x.2) u)/\JW K xs
theorem yH {x:Str}:∀{xs:List Str},J3 K xs->x∈xs->nsIn K mainGlobals x=some none
 | y::xs,h,hx=>by
  rcases Qx.mp hx with rfl | hx
  ·exact h.1
  ·exact yH h.2 hx
theorem xt {x:Str} {d:Dt}:∀{xs:List (Str×Dt)},JW K xs->xs.lookup x=some d->∃u,nsIn K mainGlobals x=some (some u)/\oX d=true/\RelV (qO d) u
 | [],_,e=>by simp at e
 | y::xs,h,e=>by
  rw[QL] at e;split at e
  ·rename_i q;cases e;rw[QI q];exact h.1
  ·exact xt h.2 e
noncomputable def Ka (K:Frag) (C:Addr):List (Str×Bool)->Prop
 | []=>True
 | x::xs=>(∃c,(nsIn K mainGlobals x.1=some (some c)/\(∃D,c= .ref D)\/nsIn K mainGlobals x.1=some none/\x.1="ValueError"/\c= .type "ValueError")/\kitOne K (.ref C) c=some x.2/\(x.2=true->exmOne K (.ref C) c=some true))/\Ka K C xs
noncomputable def J9 (K:Frag):List (Str×List (Str×Bool))->Prop
 | []=>True
 | x::xs=>(∃C,nsIn K mainGlobals x.1=some (some (.ref C))/\excIn K C Gc "ValueError.__new__"=true/\F4 K C/\Ka K C x.2)/\J9 K xs
theorem zN (X:K.In h) (Gs:h.Ns mainGlobals mg) {C:Addr} {t:Str} {b:Bool}:∀{xs:List (Str×Bool)},Ka K C xs->xs.lookup t=some b->∃c,(mg t=some c/\(∃D,c= .ref D)\/mg t=none/\t="ValueError"/\c= .type "ValueError")/\kitOne K (.ref C) c=some b/\(b=true->exmOne K (.ref C) c=some true)
 | [],_,e=>by simp at e
 | y::xs,hx,e=>by
  rw[QL] at e;split at e
  ·rename_i q;cases e;rw[QI q];obtain⟨c,h1,h2⟩:=hx.1;exact⟨c,h1.imp (λz=>⟨mg_of X Gs z.1,z.2⟩) λz=>⟨mg_none_of X Gs z.1,z.2⟩,h2⟩
  ·exact zN X Gs hx.2 e
noncomputable def IU (g:G) (mg:Str->Option Value) (k:Nat):Value:=((g.xs[k]?).bind λx=>mg x.1).getD .none
theorem zK (X:K.In h) (Gs:h.Ns mainGlobals mg):∀{xs:List (Str×List (Str×Bool))} {k:Nat} {x:Str} {ts:List (Str×Bool)},J9 K xs->xs[k]?=some (x,ts)->∃C,mg x=some (.ref C)/\J8 K mg C ts
 | [],k,x,ts,_,e=>by simp at e
 | y::xs,0,x,ts,hx,e=>by cases e;obtain⟨C,h1,h2,h3,h4⟩:=hx.1;exact⟨C,mg_of X Gs h1,h2,h3,λt b q=>zN X Gs h4 q⟩
 | y::xs,k + 1,x,ts,hx,e=>zK X Gs hx.2 (by simpa using e)
theorem law_mk {l:OpenLaw} {w:World} {fa:Addr} {rs:List Row} {cons:List (Str×Dt)} {bls:List Str} {fr:Nat->Bool} {xs:List (Str×List (Str×Bool))} {L n:Nat} {sL:Stmt} {ms:List Str} {dr:Option Str} (X:K.In h) (Gs:h.Ns mainGlobals mg) (OB:mg "law"=some (.ref fa))
  (hL:rs[L]?=some ⟨"law",sL,["_law_script"],ms,dr,false,[]⟩) (hk:rs.all Row.ok=true) (hfs:pE ⟨rs.map Row.ent,cons,bls,fr,xs⟩ 0 rs=some fs)
  (hb:∀(s:Shared) (v:Value) (kV doc pm fu ct:Value) (an:Option Addr),BindsTo s (fnOf "law" "law" (nE sL) (ia sL) (bt sL) .none kV doc pm an fu ct) ⟨[v],[]⟩ [("_law_script",v)])
  (hn:∀ns:List Int,ns.length<=63->∃S,aF fs (n + 1) L [.br ns] none= .ok (.bl true,S)) (B:J3 K bls) (C:JW K cons) (F:IV K rs) (E:J9 K xs):
  ∃fd:FuncData,(∀(s:Shared) (v:Value),BindsTo s fd ⟨[v],[]⟩ [("_law_script",v)])/\∀base:Heap,K.In base->base.Ns mainGlobals mg->iU l.prog w K mg base (oO l.prog w) (n + 1) fa fd ["_law_script"] (uT K):=by
 have A5:XG ⟨rs.map Row.ent,cons,bls,fr,xs⟩ K mg (IU ⟨rs.map Row.ent,cons,bls,fr,xs⟩ mg):=λk x ts e=>by obtain⟨C,h1,h2⟩:=zK X Gs E e;have e:xs[k]?=some (x,ts):=e;exact⟨C,by simp[IU,e,h1],h1,h2⟩
 have hm:MG ⟨rs.map Row.ent,cons,bls,fr,xs⟩ mg:=⟨λx d hx=>by
   obtain⟨u,k1,k2,k3⟩:=xt C hx;exact⟨u,k2,mg_of X Gs k1,k3⟩,λx hx=>mg_none_of X Gs (yH B hx)⟩
 have ok:=xM (g:=⟨rs.map Row.ent,cons,bls,fr,xs⟩) X Gs hk hfs F;obtain⟨PN,oc,dV,kV,doc,pm,fu,ct,od,an,uC,a,lk,c,k,hd,b⟩:=xH F hL;cases hd rfl;have e:=OB.symm.trans (mg_of X Gs a);cases e;obtain⟨ts,c1,c2⟩:=Do hfs hL;have hok:=Row.scope (QV.mp hk _ (List.mem_iff_getElem?.mpr ⟨L,hL⟩));exact⟨_,λs v=>hb s v kV doc pm fu ct an,λbase _ _=>rT hm A5 ok lk c hok.1 hok.2.1 rfl c1 c2 hn⟩
end
end Rx
end
section
namespace K62
open PySem PySem.W PySem.Spec PyProof.Rows L2 Mx Rx
noncomputable def top (i:Nat):Stmt:=PySem.Challenge.pw_mixform_k62_bonds_and_equations.main.body.getD i (.Pass ⟨0,0,0,0⟩)
noncomputable abbrev rows:List Rx.Row:=[⟨"parts_of",top 1,["item"],[],none,false,[]⟩,
 ⟨"items_within",top 3,["form"],["found"],none,false,[]⟩,
 ⟨"unknowns",top 4,["form"],[],none,false,[]⟩,
 ⟨"things_among",top 5,["items"],[],none,false,[]⟩,
 ⟨"names_of",top 7,["one","other"],[],none,false,[]⟩,
 ⟨"things_of",top 8,["one","other"],[],none,false,[]⟩,
 ⟨"bonds",top 10,["parting","one","other"],["found"],none,false,[]⟩,
 ⟨"count_at_top",top 11,["form","item"],[],none,false,[]⟩,
 ⟨"equations",top 12,["bonded","names"],[],none,false,[]⟩,
 ⟨"right_of",top 13,["bonded","group"],["found"],none,false,[]⟩,
 ⟨"_law_cell",top 15,["_law_script","_law_k"],[],none,false,[]⟩,
 ⟨"_law_pick",top 16,["_law_script","_law_k","_law_many"],[],none,false,[]⟩,
 ⟨"_law_names",top 17,["_law_script","_law_k","_law_letters"],["_law_names_here"],none,false,[]⟩,
 ⟨"_law_unknowns",top 18,["_law_script","_law_k"],[],none,false,[]⟩,
 ⟨"_law_signs",top 19,["_law_script","_law_k"],[],none,false,[]⟩,
 ⟨"_law_next",top 20,["_law_k","_law_j"],[],none,false,[]⟩,
 ⟨"_law_gathered",top 21,["_law_pairs"],["_law_found"],none,false,[]⟩,
 ⟨"_law_mix",top 22,["_law_script","_law_k","_law_deep","_law_names_here","_law_signs_here","_law_most"],["_law_pairs"],none,false,[]⟩,
 ⟨"_law_great",top 23,["_law_script","_law_k","_law_form"],["_law_found"],none,false,[]⟩,
 ⟨"_law_items_in",top 24,["_law_form"],["_law_found"],none,false,[]⟩,
 ⟨"_law_once",top 25,["_law_rows_here"],["_law_found"],none,false,[]⟩,
 ⟨"_law_names_of",top 26,["_law_one","_law_other"],[],none,false,[]⟩,
 ⟨"_law_things_of",top 27,["_law_one","_law_other"],[],none,false,[]⟩,
 ⟨"_law_like",top 28,["_law_thing","_law_other"],[],none,false,[]⟩,
 ⟨"_law_parting",top 29,["_law_script","_law_k","_law_some"],["_law_groups"],none,false,[]⟩,
 ⟨"_law_bonds",top 30,["_law_parting_here","_law_one","_law_other"],["_law_found"],none,false,[]⟩,
 ⟨"_law_top",top 31,["_law_form","_law_item"],[],none,false,[]⟩,
 ⟨"_law_rows",top 32,["_law_bonded","_law_names_here"],["_law_rows_here"],none,false,[]⟩,
 ⟨"_law_right",top 33,["_law_bonded","_law_group"],["_law_found"],none,false,[]⟩,
 ⟨"_law_same",top 34,["_law_found","_law_due"],[],none,false,[]⟩,
 ⟨"law",top 35,["_law_script"],["_law_found","_law_told"],none,false,[]⟩]
noncomputable abbrev cons:List (Str×Dt):=[]
noncomputable abbrev bls:List Str:=["bool","enumerate","int","isinstance","len","list","min","range","set","sorted","str","sum","tuple","zip"]
noncomputable abbrev fr (i:Nat):Bool:=[false,true,false,false,false,false,true,false,true,false,false,true,true,true,true,true,false,false,false,true,true,false,false,false,false,true,false,true,false,false,false].getD i false
noncomputable abbrev xs:List (Str×List (Str×Bool)):=[]
noncomputable def Kd:Ts:=(.cons (.ret (.call 12 (.cons (.var 0) (.cons (.var 1) (.cons (.con (.str "abcdefghijklmnopqrstuvwxyz")) .nil))) [])) .nil)
noncomputable def Ke:Ts:=(.cons (.ret (.call 12 (.cons (.var 0) (.cons (.var 1) (.cons (.con (.str "ABCDEFGHIJKLMNOPQRSTUVWXYZ")) .nil))) [])) .nil)
noncomputable def Kf:Ts:=(.cons (.asg 1 (.call 13 (.cons (.var 0) (.cons (.con (.int 0)) .nil)) [])) (.cons (.asg 2 (.call 14 (.cons (.var 0) (.cons (.con (.int 7)) .nil)) [])) (.cons (.asg 3 (.bin .Add (.con (.int 1)) (.call 11 (.cons (.var 0) (.cons (.con (.int 1)) (.cons (.con (.int 2)) .nil))) []))) (.cons (.asg 4 (.call 17 (.cons (.var 0) (.cons (.con (.int 20)) (.cons (.var 3) (.cons (.var 1) (.cons (.var 2) (.cons (.bin .Sub (.con (.int 5)) (.var 3)) .nil)))))) [])) (.cons (.asg 5 (.call 17 (.cons (.var 0) (.cons (.con (.int 40)) (.cons (.var 3) (.cons (.var 1) (.cons (.var 2) (.cons (.bin .Sub (.con (.int 5)) (.var 3)) .nil)))))) [])) (.cons (.ifs (.cmp .Eq (.call 11 (.cons (.var 0) (.cons (.con (.int 2)) (.cons (.con (.int 2)) .nil))) []) (.con (.int 0))) (.cons (.asg 4 (.call 18 (.cons (.var 0) (.cons (.con (.int 3)) (.cons (.var 4) .nil))) [])) (.cons (.asg 5 (.call 18 (.cons (.var 0) (.cons (.con (.int 8)) (.cons (.var 5) .nil))) [])) .nil)) .nil) (.cons (.asg 6 (.call 21 (.cons (.var 4) (.cons (.var 5) .nil)) [])) (.cons (.asg 7 (.call 22 (.cons (.var 4) (.cons (.var 5) .nil)) [])) (.cons (.ifs (.or (.nt (.call 29 (.cons (.call 4 (.cons (.var 4) (.cons (.var 5) .nil)) []) (.cons (.var 6) .nil)) [])) (.nt (.call 29 (.cons (.call 5 (.cons (.var 4) (.cons (.var 5) .nil)) []) (.cons (.var 7) .nil)) []))) (.cons (.ret (.con (.bl false))) .nil) .nil) (.cons (.asg 8 (.call 24 (.cons (.var 0) (.cons (.con (.int 60)) (.cons (.var 7) .nil))) [])) (.cons (.asg 9 (.call 25 (.cons (.var 8) (.cons (.var 4) (.cons (.var 5) .nil))) [])) (.cons (.asgM 10 (.call 6 (.cons (.var 8) (.cons (.var 4) (.cons (.var 5) .nil))) [])) (.cons (.ifs (.nt (.call 29 (.cons (.mvr 10) (.cons (.var 9) .nil)) [])) (.cons (.ret (.con (.bl false))) .nil) .nil) (.cons (.asg 11 (.call 27 (.cons (.var 9) (.cons (.var 6) .nil)) [])) (.cons (.ifs (.or (.nt (.call 29 (.cons (.call 8 (.cons (.mvr 10) (.cons (.var 6) .nil)) []) (.cons (.var 11) .nil)) [])) (.nt (.call 29 (.cons (.call 8 (.cons (.bi .tuple (.cons (.var 9) .nil)) (.cons (.bi .list (.cons (.var 6) .nil)) .nil)) []) (.cons (.var 11) .nil)) []))) (.cons (.ret (.con (.bl false))) .nil) .nil) (.cons (.fr (.nm 12) (.seq (.var 8)) (.cons (.asg 13 (.call 28 (.cons (.var 9) (.cons (.var 12) .nil)) [])) (.cons (.ifs (.or (.nt (.call 29 (.cons (.call 9 (.cons (.mvr 10) (.cons (.var 12) .nil)) []) (.cons (.var 13) .nil)) [])) (.nt (.call 29 (.cons (.call 9 (.cons (.bi .tuple (.cons (.var 9) .nil)) (.cons (.var 12) .nil)) []) (.cons (.var 13) .nil)) []))) (.cons (.ret (.con (.bl false))) .nil) .nil) .nil))) (.cons (.asgM 14 (.call 8 (.cons (.mvr 10) (.cons (.var 6) .nil)) [])) (.cons (.clr 14) (.cons (.clr 10) (.cons (.ret (.and (.call 29 (.cons (.call 6 (.cons (.var 8) (.cons (.var 4) (.cons (.var 5) .nil))) []) (.cons (.var 9) .nil)) []) (.call 29 (.cons (.call 8 (.cons (.var 9) (.cons (.var 6) .nil)) []) (.cons (.var 11) .nil)) []))) .nil))))))))))))))))))))
noncomputable def fs:List Fn:=[⟨1,1,false,kf⟩,⟨1,5,false,wO 0 1⟩,⟨1,2,false,wX 1⟩,⟨1,2,false,g9⟩,⟨2,2,false,kb 2⟩,⟨2,2,false,iV 1 3⟩,⟨3,6,false,wM⟩,⟨2,2,false,qY⟩,⟨2,3,false,C2 7⟩,⟨2,5,false,nk 7⟩,⟨2,3,false,ph⟩,⟨3,4,false,wV 10⟩,⟨3,9,false,qX 11⟩,⟨2,2,false,Kd⟩,⟨2,2,false,Ke⟩,⟨2,2,false,tE⟩,⟨1,4,false,tv⟩,⟨6,14,false,C3 11 15 16 17⟩,⟨3,5,false,qW 10⟩,⟨1,5,false,tB 19⟩,⟨1,3,false,pv⟩,⟨2,3,false,ni 19 20⟩,⟨2,3,false,ka 19 20⟩,⟨2,2,false,pq⟩,⟨3,7,false,kc 11 23⟩,⟨3,7,false,tu⟩,⟨2,2,false,qY⟩,⟨2,5,false,wW 26⟩,⟨2,5,false,nk 26⟩,⟨2,4,false,px 29⟩,⟨1,15,false,Kf⟩]
theorem hok:rows.all Rx.Row.ok=true:=by decide +kernel
theorem hfs:pE ⟨rows.map Rx.Row.ent,cons,bls,fr,xs⟩ 0 rows=some fs:=by kernel_rfl
theorem pH:gV fs 11:=⟨10,rfl,rfl⟩
theorem uo (n:Nat) (hn:4<=n) (ns:List Int) (k:Nat) (hk:k < 1000):(∃a b c,aF fs n 13 [.br ns,.int k] none= .ok (.lst [.str a,.str b,.str c],none))/\∃a b c,aF fs n 14 [.br ns,.int k] none= .ok (.lst [.str a,.str b,.str c],none):=by
 obtain⟨a,b,c,h1,_⟩:=pX (fs:=fs) pH (im:=12) rfl (n:=n - 1) (by lia) (ns:=ns) (k:=k) (L:="abcdefghijklmnopqrstuvwxyz") (by lia) rfl (by decide);obtain⟨a',b',c',h2,_⟩:=pX (fs:=fs) pH (im:=12) rfl (n:=n - 1) (by lia) (ns:=ns) (k:=k) (L:="ABCDEFGHIJKLMNOPQRSTUVWXYZ") (by lia) rfl (by decide);refine⟨⟨a,b,c,aA (body:=Kd) rfl (by lia) rfl ?_⟩,⟨a',b',c',aA (body:=Ke) rfl (by lia) rfl ?_⟩⟩
 ·show fin (aO (aF fs (n - 1)) Kd [some (.br ns),some (.int k)] none)=_;exact au (by simp only[RX,h1])
 ·show fin (aO (aF fs (n - 1)) Ke [some (.br ns),some (.int k)] none)=_;exact au (by simp only[RX,h2])
theorem zd (l:List Mx.D) (m:Nat) (hm:m < 50) (h:∀d∈l,Mx.D.dep d<=m):aF fs 59 29 [.tup (aa l),.tup (aa l)] none= .ok (.bl true,none):=
 ot (fs:=fs) (is:=29) rfl 59 (.tup (aa l)) (by simp[sm,oy]) (by have:=cy h;simp only[dp,iX];lia)
theorem CI (l:List Mx.D) (m:Nat) (hm:m < 50) (h:∀d∈l,Mx.D.dep d<=m):aF fs 59 29 [.lst (aa l),.lst (aa l)] none= .ok (.bl true,none):=
 ot (fs:=fs) (is:=29) rfl 59 (.lst (aa l)) (by simp[sm,oy]) (by have:=cy h;simp only[dp,iX];lia)
noncomputable def tail:Ts:=(.cons (.asg 6 (.call 21 (.cons (.var 4) (.cons (.var 5) .nil)) [])) (.cons (.asg 7 (.call 22 (.cons (.var 4) (.cons (.var 5) .nil)) [])) (.cons (.ifs (.or (.nt (.call 29 (.cons (.call 4 (.cons (.var 4) (.cons (.var 5) .nil)) []) (.cons (.var 6) .nil)) [])) (.nt (.call 29 (.cons (.call 5 (.cons (.var 4) (.cons (.var 5) .nil)) []) (.cons (.var 7) .nil)) []))) (.cons (.ret (.con (.bl false))) .nil) .nil) (.cons (.asg 8 (.call 24 (.cons (.var 0) (.cons (.con (.int 60)) (.cons (.var 7) .nil))) [])) (.cons (.asg 9 (.call 25 (.cons (.var 8) (.cons (.var 4) (.cons (.var 5) .nil))) [])) (.cons (.asgM 10 (.call 6 (.cons (.var 8) (.cons (.var 4) (.cons (.var 5) .nil))) [])) (.cons (.ifs (.nt (.call 29 (.cons (.mvr 10) (.cons (.var 9) .nil)) [])) (.cons (.ret (.con (.bl false))) .nil) .nil) (.cons (.asg 11 (.call 27 (.cons (.var 9) (.cons (.var 6) .nil)) [])) (.cons (.ifs (.or (.nt (.call 29 (.cons (.call 8 (.cons (.mvr 10) (.cons (.var 6) .nil)) []) (.cons (.var 11) .nil)) [])) (.nt (.call 29 (.cons (.call 8 (.cons (.bi .tuple (.cons (.var 9) .nil)) (.cons (.bi .list (.cons (.var 6) .nil)) .nil)) []) (.cons (.var 11) .nil)) []))) (.cons (.ret (.con (.bl false))) .nil) .nil) (.cons (.fr (.nm 12) (.seq (.var 8)) (.cons (.asg 13 (.call 28 (.cons (.var 9) (.cons (.var 12) .nil)) [])) (.cons (.ifs (.or (.nt (.call 29 (.cons (.call 9 (.cons (.mvr 10) (.cons (.var 12) .nil)) []) (.cons (.var 13) .nil)) [])) (.nt (.call 29 (.cons (.call 9 (.cons (.bi .tuple (.cons (.var 9) .nil)) (.cons (.var 12) .nil)) []) (.cons (.var 13) .nil)) []))) (.cons (.ret (.con (.bl false))) .nil) .nil) .nil))) (.cons (.asgM 14 (.call 8 (.cons (.mvr 10) (.cons (.var 6) .nil)) [])) (.cons (.clr 14) (.cons (.clr 10) (.cons (.ret (.and (.call 29 (.cons (.call 6 (.cons (.var 8) (.cons (.var 4) (.cons (.var 5) .nil))) []) (.cons (.var 9) .nil)) []) (.call 29 (.cons (.call 8 (.cons (.var 9) (.cons (.var 6) .nil)) []) (.cons (.var 11) .nil)) []))) .nil))))))))))))))
theorem uV {ns:List Int} {x1 x2 x3:Option Dt} {n:Nat} (hn:n + 1<=3) {one other:Mx.D} (h1:cg (n + 1) one) (h2:cg (n + 1) other):
  fin (aO (aF fs 59) tail [some (.br ns),x1,x2,x3,some (ofD one),some (ofD other),none,none,none,none,none,none,none,none,none] none)= .ok (.bl true,none):=by
 have cW:lim=1000000:=rfl;have Nv:∀N,5<=N->∀d,cg (n + 1) d->aF fs N 1 [ofD d] none= .ok (.lst (aa (bz (n + 1) d)),none):=λN hN d hd=>pQ (fs:=fs) (ip:=0) (ii:=1) rfl rfl (by lia) (by lia) hd
 have jN:∀N,5<=N->∀d,cg (n + 1) d->aF fs N 19 [ofD d] none= .ok (.lst (aa (bz (n + 1) d)),none):=λN hN d hd=>mE (fs:=fs) (ii:=19) rfl (by lia) (by lia) hd
 have Pr:=vL (fs:=fs) (iln:=21) (il:=19) (io:=20) (N:=59) rfl rfl hn (by decide) h1 h2 (jN 58 (by decide));have Pt:=r8 (fs:=fs) (ilt:=22) (il:=19) (io:=20) (N:=59) rfl rfl hn (by decide) h1 h2 (jN 58 (by decide));have v4:=sf (fs:=fs) (ino:=4) (iu:=2) (ii:=1) (N:=59) rfl rfl hn (by decide) h1 h2 (Nv 57 (by decide));have v5:=qz (fs:=fs) (ito:=5) (it:=3) (ii:=1) (N:=59) rfl rfl hn (by decide) h1 h2 (Nv 58 (by decide));have l1:=bo h1;have l2:=bo h2;have FE:=vg hn;have Jt:(bz (n + 1) one++bz (n + 1) other).length<=1256:=by rw[QB];lia
 have hN:∀d∈fL (n + 1) one other,Mx.D.dep d<=1:=λd hd=>by obtain⟨y,_,rfl⟩:=QU.mp (bx.mp (jl hd));simp[Mx.D.dep]
 have hT:∀t∈eX (n + 1) one other,IsT n t:=λt ht=>(gR (i9 h1 h2) (bx.mp (jl ht))).2
 have KO:∀t∈eX (n + 1) one other,Mx.D.dep t<=20:=λt ht=>by
  have:=cw (n:=4 * n + 2) (λd hd=>bG hd) rfl (show lY (cg n) t from .inr (hT t ht))
  lia
 have PQ:(fL (n + 1) one other).length<=1256:=by unfold fL;refine Qw oK ?_;rw[(bI _).length_eq,Qu];exact Qw eC Jt
 have PU:(eX (n + 1) one other).length<=1256:=by unfold eX;refine Qw oK ?_;rw[(bI _).length_eq];exact Qw eY Jt
 generalize fL (n + 1) one other=nms at *;generalize eX (n + 1) one other=ths at *;have s1:=zd nms 1 (by decide) hN;have s2:=zd ths 20 (by decide) KO;obtain⟨gs,Pu,hg,PZ⟩:=sD (fs:=fs) (ig:=24) (ip:=11) (il:=23) (N:=59) (n:=n) (k:=60) pH rfl rfl (by decide) (by decide) (ns:=ns) (ts:=ths) (by lia) hT;have Pv:=vh (fs:=fs) (ib:=25) (N:=59) rfl (by decide) (one:=one) (other:=other) hg (by lia);have v6:=xc (fs:=fs) (ib:=6) (N:=59) rfl (by decide) (one:=one) (other:=other) hg (by lia);have hP:=Au h1 h2 hg;have AO:(bQ gs one other).length<=100000:=by
  have:=kF hg;rw[bQ,QD]
  lia
 have K4:∀g∈gs,g.length<=100000:=λg kH=>by
  have:=gH (QU.mpr ⟨g,kH,rfl⟩:g.length∈gs.map List.length)
  lia
 generalize bQ gs one other=bs at *;have FE:∀d∈bs,Mx.D.dep d<=20:=λd hd=>by
  obtain⟨p,q,rfl,hp,hq⟩:=hP d hd;have:=bG hp;have:=bG hq;simp[Mx.D.dep,Mx.D.bX]
  lia
 have s3:=CI bs 20 (by decide) FE;have Pw:=za (fs:=fs) (ir:=27) (it:=26) (N:=59) (m:=n + 1) rfl rfl (by decide) (by lia) (bs:=bs) (nms:=nms) (dB:= .lst (aa bs)) (dN:= .tup (aa nms)) rfl rfl hP AO (by lia);have v8:=λ {dB dN:Dt} (hB:itemsOf dB=some (aa bs)) (Dw:itemsOf dN=some (aa nms))=>Dh (fs:=fs) (ir:=8) (it:=7) (N:=59) (m:=n + 1) rfl rfl (by decide) (by lia) hB Dw hP AO (by lia)
 have MB:=v8 (dB:= .lst (aa bs)) (dN:= .tup (aa nms)) rfl rfl;have Py:=v8 (dB:= .tup (aa bs)) (dN:= .lst (aa nms)) rfl rfl;have s4:=CI (bs.map (fq nms)) 2 (by decide) λd hd=>by
  obtain⟨b,hb,rfl⟩:=QU.mp hd;obtain⟨p,q,rfl,_⟩:=hP b hb;have:Mx.D.bX (nms.map λnm=>Mx.D.int (ec (anyOf nm) p - ec (anyOf nm) q))<=0:=cy λe he=>by obtain⟨nm,_,rfl⟩:=QU.mp he;simp[Mx.D.dep]
  simp only[fq,Mx.D.dep]
  lia
 have loop:=xN (S:=none) (enc:=λg:List Mx.D=>Dt.tup (aa g)) (tg:= .nm 12) (ds:=gs) (ρ:=[some (.br ns),x1,x2,x3,some (ofD one),some (ofD other),some (.tup (aa nms)),some (.tup (aa ths)),some (.tup (aa (bY gs))),some (.lst (aa bs)),some (.lst (aa bs)),some (.lst (aa (bs.map (fq nms)))),none,none,none]) (body:=aO (aF fs 59) (.cons (.asg 13 (.call 28 (.cons (.var 9) (.cons (.var 12) .nil)) [])) (.cons (.ifs (.or (.nt (.call 29 (.cons (.call 9 (.cons (.mvr 10) (.cons (.var 12) .nil)) []) (.cons (.var 13) .nil)) [])) (.nt (.call 29 (.cons (.call 9 (.cons (.bi .tuple (.cons (.var 9) .nil)) (.cons (.var 12) .nil)) []) (.cons (.var 13) .nil)) []))) (.cons (.ret (.con (.bl false))) .nil) .nil) .nil)))
  (λpre ρ=>∃x y,ρ=[some (.br ns),x1,x2,x3,some (ofD one),some (ofD other),some (.tup (aa nms)),some (.tup (aa ths)),some (.tup (aa (bY gs))),some (.lst (aa bs)),some (.lst (aa bs)),some (.lst (aa (bs.map (fq nms)))),x,y,none]) ⟨none,none,rfl⟩ (by
   rintro pre g post ρ e ⟨x,y,rfl⟩;have kH:g∈gs:=by rw[e];simp
   have Px:=qi (fs:=fs) (ir:=28) (it:=26) (N:=59) (m:=n + 1) rfl rfl (by decide) (by lia) (bs:=bs) (g:=g) (dB:= .lst (aa bs)) (dN:= .tup (aa g)) rfl rfl hP AO (K4 g kH);have v9:=λ {dB:Dt} (hB:itemsOf dB=some (aa bs))=>qi (fs:=fs) (ir:=9) (it:=7) (N:=59) (m:=n + 1) rfl rfl (by decide) (by lia) (bs:=bs) (g:=g) (dB:=dB) (dN:= .tup (aa g)) hB rfl hP AO (K4 g kH)
   have Pz:=v9 (dB:= .lst (aa bs)) rfl;have PC:=v9 (dB:= .tup (aa bs)) rfl;have s5:=zd (bs.map (eW g)) 0 (by decide) λd hd=>by obtain⟨b,hb,rfl⟩:=QU.mp hd;obtain⟨p,q,rfl,_⟩:=hP b hb;simp[eW,Mx.D.dep]
   refine⟨_,_,rfl,cm (d:= .tup (aa (bs.map (eW g)))) (S1:=none) (by simp only[RX,Px]) rfl (lO (S1:=none) (by simp only[RX,Pz,PC,s5];rfl) rfl),some (.tup (aa g)),some (.tup (aa (bs.map (eW g)))),rfl⟩)
 obtain⟨ρ1,bc,x,y,rfl⟩:=loop;rw[<-tX] at bc;refine aJ (d:= .tup (aa nms)) (S1:=none) (by simp only[RX,Pr]) rfl (aJ (d:= .tup (aa ths)) (S1:=none) (by simp only[RX,Pt]) rfl (ek (S1:=none) (by simp only[RX,v4,v5,s1,s2];rfl) ?_));refine aJ (d:= .tup (aa (bY gs))) (S1:=none) (by simp only[RX];exact congrArg (R.bind · _) Pu) rfl (aJ (d:= .lst (aa bs)) (S1:=none) (by simp only[RX,Pv]) rfl (bu (d:= .lst (aa bs)) (S1:=none) (by simp only[RX,v6]) rfl ?_));refine ek (S1:=none) (by simp only[RX,s3];rfl) (aJ (d:= .lst (aa (bs.map (fq nms)))) (S1:=none) (by simp only[RX,Pw]) rfl (ek (S1:=none) (by simp only[RX,MB,Py,s4];rfl) ?_));refine bC (ds:=aa (bY gs)) (S1:=none) (by simp only[RX]) rfl bc ?_;refine bu (d:= .lst (aa (bs.map (fq nms)))) (S1:=none) (by simp only[RX,MB]) (by show (_||iI (aa (bs.map (fq nms))))=true;rw[nZ,Bool.or_true]) (fD (xF (ds:=aa (bs.map (fq nms))) rfl) (fD (xF (ds:=aa bs) rfl) (au ?_)));simp only[List.set_cons_succ,List.set_cons_zero,RX,v6,s3,MB,s4]
theorem law_true:∀ns:List Int,ns.length<=63->∃S,aF fs 60 30 [.br ns] none= .ok (.bl true,S):=λns _=>by
 refine⟨none,aA (body:=Kf) rfl (by decide) rfl ?_⟩;show fin (aO (aF fs 59) Kf [some (.br ns),none,none,none,none,none,none,none,none,none,none,none,none,none,none] none)=_;obtain⟨⟨a,b,c,e1⟩,_⟩:=uo 59 (by decide) ns 0 (by decide);obtain⟨_,a',b',c',e2⟩:=uo 59 (by decide) ns 7 (by decide);have P:=λ(k many:Nat) (h1:k < 1000000) (h2:0 < many)=>jY (fs:=fs) pH (n:=59) (by decide) (ns:=ns) h1 h2
 have p1:=P 1 2 (by decide) (by decide);have l1:=cH (ns:=ns) (k:=1) (many:=2) (by decide);have p2:=P 2 2 (by decide) (by decide);generalize bH ns 1 2=v at p1 l1;generalize bH ns 2 2=w at p2;have q1:aF fs 59 11 [.br ns,.int 1,.int 2] none= .ok (.int v,none):=p1;have q2:aF fs 59 11 [.br ns,.int 2,.int 2] none= .ok (.int w,none):=p2;have Gk:aF fs 59 13 [.br ns,.int 0] none= .ok (.lst [.str a,.str b,.str c],none):=e1;have Cd:aF fs 59 14 [.br ns,.int 7] none= .ok (.lst [.str a',.str b',.str c'],none):=e2;have mx:=λ(k:Nat) (hk:k < 1000000)=>D4 (fs:=fs) (ip:=11) (ix:=15) (ig:=16) (im:=17) pH rfl rfl rfl (ns:=ns) (a:=a) (b:=b) (c:=c) (a':=a') (b':=b') (c':=c') (1 + v) (by lia) (N:=59) (k:=k) (most:=5 - (1 + v)) (by lia) hk (by lia)
 obtain⟨r1,m1,f1⟩:=mx 20 (by decide);obtain⟨r2,m2,f2⟩:=mx 40 (by decide);have c1:(5:Int) - (1 + (v:Int))=((5 - (1 + v):Nat):Int):=by lia
 have c2:(1:Int) + (v:Int)=((1 + v:Nat):Int):=by lia
 have t1:aF fs 59 17 [.br ns,.int 20,.int (1 + (v:Int)),.lst [.str a,.str b,.str c],.lst [.str a',.str b',.str c'],.int (5 - (1 + (v:Int)))] none= .ok (.tup (aa r1),none):=by rw[c1,c2];exact m1
 have t2:aF fs 59 17 [.br ns,.int 40,.int (1 + (v:Int)),.lst [.str a,.str b,.str c],.lst [.str a',.str b',.str c'],.int (5 - (1 + (v:Int)))] none= .ok (.tup (aa r2),none):=by rw[c1,c2];exact m2
 refine aJ (d:= .lst [.str a,.str b,.str c]) (S1:=none) (by simp only[RX,Gk]) rfl (aJ (d:= .lst [.str a',.str b',.str c']) (S1:=none) (by simp only[RX,Cd]) rfl (aJ (d:= .int (1 + v)) (S1:=none) (by simp only[RX,q1]) rfl (aJ (d:= .tup (aa r1)) (S1:=none) (by simp only[RX,t1]) rfl (aJ (d:= .tup (aa r2)) (S1:=none) (by simp only[RX,t2]) rfl ?_))));by_cases hw:w=0
 ·subst hw;obtain⟨g1,k1,j1⟩:=pG (fs:=fs) (ic:=10) (ig:=18) rfl rfl (N:=59) (k:=3) (by decide) (by decide) (ns:=ns) f1;obtain⟨g2,k2,j2⟩:=pG (fs:=fs) (ic:=10) (ig:=18) rfl rfl (N:=59) (k:=8) (by decide) (by decide) (ns:=ns) f2;have JB:aF fs 59 18 [.br ns,.int 3,.tup (aa r1)] none= .ok (.tup (aa g1),none):=k1;have O9:aF fs 59 18 [.br ns,.int 8,.tup (aa r2)] none= .ok (.tup (aa g2),none):=k2;refine kC (S1:=none) (by simp only[RX,q2];rfl) (aJ (d:= .tup (aa g1)) (S1:=none) (by simp only[RX,JB]) rfl (aJ (d:= .tup (aa g2)) (S1:=none) (by simp only[RX,O9]) rfl ?_));have:=uV (ns:=ns) (x1:=some (.lst [.str a,.str b,.str c])) (x2:=some (.lst [.str a',.str b',.str c'])) (x3:=some (.int (1 + v))) (by lia) j1 j2;rw[uX,uX] at this;exact this
 ·have e0:((w:Int)==0)=false:=by simpa using hw
  refine ek (S1:=none) (by simp only[RX,q2,e0]) ?_;have:=uV (ns:=ns) (x1:=some (.lst [.str a,.str b,.str c])) (x2:=some (.lst [.str a',.str b',.str c'])) (x3:=some (.int (1 + v))) (by lia) f1 f2;rw[uX,uX] at this;exact this
end K62
end
section
namespace PySem.W.Fast
def tw5958136972145079714:=0
def tw2446326572449267400:=0
def tw15806611517704722311:=0
def tw8237416156722753980:=0
def tw7243928433773758061:=0
def tw7071861838593791586:=0
def tw12505974595813307129:=0
def tw17246650501054846973:=0
def tw16241736829136651915:=0
def tw88037055111295456:=0
def tw10336171898975235646:=0
def tw14230512772553923399:=0
def tw5600816533362242979:=0
def tw12270554225152770957:=0
def tw15028856681968776815:=0
def tw6027207419992722634:=0
def tw14366452528351404836:=0
def tw13193135710399340070:=0
def tw10174998781675833925:=0
def tw13127802652587869676:=0
def tw4155161906150632480:=0
def tw8904363155589017783:=0
def tw2504714048151512149:=0
def tw14636000944059904294:=0
def tw10784644964066991741:=0
def tw15289011085234222481:=0
def tw4927776047779580478:=0
def tw5792434110701806027:=0
def tw13299983801082987591:=0
def tw8400869652959508585:=0
def tw4424901256642205100:=0
def tw15097668369690260073:=0
def tw2701650730944429399:=0
def tw5849131359505391135:=0
def tw8177665972213202744:=0
def tw14785183215335871457:=0
def tw8612384923616589196:=0
def tw1058565286098356778:=0
def tw9841955771387487941:=0
def tw6676187006588095246:=0
def tw15715939174791080209:=0
def tw14173018747315757332:=0
def tw7071712210624697357:=0
def tw8829657674992259037:=0
def tw17896621250689162208:=0
def tw12224352715740428191:=0
def tw13310477058552357334:=0
def tw14729694947584504017:=0
end PySem.W.Fast
open PySem PySem.W PyProof.Rows Rx
set_option maxHeartbeats 0 in
theorem PySem.Challenge.cw_mixform_k62_bonds_and_equations_holds : PySem.Challenge.rw_mixform_k62_bonds_and_equations.Holds := by
 w_on;o_law;k_head;(case hw=>w_witness2)
 k_fill
 refine walkR (k:=60) (l:=PySem.Challenge.rw_mixform_k62_bonds_and_equations) rfl rfl ⟨rfl,by decide,by decide⟩ (λw h Y=>kIn_of Y) ?F
 case F=>
  intro w mg fa h KX G hmg;refine law_mk (rs:=K62.rows) (cons:=K62.cons) (bls:=K62.bls) (xs:=K62.xs) (L:=30) (n:=59) KX G hmg rfl K62.hok K62.hfs (λs v _ _ _ _ _ _=> .of_eq rfl) K62.law_true ?B ?C ?D ?E
  case B=>exact⟨by k_is,by k_is,by k_is,by k_is,by k_is,by k_is,by k_is,by k_is,by k_is,by k_is,by k_is,by k_is,by k_is,by k_is,trivial⟩
  case C=>exact trivial
  case D=>
   refine⟨?_,?_,?_,?_,?_,?_,?_,?_,?_,?_,?_,?_,?_,?_,?_,?_,?_,?_,?_,?_,?_,?_,?_,?_,?_,?_,?_,?_,?_,?_,?_,trivial⟩
   all_goals exact⟨_,_,_,_,_,_,_,_,_,_,_,by k_is,by k_is,by k_is,by k_is,λ_=>rfl,binds0 (by repeat first | exact len0 rfl | refine lenS λ_=>?_)⟩
  case E=>exact trivial
#print axioms PySem.Challenge.cw_mixform_k62_bonds_and_equations_holds
end