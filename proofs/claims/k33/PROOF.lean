import PyProof.Rows.All
import Wide.All
import OpenK.AllK
import Wide.FinOn
import Lean
import PyProof.EqAt
import PyProof.EqKinds
import PyProof.TupleCall
import PyProof.DictRoadsH
import PyProof.TupleKey
import PyProof.DictItems
import PyProof.NeKinds
import KE.KItemsList
import PyProof.ExcBaseAll.ValueError
import KE.KTryMore
import PyProof.Rows.CallKwBuiltin
import PySem.Challenge.RW_mixform_k33_cut
set_option Elab.async false
set_option linter.all false
set_option maxRecDepth 100000
set_option maxHeartbeats 4000000
set_option bootstrap.genMatcherCode false
section
open PySem PySem.W PySem.Spec PyProof.Rows
def JN:=@wpAny_bind
def JO:=@Option.bind_eq_some_iff
def JP:=@Heap.get?_push_of_some
def JQ:=@wpAny_pure
def JR:=@Bool.and_eq_true
def JS:=@List.size_toArray
def JT:=@of_decide_eq_true
def JU:=@List.getElem?_eq_some_iff
def JV:=@List.mem_cons_of_mem
def JW:=@Nat.le_refl
def JX:=@List.mem_cons_self
def JY:=@Heap.get?_push_size
def JZ:=@List.length_map
def J0:=@Heap.lt_size
def J1:=@Nat.le_trans
def J3:=@List.mem_cons
def J4:=@List.not_mem_nil
def J5:=@List.append_assoc
def J6:=@Option.map_eq_some_iff
def J7:=@List.length_append
def J8:=@List.getElem?_set_ne
def J9:=@List.length_cons
def Ka:=@List.getElem?_map
def Kb:=@Array.length_toList
def Kc:=@Nat.lt_of_lt_of_le
def Kd:=@List.mem_append
def Ke:=@eq_of_beq
def Kf:=@List.getElem?_eq_getElem
def Kg:=@decide_eq_false
def Kh:=@List.lookup_cons
def Ki:=@KeyOrd.kle_trans
def Kj:=@Heap.get?_update_other
def Kk:=@decide_eq_true
def Kl:=@Heap.size_push
def Km:=@Nat.ne_of_lt
def Kn:=@List.mem_append_right
def Ko:=@wpAny_setField_rec
def Kp:=@List.mem_singleton
def Kq:=@List.mem_map
def Kr:=@List.all_eq_true
def Ks:=@Int.emod_nonneg
def Kt:=@Int.emod_lt_of_pos
def Ku:=@List.append_nil
def Kv:=@Bool.or_eq_true
def Kw:=@List.getElem?_append_left
def Kx:=@List.getElem?_append_right
def Ky:=@List.map_cons
def Kz:=@List.map_append
def KA:=@List.getElem?_set_self
def KB:=@List.mem_range
def KC:=@List.length_reverse
end
section
namespace L2
open PySem PySem.Spec PyProof.Rows
noncomputable abbrev Key:=Sum Int Str
noncomputable def jY:Key->Value->Bool
 | .inl k,v=>Value.isInt k v
 | .inr x,v=>Value.isStrOf x v
noncomputable def zY (w:World):Key->Int
 | .inl k=>hashInt k
 | .inr x=>hashStr w x
theorem aX:∀{k:Key} {v:Value},jY k v=true->(∃i t,k=Sum.inl i/\v=Value.int i t)\/(∃x t,k=Sum.inr x/\v=Value.str x t)
 | .inl i,v,h=>by obtain⟨t,e⟩:=Value.isInt_shape (k:=i) (v:=v) h;exact .inl ⟨i,t,rfl,e⟩
 | .inr x,v,h=>by obtain⟨t,e⟩:=Value.isStrOf_shape (x:=x) (v:=v) h;exact .inr ⟨x,t,rfl,e⟩
theorem rh (i:Int) (t:Tok):jY (.inl i) (.int i t)=true:=by simp[jY,Value.isInt]
theorem rj (x:Str) (t:Tok):jY (.inr x) (.str x t)=true:=by simp[jY,Value.isStrOf]
theorem zZ (a b:Int):decide ((Sum.inl a:Key)=Sum.inl b)=(a==b):=by
 by_cases e:a=b
 ·subst e;simp
 ·have h:¬(Sum.inl a:Key)=Sum.inl b:=λq=>e (Sum.inl.inj q)
  rw[Kg h];exact(beq_eq_false_iff_ne.mpr e).symm
theorem Ab (a b:Str):decide ((Sum.inr a:Key)=Sum.inr b)=decide (a=b):=by
 by_cases e:a=b
 ·subst e;simp
 ·have h:¬(Sum.inr a:Key)=Sum.inr b:=λq=>e (Sum.inr.inj q)
  rw[Kg h,Kg e]
theorem z9 (a:Int) (b:Str):decide ((Sum.inl a:Key)=Sum.inr b)=false:=Kg (λq=>nomatch q)
theorem Aa (a:Str) (b:Int):decide ((Sum.inr a:Key)=Sum.inl b)=false:=Kg (λq=>nomatch q)
noncomputable def dq (prog:Program) (w:World):PySem.KeyKind prog w Key where
 is:=jY
 hash:=zY w
 inj:=λv a b ha hb=>by
  rcases aX ha with ⟨i,t,rfl,rfl⟩ | ⟨x,t,rfl,rfl⟩
  ·rcases aX hb with ⟨j,u,rfl,e⟩ | ⟨y,u,rfl,e⟩
   ·injection e with e1 _;rw[e1]
   ·exact nomatch e
  ·rcases aX hb with ⟨j,u,rfl,e⟩ | ⟨y,u,rfl,e⟩
   ·exact nomatch e
   ·injection e with e1 _;rw[e1]
 byValue:=λk v h=>by rcases aX h with ⟨i,t,rfl,rfl⟩ | ⟨x,t,rfl,rfl⟩ <;> rfl
 pyHash:=λhv h=>by
  rcases aX hv with ⟨i,t,rfl,rfl⟩ | ⟨x,t,rfl,rfl⟩
  ·exact wpAny_pyHash_int h
  ·exact wpAny_pyHash_str h
 eqBool:=λhu hv h=>by
  rcases aX hu with ⟨i,t,rfl,rfl⟩ | ⟨x,t,rfl,rfl⟩
  ·rcases aX hv with ⟨j,u,rfl,rfl⟩ | ⟨y,u,rfl,rfl⟩
   ·rw[zZ] at h;exact wpAny_eqBool_int h
   ·rw[z9] at h;exact SeqAt.EqAt.int_str i t y u _ _ _ _ h
  ·rcases aX hv with ⟨j,u,rfl,rfl⟩ | ⟨y,u,rfl,rfl⟩
   ·rw[Aa] at h;exact SeqAt.EqAt.str_int x t j u _ _ _ _ h
   ·rw[Ab] at h;exact wpAny_eqBool_str h
 «strs»:=λk x t v h=>by
  rcases aX h with ⟨i,u,rfl,e⟩ | ⟨y,u,rfl,e⟩
  ·exact nomatch e
  ·injection e with e1 _;subst e1;cases v <;> rfl
theorem mz (prog:Program) (w:World) (i:Int) (t:Tok):(dq prog w).is (.inl i) (.int i t)=true:=rh i t
theorem mB (prog:Program) (w:World) (x:Str) (t:Tok):(dq prog w).is (.inr x) (.str x t)=true:=rj x t
end L2
namespace L2
open PySem PySem.Spec PyProof.Rows
inductive V where
 | ba | bl (b:Bool) | int (i:Int) | str (x:Str) | yZ (b:Array UInt8) | vx (b:UInt64) | ref (a:Addr) | ty (n:String)
 deriving DecidableEq
noncomputable def RelV:V->Value->Prop
 | .ba,u=>u=Value.none
 | .bl b,u=>u=Value.bool b
 | .int i,u=>∃t,u=Value.int i t
 | .str x,u=>∃t,u=Value.str x t
 | .yZ b,u=>∃t,u=Value.bytes b t
 | .vx b,u=>∃t,u=Value.float b t
 | .ref a,u=>u=Value.ref a
 | .ty n,u=>u=Value.type n
noncomputable abbrev aq:List V->List Value->Prop:=Paired RelV
theorem aq.length {xs:List V} {us:List Value} (r:aq xs us):xs.length=us.length:=Paired.length r
theorem aq.get:∀{xs:List V} {us:List Value} {i:Nat} {x:V},aq xs us->xs[i]?=some x->∃u,us[i]?=some u/\RelV x u
 | _,_,_,_,.nil,e=>by simp at e
 | _,_,0,_,.cons r _,e=>by simp at e;subst e;exact⟨_,rfl,r⟩
 | _,_,i + 1,x,.cons _ t,e=>by obtain⟨u,h1,h2⟩:=aq.get (i:=i) (x:=x) t (by simpa using e);exact⟨u,by simpa using h1,h2⟩
theorem aq.set {x:V} {u:Value} (r:RelV x u):∀{xs:List V} {us:List Value} (i:Nat),aq xs us->aq (xs.set i x) (us.set i u)
 | _,_,_,.nil=> .nil
 | _,_,0,.cons _ t=> .cons r t
 | _,_,i + 1,.cons q t=> .cons q (aq.set r i t)
theorem aq.append:∀{xs ys:List V} {us ws:List Value},aq xs us->aq ys ws->aq (xs++ys) (us++ws)
 | _,_,_,_,.nil,s=>s
 | _,_,_,_,.cons r t,s=> .cons r (aq.append t s)
theorem aq.take:∀{xs:List V} {us:List Value} (n:Nat),aq xs us->aq (xs.take n) (us.take n)
 | _,_,0,_=> .nil
 | _,_,_ + 1,.nil=> .nil
 | _,_,n + 1,.cons r t=> .cons r (aq.take n t)
theorem aq.drop:∀{xs:List V} {us:List Value} (n:Nat),aq xs us->aq (xs.drop n) (us.drop n)
 | _,_,0,r=>r
 | _,_,_ + 1,.nil=> .nil
 | _,_,n + 1,.cons _ t=>aq.drop n t
noncomputable def vK:Option V->Option Value->Prop
 | some v,some u=>RelV v u
 | none,none=>True
 | _,_=>False
noncomputable def KV {κ:Type}:List (κ×V)->List (κ×Value)->Prop:=Paired λ(p:κ×V) (q:κ×Value)=>p.1=q.1/\RelV p.2 q.2
noncomputable def kV:Key->V
 | .inl i=> .int i
 | .inr x=> .str x
inductive HO where
 | lst (xs:List V)
 | tup (xs:List V)
 | dK (dz:List (Key×V)) | dT (dz:List (List Key×V))
 | set (S:Int->Bool) (n:Nat)
 | ins (C dx:Addr) (fs:List (Str×V))
 | own (x:Addr)
 | xd (fs:List (Str×V))
 | met (f x:Addr)
 | AK (lo hi:Int)
 | pK (o:Obj) (u:HO)
 | vF (ps:Array Value)
 | ext (φ:Heap->Prop)
noncomputable abbrev Hp:=Addr->Option HO
noncomputable def upd (H:Hp) (a:Addr) (o:HO):Hp:=λb=>if b=a then some o else H b
theorem ar {H:Hp} {a:Addr} {o:HO}:upd H a o a=some o:=by unfold upd;rw[if_pos rfl]
theorem ah {H:Hp} {a b:Addr} {o:HO} (h:b≠a):upd H a o b=H b:=by unfold upd;rw[if_neg h]
theorem xQ {H:Hp} {a:Addr} {o u:HO}:upd (upd H a o) a u=upd H a u:=by funext b;unfold upd;split <;> rfl
theorem ak {H:Hp} {a b:Addr} {o:HO} (h:H a=some o) (h':H b=none):a≠b:=by intro e;subst e;rw[h] at h';cases h'
section
variable (P:Program) (w:World)
noncomputable def bq (H:Hp) (h:Heap) (a:Addr):HO->Prop
 | .lst xs=>xs.length<=sizeLine/\∃(its:List Value) (n:Nat),aq xs its/\h.get? a=some {cls:= .type "list",data:= .seq its.toArray n}
 | .tup xs=>xs.length<=sizeLine/\∃its:List Value,aq xs its/\IsTup h a its.toArray
 | .dK dz=>dz.length<=sizeLine/\(a==sysModules)=false/\∃vs,KV dz vs/\h.DictOf (dq P w) a vs
 | .dT dz=>dz.length<=sizeLine/\(a==sysModules)=false/\∃xs:List (List Key×Addr×Value),
   Paired (λ(p:List Key×V) (q:List Key×Addr×Value)=>p.1=q.1/\H q.2.1=some (.tup (p.1.map kV))/\RelV p.2 q.2.2) dz xs/\
   ∃o es ep,h.get? a=some o/\o.ExactDict/\o.data= .dict es ep/\es.toList=xs.map (entryOfKey (tupleKind (dq P w)))/\(xs.map (·.1)).Nodup
 | .set S n=>h.SetOf (intKind P w) a S n
 | .ins C dx fs=>H dx=some (.own a)/\fs.length<=1000/\dx≠a/\h.get? a=some (PySem.W.instObj C dx)/\
   ∃mA,h.Ns1 dx mA/\(∀f,vK (fs.lookup f) (mA f))/\PySem.Within mA (fs.map (·.1))
 | .own _=>∃o,h.get? a=some o
 | .xd fs=>∃mA,h.Ns1 a mA/\∀f,vK (fs.lookup f) (mA f)
 | .AK lo hi=>∃t u v,h.get? a=some {cls:= .type "range",data:= .fields #[.int lo t,.int hi u,.int 1 v]}
 | .pK o u=>h.get? a=some o/\bq H h a u
 | .vF ps=>h.get? a=some {cls:= .none,data:= .fields ps}
 | .met f x=>h.get? a=some (PySem.W.methodObj (.ref f) (.ref x))
 | .ext φ=>φ h/\(∃o,h.get? a=some o)/\∀h1 h2:Heap,φ h1->(∀o,h1.get? a=some o->h2.get? a=some o)->φ h2
noncomputable def cG (H:Hp) (h:Heap):Prop:=∀a o,H a=some o->bq P w H h a o
end
section
variable {P:Program} {w:World} {H H':Hp} {h h':Heap} {a:Addr} {o:HO}
theorem bq.lt (x:bq P w H h a o):a < h.objs.size:=by
 cases o with
 | lst xs=>obtain⟨_,_,_,_,e⟩:=x;exact J0 e
 | tup xs=>obtain⟨_,_,_,p⟩:=x;exact p.lt
 | dK dz=>obtain⟨_,_,_,_,o,_,_,e,_⟩:=x;exact J0 e
 | dT dz=>obtain⟨_,_,_,_,o,_,_,e,_⟩:=x;exact J0 e
 | set S n=>obtain⟨o,_,_,_,e,_⟩:=x;exact J0 e
 | ins C dx fs=>obtain⟨_,_,_,e,_⟩:=x;exact J0 e
 | own y=>obtain⟨_,e⟩:=x;exact J0 e
 | xd fs=>obtain⟨_,⟨_,_,_,e,_⟩,_⟩:=x;exact J0 e
 | AK lo hi=>obtain⟨_,_,_,e⟩:=x;exact J0 e
 | pK ob u=>obtain⟨e,_⟩:=x;exact J0 e
 | vF ps=>exact J0 (show h.get? a=some _ from x)
 | met f y=>exact J0 (show h.get? a=some _ from x)
 | ext φ=>obtain⟨_,⟨_,e⟩,_⟩:=x;exact J0 e
theorem Paired.CK {α β:Type} {F G:α->β->Prop}:∀{l₁:List α} {l₂:List β},Paired F l₁ l₂->(∀a b,F a b->G a b)->Paired G l₁ l₂
 | _,_,.nil,_=> .nil
 | _,_,.cons r t,f=> .cons (f _ _ r) (Paired.CK t f)
theorem bq.fX (x:bq P w H h a o) (k:∀b u,(b=a\/H b=some (.own a))->h.get? b=some u->h'.get? b=some u)
  (ho:∀b,H b=some (.own a)->H' b=some (.own a)) (ht:∀b xs,H b=some (.tup xs)->H' b=some (.tup xs)):bq P w H' h' a o:=by
 induction o with
 | lst xs=>obtain⟨z,its,n,r,e⟩:=x;exact⟨z,its,n,r,k _ _ (.inl rfl) e⟩
 | tup xs=>obtain⟨z,its,r,ob,e,c⟩:=x;exact⟨z,its,r,ob,k _ _ (.inl rfl) e,c⟩
 | dK dz=>obtain⟨z,y,vs,r,ob,es,ep,e,c⟩:=x;exact⟨z,y,vs,r,ob,es,ep,k _ _ (.inl rfl) e,c⟩
 | dT dz=>obtain⟨z,y,xs,r,ob,es,ep,e,c⟩:=x;exact⟨z,y,xs,Paired.CK r λp q z=>⟨z.1,ht _ _ z.2.1,z.2.2⟩,ob,es,ep,k _ _ (.inl rfl) e,c⟩
 | set S n=>obtain⟨ob,es,ep,t,e,c⟩:=x;exact⟨ob,es,ep,t,k _ _ (.inl rfl) e,c⟩
 | ins C dx fs=>obtain⟨d,z,ne,e,mA,⟨od,es,ep,e2,c⟩,r⟩:=x;exact⟨ho _ d,z,ne,k _ _ (.inl rfl) e,mA,⟨od,es,ep,k _ _ (.inr d) e2,c⟩,r⟩
 | own y=>obtain⟨ob,e⟩:=x;exact⟨ob,k _ _ (.inl rfl) e⟩
 | xd fs=>obtain⟨mA,⟨od,es,ep,e,c⟩,r⟩:=x;exact⟨mA,⟨od,es,ep,k _ _ (.inl rfl) e,c⟩,r⟩
 | AK lo hi=>obtain⟨t,u,v,e⟩:=x;exact⟨t,u,v,k _ _ (.inl rfl) e⟩
 | pK ob u ih=>obtain⟨e,q⟩:=x;exact⟨k _ _ (.inl rfl) e,ih q⟩
 | vF ps=>have e:h.get? a=some {cls:= .none,data:= .fields ps}:=x;show h'.get? a=some {cls:= .none,data:= .fields ps};exact k a _ (.inl rfl) e
 | met f y=>have e:h.get? a=some (PySem.W.methodObj (.ref f) (.ref y)):=x;show h'.get? a=some (PySem.W.methodObj (.ref f) (.ref y));exact k a _ (.inl rfl) e
 | ext φ=>obtain⟨p,⟨o,e⟩,st⟩:=x;exact⟨st _ _ p λo q=>k _ _ (.inl rfl) q,⟨o,k _ _ (.inl rfl) e⟩,st⟩
theorem cG.lt (x:cG P w H h) (e:H a=some o):a < h.objs.size:=(x a o e).lt
theorem cG.fresh (x:cG P w H h) (e:h.objs.size<=a):H a=none:=by
 cases q:H a with
 | none=>rfl
 | some u=>exact absurd (Kc (x.lt q) e) (Nat.lt_irrefl _)
theorem cG.kept (x:cG P w H h) (k:∀b u,h.get? b=some u->h'.get? b=some u):cG P w H h':=λa o e=>
 (x a o e).fX (λb u _ q=>k b u q) (λ_ q=>q) λ_ _ q=>q
theorem cG.laid (x:cG P w H h) (k:∀b u,h.get? b=some u->h'.get? b=some u) (hp:h.objs.size<=a) (new:bq P w (upd H a o) h' a o):cG P w (upd H a o) h':=λb u e=>by
 have hn:=x.fresh hp;by_cases hb:b=a
 ·subst hb;rw[ar] at e;cases e;exact new
 ·rw[ah hb] at e;exact(x b u e).fX (λc v _ q=>k c v q) (λc q=>by rw[ah (ak q hn)];exact q) λc xs q=>by rw[ah (ak q hn)];exact q
end
noncomputable def Rd (H:Hp) (a:Addr) (u:HO):Prop:=H a=some u\/∃o,H a=some (.pK o u)
theorem Rd.ok {P:Program} {w:World} {H:Hp} {h:Heap} {a:Addr} {u:HO} (r:Rd H a u) (x:cG P w H h):bq P w H h a u:=by
 rcases r with r | ⟨o,r⟩
 ·exact x a u r
 ·obtain⟨_,q⟩:=x a _ r;exact q
noncomputable def D1:Option HO->Prop
 | some (.lst _)=>True
 | some (.dK _)=>True
 | some (.dT _)=>True
 | some (.set _ _)=>True
 | some (.ins _ _ _)=>True
 | some (.ext _)=>True
 | _=>False
section
variable {P:Program} {w:World} {H:Hp} {h h':Heap} {x e:Addr} {o':HO}
theorem cG.write (ok:cG P w H h) (mu:D1 (H x)) (he:e=x\/H e=some (.own x)) (k:∀b u,b≠e->h.get? b=some u->h'.get? b=some u) (Bt:∃u,h'.get? e=some u)
  (new:bq P w (upd H x o') h' x o'):cG P w (upd H x o') h':=λb u q=>by
 have CO:∀c y,H c=some (.own y)->c≠x:=λc y r z=>by subst z;rw[r] at mu;exact mu
 have FZ:∀c xs,H c=some (.tup xs)->c≠x:=λc xs r z=>by subst z;rw[r] at mu;exact mu
 by_cases hb:b=x
 ·subst hb;rw[ar] at q;cases q;exact new
 ·rw[ah hb] at q;by_cases hbe:b=e
  ·have q':H b=some (.own x):=by
    rcases he with z | z
    ·exact absurd (hbe.trans z) hb
    ·rw[hbe];exact z
   rw[q] at q';cases q';obtain⟨v,hv⟩:=Bt;exact⟨v,by rw[hbe];exact hv⟩
  ·refine(ok b u q).fX (λc v hc r=>k c v ?_ r) (λc r=>by rw[ah (CO c b r)];exact r) λc xs r=>by rw[ah (FZ c xs r)];exact r
   rcases hc with rfl | hc
   ·exact hbe
   ·rintro rfl;rcases he with z | z
    ·exact CO c b hc z
    ·rw[hc] at z;cases z;exact hb rfl
end
structure Un (fs ex:List Addr) (H H':Hp) (h h':Heap):Prop where
 keep:∀b o,h.get? b=some o->H b=none->b∉fs->b∉ex->h'.get? b=some o
 slot:∀b o,h.get? b=some o->H b=none->b∈fs->b∉ex->∃sl,h'.get? b=some {o with slots:=sl}
 free:∀b o,h.get? b=some o->H b=none->b∉ex->H' b=none
 there:∀b o,h.get? b=some o->b∉ex->∃o',h'.get? b=some o'
 tups:∀b xs,H b=some (.tup xs)->H' b=some (.tup xs)
 frzs:∀b o u,H b=some (.pK o u)->H' b=some (.pK o u)
 tbls:∀b ps,H b=some (.vF ps)->∃more,H' b=some (.vF (ps++more))
section
variable {fs E8 ex Jz:List Addr} {H H1 H2:Hp} {h h1 h2 h':Heap} {a x e:Addr} {o:HO}
theorem Un.any (u:Un fs ex H H1 h h1) {b:Addr} {ob:Obj} (q:h.get? b=some ob) (n:H b=none) (hx:b∉ex):∃sl,h1.get? b=some {ob with slots:=sl}:=by
 by_cases hb:b∈fs
 ·exact u.slot b ob q n hb hx
 ·exact⟨ob.slots,u.keep b ob q n hb hx⟩
theorem Un.trans (a:Un fs ex H H1 h h1) (b:Un fs ex H1 H2 h1 h2):Un fs ex H H2 h h2 where
 keep:=λc ob q n hc hx=>b.keep c ob (a.keep c ob q n hc hx) (a.free c ob q n hx) hc hx
 slot:=λc ob q n hc hx=>by obtain⟨sl,e1⟩:=a.slot c ob q n hc hx;obtain⟨Dq,e2⟩:=b.slot c _ e1 (a.free c ob q n hx) hc hx;exact⟨Dq,e2⟩
 free:=λc ob q n hx=>by obtain⟨o',e1⟩:=a.there c ob q hx;exact b.free c o' e1 (a.free c ob q n hx) hx
 there:=λc ob q hx=>by obtain⟨o',e1⟩:=a.there c ob q hx;exact b.there c o' e1 hx
 tups:=λc xs q=>b.tups c xs (a.tups c xs q)
 frzs:=λc ob xs q=>b.frzs c ob xs (a.frzs c ob xs q)
 tbls:=λc ps q=>by obtain⟨m1,e1⟩:=a.tbls c ps q;obtain⟨m2,e2⟩:=b.tbls c _ e1;exact⟨m1++m2,by rw[e2,Array.append_assoc]⟩
theorem Un.kept (k:∀b u,h.get? b=some u->h'.get? b=some u):Un fs ex H H h h':=
 ⟨λb ob q _ _ _=>k b ob q,λb ob q _ _ _=>⟨ob.slots,k b ob q⟩,λ_ _ _ n _=>n,λb ob q _=>⟨ob,k b ob q⟩,λ_ _ q=>q,λ_ _ _ q=>q,λ_ ps q=>⟨#[],by rw[q];simp⟩⟩
theorem Un.refl:Un fs ex H H h h:=Un.kept λ_ _ q=>q
theorem Un.laid (k:∀b u,h.get? b=some u->h'.get? b=some u) (hp:h.objs.size<=a) (hn:H a=none):Un fs ex H (upd H a o) h h' where
 keep:=λb u q _ _ _=>k b u q
 slot:=λb u q _ _ _=>⟨u.slots,k b u q⟩
 free:=λb u q n _=>by rw[ah (Km (Kc (J0 q) hp))];exact n
 there:=λb u q _=>⟨u,k b u q⟩
 tups:=λb xs q=>by rw[ah (ak q hn)];exact q
 frzs:=λb u xs q=>by rw[ah (ak q hn)];exact q
 tbls:=λb ps q=>⟨#[],by rw[ah (ak q hn),q];simp⟩
theorem Un.write (mu:D1 (H x)) (he:e=x\/H e=some (.own x)) (k:∀b u,b≠e->h.get? b=some u->h'.get? b=some u) (Bt:∃u,h'.get? e=some u):Un fs ex H (upd H x o) h h':=by
 have hx:∀b,H b=none->b≠x:=λb n z=>by subst z;rw[n] at mu;exact mu
 have hb:∀b,H b=none->b≠e:=λb n z=>by
  subst z;rcases he with r | r
  ·exact hx b n r
  ·rw[n] at r;cases r
 have hm:∀b u,H b=some u->¬D1 (some u)->b≠x:=λb u q nm z=>by subst z;rw[q] at mu;exact nm mu
 refine⟨λb u q n _ _=>k b u (hb b n) q,λb u q n _ _=>⟨u.slots,k b u (hb b n) q⟩,λb u q n _=>by rw[ah (hx b n)];exact n,λb u q _=>?_,
  λb xs q=>by rw[ah (hm b _ q λz=>z)];exact q,λb u xs q=>by rw[ah (hm b _ q λz=>z)];exact q,λb ps q=>⟨#[],by rw[ah (hm b _ q λz=>z),q];simp⟩⟩
 by_cases hbe:b=e
 ·subst hbe;exact Bt
 ·exact⟨u,k b u hbe q⟩
end
noncomputable def A9 (h:Heap) (H:Hp):List Addr:=(List.range h.objs.size).filter λa=>(H a).isSome
noncomputable def kU (h:Heap) (H:Hp):Heap:=PySem.W.hideAll h (A9 h H)
theorem qY (h:Heap) (H:Hp):(kU h H).objs.size=h.objs.size:=PySem.W.hideAll_size _ _
theorem tQ {h:Heap} {H:Hp} {b:Addr} {o:Obj} (e:h.get? b=some o) (n:H b=none):(kU h H).get? b=some o:=
 PySem.W.hideAll_get _ e λhm=>by have q:(H b).isSome=true:=(List.mem_filter.mp hm).2;rw[n] at q;simp at q
theorem wZ {h:Heap} {H:Hp} {b:Addr} {o:Obj} (e:(kU h H).get? b=some o):h.get? b=some o/\H b=none:=by
 have e':h.get? b=some o:=PySem.W.of_hideAll (A9 h H) e;refine⟨e',?_⟩;cases q:H b with
 | none=>rfl
 | some x=>have hm:b∈A9 h H:=List.mem_filter.mpr ⟨KB.mpr (J0 e'),by simp[q]⟩;have z:(kU h H).get? b=none:=PySem.W.hideAll_none (A9 h H) hm;rw[z] at e;cases e
noncomputable def vM (g h:Heap) (L:Addr):List (Addr×Obj):=(List.range h.objs.size).filterMap λa=>if a=L\/(g.get? a).isSome=true then none else(h.get? a).map λo=>(a,o)
noncomputable def rest (g h:Heap) (L d:Addr):List (Addr×Obj):=(vM g h L).filter λp=>decide (p.1≠d)
end L2
namespace L2
open PySem PySem.Spec PyProof.Rows
structure Mod (K:PySem.W.Frag) (mg:Str->Option Value) (base:Heap):Prop where
 FN:K.In base
 glob:base.Ns mainGlobals mg
 blt:∃mb,base.Ns builtinsNs mb/\∀x:Str,x≠"__name__"->mb x=bootBuiltins x
 nolimit:base.NoLimit
structure Cx where
 prog:Program
 w:World
 K:PySem.W.Frag
 mg:Str->Option Value
 base:Heap
 A:Around
 N:List Str
 s₀:Shared
 H₀:Hp
 env:Env
 outer:List Env
 stack:List Env
 ex:List Addr
 fn:Str->Bool
 calm:Bool
 pn:List (Addr×Obj)
 xe:Value->Shared->Prop
noncomputable def dG (l:List Env):List Addr:=l.filterMap (·.frame)
noncomputable abbrev Cx.fs (X:Cx):List Addr:=dG X.outer
noncomputable def BK (sc:Scope) (x:Str):Prop:=sc.names.lookup x=some .local\/sc.names.lookup x=some .cell\/sc.names.lookup x=some .free
noncomputable def Loc (sc:Scope) (x:Str):Prop:=sc.names.lookup x=some .local\/sc.names.lookup x=some .cell
noncomputable def Look (env:Env) (h:Heap) (m:Str->Option Value) (x:Str) (u:Value):Prop:=
 (env.kindOf x=some .local/\m x=some u)\/((env.kindOf x=some .cell\/env.kindOf x=some .free)/\∃c,env.cells.lookup x=some c/\h.IsCell c (some u))
structure Cx.Ok (X:Cx):Prop where
 mod:Mod X.K X.mg X.base
 kind:X.env.scope.kind= .function
 glob:X.env.globals=mainGlobals
 blt:X.env.builtins=builtinsNs
 above:X.s₀.heap.objs.size<=X.env.locals
 inj:∀x y c,X.env.cells.lookup x=some c->X.env.cells.lookup y=some c->x=y
 has:∀x,(X.env.kindOf x=some .cell\/X.env.kindOf x=some .free)->∃c,X.env.cells.lookup x=some c
 xY:∀x c,X.fn x=true->X.env.cells.lookup x=some c->X.s₀.heap.objs.size<=c
 hd:X.calm=true->X.A.handled=none
 frames:X.A.frames=some X.stack
 A6:X.stack=X.outer\/(X.stack=X.env::X.outer/\X.env.frame=some X.env.locals)
 Bp:∀b∈X.ex,b≠X.env.locals/\∀x c,X.env.cells.lookup x=some c->c≠b
 bs:∀b o,X.base.get? b=some o->X.s₀.heap.get? b=some o/\X.H₀ b=none
 vR:X.base.objs.size<=X.s₀.heap.objs.size
 mF:∀b o,X.base.get? b=some o->b∉X.ex
 nX:∀b∈X.ex,b∉X.fs
 gM:X.s₀.heap.FunFrames X.base X.outer
 zl:∀b∈X.fs,X.H₀ b=none
structure Inv (X:Cx) (pins:List (Addr×Obj)) (σ:List (Option V)) (H:Hp) (s:Shared):Prop where
 ok:X.Ok
 os:s.os=X.s₀.os
 bare:AllBare s.gens
 base:Un X.fs X.ex X.H₀ H X.s₀.heap s.heap
 loc:∃m,s.heap.Ns X.env.locals m/\∀(i:Nat) (x:Str) (v:V),X.N[i]?=some x->σ[i]?=some (some v)->BK X.env.scope x->∃u,RelV v u/\Look X.env s.heap m x u
 cell:∀x c,X.env.cells.lookup x=some c->∃v,s.heap.IsCell c v
 free:H X.env.locals=none
 cu:∀x c,X.env.cells.lookup x=some c->H c=none
 pin:∀p∈X.pn++pins,s.heap.get? p.1=some p.2/\H p.1=none/\p.1≠X.env.locals/\p.1∉X.fs/\∀v,p.2.data≠ .cell v
 hok:cG X.prog X.w H s.heap
 len:σ.length=X.N.length
section
variable {X:Cx} {pins:List (Addr×Obj)} {σ:List (Option V)} {H H':Hp} {s:Shared} {h':Heap}
theorem Cx.Ok.FW (ok:X.Ok) {b:Addr} {o:Obj} (e:X.base.get? b=some o):b∉X.fs:=λhb=>by have:=(ok.gM.mem hb).1;rw[e] at this;cases this
theorem Inv.bs (I:Inv X pins σ H s):∀b o,X.base.get? b=some o->s.heap.get? b=some o/\H b=none:=λb o e=>
 ⟨I.base.keep b o (I.ok.bs b o e).1 (I.ok.bs b o e).2 (I.ok.FW e) (I.ok.mF b o e),I.base.free b o (I.ok.bs b o e).1 (I.ok.bs b o e).2 (I.ok.mF b o e)⟩
theorem Inv.bk (I:Inv X pins σ H s):∀b o,X.base.get? b=some o->s.heap.get? b=some o:=λb o e=>(I.bs b o e).1
theorem Inv.mod (I:Inv X pins σ H s):Mod X.K X.mg X.base:=I.ok.mod
theorem Inv.mv (I:Inv X pins σ H s):X.K.In s.heap:=I.ok.mod.FN.keeps I.bk
theorem Inv.fr (I:Inv X pins σ H s):∃m,Fr X.base X.env.locals s.heap m:=
 let ⟨m,hn,_⟩:=I.loc
 ⟨m,hn,I.bk,J1 I.ok.vR I.ok.above⟩
theorem Inv.lt (I:Inv X pins σ H s):X.env.locals < s.heap.objs.size:=let ⟨_,hn,_⟩:=I.loc;hn.lt
theorem Inv.sz (I:Inv X pins σ H s):X.s₀.heap.objs.size<=s.heap.objs.size:=J1 I.ok.above (Nat.le_of_lt I.lt)
theorem Inv.FY (I:Inv X pins σ H s) {a:Addr} (h:s.heap.objs.size<=a):a∉X.fs:=λhb=>by obtain⟨_,o,ho,_⟩:=I.ok.gM.mem hb;exact absurd (Kc (J0 ho) (J1 I.sz h)) (Nat.lt_irrefl _)
theorem Inv.zb (I:Inv X pins σ H s):∀x c,X.env.cells.lookup x=some c->c≠X.env.locals:=λx c e z=>by obtain⟨v,o,ho,hd⟩:=I.cell x c e;obtain⟨m,⟨o',es,ep,q5,oh,_⟩,_⟩:=I.loc;rw[z,q5] at ho;cases ho;rw[oh] at hd;cases hd
theorem Inv.gM (I:Inv X pins σ H s):s.heap.FunFrames X.base X.outer:=by
 have all:∀(l:List Env),(∀b∈dG l,b∈X.fs)->X.s₀.heap.FunFrames X.base l->s.heap.FunFrames X.base l:=by
  intro l
  induction l with
  | nil=>intro _ _;trivial
  | cons env r ih=>
   intro hs hl;obtain⟨hk,⟨L,o,hf,hn,ho,hd⟩,hr⟩:=hl;have hL:L∈X.fs:=hs L (by unfold dG;rw[List.filterMap_cons,hf];exact JX);obtain⟨sl,e⟩:=I.base.slot L o ho (I.ok.zl L hL) hL λz=>I.ok.nX L z hL
   exact⟨hk,⟨L,_,hf,hn,e,hd⟩,ih (λb hb=>hs b (by unfold dG;rw[List.filterMap_cons,hf];exact JV _ hb)) hr⟩
 exact all X.outer (λ_ hb=>hb) I.ok.gM
theorem Inv.stack (I:Inv X pins σ H s):s.heap.FunFrames X.base X.stack:=by
 rcases I.ok.A6 with e | ⟨e,hf⟩
 ·rw[e];exact I.gM
 ·rw[e];obtain⟨m,hn,_⟩:=I.loc;refine .cons (by rw[I.ok.kind];decide) hf hn ?_ I.gM;exact Heap.get?_none_of_le (J1 I.ok.vR I.ok.above)
theorem Inv.jh (I:Inv X pins σ H s):∀b∈dG X.stack,b∈X.env.locals::X.fs:=λb hb=>by
 rcases I.ok.A6 with e | ⟨e,hf⟩
 ·rw[e] at hb;exact JV _ hb
 ·rw[e] at hb;unfold dG at hb;rw[List.filterMap_cons,hf] at hb;exact hb
theorem Inv.ly (I:Inv X pins σ H s):∀b∈dG X.stack,H b=none:=λb hb=>by
 rcases J3.mp (I.jh b hb) with e | hb
 ·rw[e];exact I.free
 ·obtain⟨_,o,ho,_⟩:=I.ok.gM.mem hb;exact I.base.free b o ho (I.ok.zl b hb) λz=>I.ok.nX b z hb
theorem Inv.step {g':Array GenState} {t':Nat} {d':Drawn} {ch:List Addr} (I:Inv X pins σ H s)
  (vA:∀b∈ch,(b∈X.ex\/X.s₀.heap.objs.size<=b)/\b≠X.env.locals/\(∀x c,X.env.cells.lookup x=some c->c≠b)/\∀p∈X.pn++pins,p.1≠b)
  (keep:∀b o,b≠X.env.locals->b∉X.fs->b∉ch->s.heap.get? b=some o->H b=none->h'.get? b=some o)
  (slot:∀b o,b≠X.env.locals->b∈X.fs->b∉ch->s.heap.get? b=some o->H b=none->∃sl,h'.get? b=some {o with slots:=sl}) (free:∀b o,b∉ch->s.heap.get? b=some o->H b=none->H' b=none)
  (there:∀b o,b∉ch->s.heap.get? b=some o->∃o',h'.get? b=some o')
  (tups:∀b xs,H b=some (.tup xs)->H' b=some (.tup xs)) (frzs:∀b o u,H b=some (.pK o u)->H' b=some (.pK o u)) (tbls:∀b ps,H b=some (.vF ps)->∃more,H' b=some (.vF (ps++more)))
  (ns:∀m,s.heap.Ns X.env.locals m->h'.Ns X.env.locals m) (hok:cG X.prog X.w H' h') (hg:AllBare g'):
  Inv X pins σ H' {s with heap:=h',gens:=g',drawn:=d',toks:=t'}:=by
 have Ef:∀b o,X.s₀.heap.get? b=some o->b≠X.env.locals:=λb o e=>Km (Kc (J0 e) I.ok.above)
 have Ee:∀b o,X.s₀.heap.get? b=some o->b∉X.ex->b∉ch:=λb o e hx hb=>by
  rcases (vA b hb).1 with z | z
  ·exact hx z
  ·exact absurd (Kc (J0 e) z) (Nat.lt_irrefl _)
 have cellK:∀x c,X.env.cells.lookup x=some c->∀v,s.heap.IsCell c v->h'.IsCell c v:=λx c e v ⟨o,ho,hd⟩=>by
  have CL:c∉ch:=λz=>(vA c z).2.2.1 x c e rfl
  by_cases hc:c∈X.fs
  ·obtain⟨sl,q⟩:=slot c o (I.zb x c e) hc CL ho (I.cu x c e);exact⟨_,q,hd⟩
  ·exact⟨o,keep c o (I.zb x c e) hc CL ho (I.cu x c e),hd⟩
 refine⟨I.ok,I.os,hg,⟨λb o e n hb hx=>?_,λb o e n hb hx=>?_,λb o e n hx=>?_,λb o e hx=>?_,λb xs e=>tups b xs (I.base.tups b xs e),λb o xs e=>frzs b o xs (I.base.frzs b o xs e),λb ps e=>?_⟩,?_,λx c e=>?_,?_,λx c e=>?_,λp hp=>?_,hok,I.len⟩
 ·exact keep b o (Ef b o e) hb (Ee b o e hx) (I.base.keep b o e n hb hx) (I.base.free b o e n hx)
 ·obtain⟨sl,e1⟩:=I.base.slot b o e n hb hx;obtain⟨Dq,e2⟩:=slot b _ (Ef b o e) hb (Ee b o e hx) e1 (I.base.free b o e n hx);exact⟨Dq,e2⟩
 ·obtain⟨o',e1⟩:=I.base.there b o e hx;exact free b o' (Ee b o e hx) e1 (I.base.free b o e n hx)
 ·obtain⟨o',e1⟩:=I.base.there b o e hx;exact there b o' (Ee b o e hx) e1
 ·obtain⟨m1,e1⟩:=I.base.tbls b ps e;obtain⟨m2,e2⟩:=tbls b _ e1;exact⟨m1++m2,by rw[e2,Array.append_assoc]⟩
 ·obtain⟨m,hn,hl⟩:=I.loc;refine⟨m,ns m hn,λi x v e1 e2 e3=>?_⟩;obtain⟨u,r,l⟩:=hl i x v e1 e2 e3;refine⟨u,r,?_⟩;rcases l with l | ⟨k,c,e,z⟩
  ·exact .inl l
  ·exact .inr ⟨k,c,e,cellK x c e _ z⟩
 ·obtain⟨v,z⟩:=I.cell x c e;exact⟨v,cellK x c e v z⟩
 ·obtain⟨m,⟨o,_,_,ho,_⟩,_⟩:=I.loc;exact free _ o (λz=>(vA _ z).2.1 rfl) ho I.free
 ·obtain⟨v,o,ho,hd⟩:=I.cell x c e;exact free c o (λz=>(vA c z).2.2.1 x c e rfl) ho (I.cu x c e)
 ·obtain⟨e,n,ne,nf,d⟩:=I.pin p hp;have CL:p.1∉ch:=λz=>(vA p.1 z).2.2.2 p hp rfl
  exact⟨keep p.1 p.2 ne nf CL e n,free p.1 p.2 CL e n,ne,nf,d⟩
theorem Inv.un {t':Nat} (I:Inv X pins σ H s) (u:Un X.fs [] H H' s.heap h') (hok:cG X.prog X.w H' h'):Inv X pins σ H' {s with heap:=h',toks:=t'}:=by
 obtain⟨m,⟨o,es,ep,ho,r⟩,_⟩:=id I.loc;obtain⟨sl,hL⟩:=u.any ho I.free (by simp);exact I.step (g':=s.gens) (d':=s.drawn) (ch:=[]) (λ_ z=>nomatch z) (λb o _ hb _ e n=>u.keep b o e n hb (by simp)) (λb o _ hb _ e n=>u.slot b o e n hb (by simp)) (λb o _ e n=>u.free b o e n (by simp)) (λb o _ e=>u.there b o e (by simp)) u.tups u.frzs u.tbls (λm' hm=>by
  obtain⟨o',cc,zf,q5,r'⟩:=hm;rw[ho] at q5;cases q5;exact⟨_,cc,zf,hL,r'⟩) hok I.bare
theorem Inv.call {g':Array GenState} {t':Nat} {d':Drawn} {ch:List Addr} (I:Inv X pins σ H s) (u:Un (dG X.stack) ch H H' s.heap h') (hok:cG X.prog X.w H' h') (hg:AllBare g')
  (vA:∀b∈ch,(b∈X.ex\/X.s₀.heap.objs.size<=b)/\b≠X.env.locals/\(∀x c,X.env.cells.lookup x=some c->c≠b)/\∀p∈X.pn++pins,p.1≠b):
  Inv X pins σ H' {s with heap:=h',gens:=g',drawn:=d',toks:=t'}:=by
 obtain⟨m,⟨o,es,ep,ho,r⟩,_⟩:=id I.loc;obtain⟨sl,hL⟩:=u.any ho I.free λz=>(vA _ z).2.1 rfl
 exact I.step (ch:=ch) vA (λb o hL hb hc e n=>u.keep b o e n (λz=>(J3.mp (I.jh b z)).elim hL hb) hc) (λb o _ _ hc e n=>u.any e n hc) (λb o hc e n=>u.free b o e n hc) (λb o hc e=>u.there b o e hc) u.tups u.frzs u.tbls (λm' hm=>by
  obtain⟨o',cc,zf,q5,r'⟩:=hm;rw[ho] at q5;cases q5;exact⟨_,cc,zf,hL,r'⟩) hok hg
theorem Inv.turned {t':Nat} {it:Addr} (I:Inv X pins σ H s) (k:∀b o,b≠it->s.heap.get? b=some o->h'.get? b=some o) (hn:H it=none) (hL:it≠X.env.locals)
  (h1:it∈X.ex\/X.s₀.heap.objs.size<=it) (h2:∀x c,X.env.cells.lookup x=some c->c≠it) (h3:∀p∈X.pn++pins,p.1≠it):Inv X pins σ H {s with heap:=h',toks:=t'}:=by
 have sd:∀b u,H b=some u->b≠it:=λb u e z=>by rw[z,hn] at e;cases e
 refine I.step (g':=s.gens) (d':=s.drawn) (ch:=[it]) (λb hb=>?_) (λb o _ _ hc e _=>k b o (λz=>hc (by simp[z])) e) (λb o _ _ hc e _=>⟨o.slots,k b o (λz=>hc (by simp[z])) e⟩) (λ_ _ _ _ n=>n)
  (λb o hc e=>⟨o,k b o (λz=>hc (by simp[z])) e⟩) (λ_ _ e=>e) (λ_ _ _ e=>e) (λb ps e=>⟨#[],by rw[e];simp⟩) (λm hm=>?_) (λb u e=>?_) I.bare
 ·have e:b=it:=by simpa using hb
  subst e;exact⟨h1,hL,h2,h3⟩
 ·obtain⟨o,es,ep,ho,r⟩:=hm;exact⟨o,es,ep,k _ o (Ne.symm hL) ho,r⟩
 ·refine(I.hok b u e).fX (λc v hc q=>k c v ?_ q) (λ_ q=>q) λ_ _ q=>q
  rcases hc with z | z
  ·rw[z];exact sd b u e
  ·exact sd c _ z
theorem Inv.tok (I:Inv X pins σ H s) (t:Nat):Inv X pins σ H {s with toks:=t}:=I.un (h':=s.heap) (t':=t) Un.refl I.hok
theorem Inv.kept {t':Nat} (I:Inv X pins σ H s) (k:∀b u,s.heap.get? b=some u->h'.get? b=some u):Inv X pins σ H {s with heap:=h',toks:=t'}:=I.un (Un.kept k) (I.hok.kept k)
theorem Inv.laid {a:Addr} {o:HO} {t':Nat} (I:Inv X pins σ H s) (k:∀b u,s.heap.get? b=some u->h'.get? b=some u) (hp:s.heap.objs.size<=a) (new:bq X.prog X.w (upd H a o) h' a o):
  Inv X pins σ (upd H a o) {s with heap:=h',toks:=t'}:=I.un (Un.laid k hp (I.hok.fresh hp)) (I.hok.laid k hp new)
theorem Inv.write {x e:Addr} {o:HO} {t':Nat} (I:Inv X pins σ H s) (mu:D1 (H x)) (he:e=x\/H e=some (.own x)) (k:∀b u,b≠e->s.heap.get? b=some u->h'.get? b=some u) (Bt:∃u,h'.get? e=some u)
  (new:bq X.prog X.w (upd H x o) h' x o):Inv X pins σ (upd H x o) {s with heap:=h',toks:=t'}:=I.un (Un.write mu he k Bt) (I.hok.write mu he k Bt new)
theorem Inv.weak {σ':List (Option V)} (I:Inv X pins σ H s) (hl:σ'.length=σ.length) (w:∀(i:Nat) v,σ'[i]?=some (some v)->σ[i]?=some (some v)):Inv X pins σ' H s:=
 ⟨I.ok,I.os,I.bare,I.base,let ⟨m,hn,vC⟩:=I.loc;⟨m,hn,λi x v e1 e2 e3=>vC i x v e1 (w i v e2) e3⟩,I.cell,I.free,I.cu,I.pin,I.hok,hl.trans I.len⟩
theorem Inv.ik {yt:List (Addr×Obj)} (I:Inv X pins σ H s) (h:∀p∈yt,s.heap.get? p.1=some p.2/\H p.1=none/\p.1≠X.env.locals/\p.1∉X.fs/\∀v,p.2.data≠ .cell v):Inv X yt σ H s:=
 ⟨I.ok,I.os,I.bare,I.base,I.loc,I.cell,I.free,I.cu,λp hp=>(Kd.mp hp).elim (λz=>I.pin p (List.mem_append_left _ z)) (h p),I.hok,I.len⟩
theorem fP {N:List Str} (hN:N.Nodup) {i j:Nat} {x:Str} (a:N[i]?=some x) (b:N[j]?=some x):i=j:=by obtain⟨h1,e1⟩:=JU.mp a;obtain⟨h2,e2⟩:=JU.mp b;exact(List.getElem_inj hN).mp (e1.trans e2.symm)
theorem kf {M:Model} {A:Around} {E:Value->Shared->Prop} {i:Nat} {x:Str} {v:V} {u:Value} {Q:Unit->Shared->Prop} (I:Inv X pins σ H s) (hN:X.N.Nodup) (hi:X.N[i]?=some x) (hx:Loc X.env.scope x) (r:RelV v u)
  (h:∀s',Inv X pins (σ.set i (some v)) H s'->(∃a,Heap.SameBut a s.heap s'.heap/\(a=X.env.locals\/X.env.cells.lookup x=some a))->Q () s') (hf:X.fn x=true\/X.env.scope.names.lookup x=some .local:=by first | exact .inl rfl | exact .inr rfl | assumption):wpAny M A (storeName X.env x u) Q E s:=by
 obtain⟨m,hn,hl⟩:=id I.loc;have l9:(X.env.scope.kind== .class||(X.env.scope.kind== .module&&X.env.locals != X.env.globals))=false:=by rw[I.ok.kind];rfl
 have hiσ:i < σ.length:=by rw[I.len];exact(JU.mp hi).1
 have zb:=I.zb;have tracked:∀{a:Addr} {h':Heap},(∃o,s.heap.get? a=some o/\H a=none)->Heap.SameBut a s.heap h'->cG X.prog X.w H h':=λ {a h'} ha hs b ob e=>by
  obtain⟨_,_,yg⟩:=ha;refine(I.hok b ob e).fX (λc w' hc q=>(hs.2 c ?_).trans q) (λ_ q=>q) λ_ _ q=>q
  rintro rfl;rcases hc with rfl | hc
  ·rw[yg] at e;cases e
  ·rw[yg] at hc;cases hc
 rcases hx with hk | hk
 ·refine wpAny_storeName_local hk hn (λh' IF hs=>?_) l9;obtain⟨oL,_,_,Ea,_⟩:=id hn;refine h _ ⟨I.ok,I.os,I.bare,⟨λb o e n hb hx=>?_,λb o e n hb hx=>?_,I.base.free,λb o e hx=>?_,I.base.tups,I.base.frzs,I.base.tbls⟩,⟨_,IF,λj y v' e1 e2 e3=>?_⟩,λy c e=>?_,I.free,I.cu,λp hp=>?_,tracked ⟨oL,Ea,I.free⟩ hs,by simpa using I.len⟩ ⟨_,hs,.inl rfl⟩
  ·exact(hs.2 b (Km (Kc (J0 e) I.ok.above))).trans (I.base.keep b o e n hb hx)
  ·obtain⟨sl,e1⟩:=I.base.slot b o e n hb hx;exact⟨sl,(hs.2 b (Km (Kc (J0 e) I.ok.above))).trans e1⟩
  ·obtain⟨o',e1⟩:=I.base.there b o e hx;exact⟨o',(hs.2 b (Km (Kc (J0 e) I.ok.above))).trans e1⟩
  ·by_cases hj:j=i
   ·subst hj;rw[hi] at e1;cases e1;rw[KA hiσ] at e2;cases e2;exact⟨u,r,.inl ⟨hk,by simp⟩⟩
   ·rw[J8 (Ne.symm hj)] at e2;obtain⟨u',r',q⟩:=hl j y v' e1 e2 e3;refine⟨u',r',?_⟩;rcases q with ⟨k,e⟩ | ⟨k,c,e,z⟩
    ·refine .inl ⟨k,?_⟩;have:y≠x:=λe=>hj (fP hN e1 (e▸hi))
     simp[this,e]
    ·exact .inr ⟨k,c,e,z.sameBut hs (zb y c e)⟩
  ·obtain⟨w',z⟩:=I.cell y c e;exact⟨w',z.sameBut hs (zb y c e)⟩
  ·obtain⟨e,n,ne,nf,d⟩:=I.pin p hp;exact⟨(hs.2 p.1 ne).trans e,n,ne,nf,d⟩
 ·have tP:X.fn x=true:=by
   rcases hf with z | z
   ·exact z
   ·rw[z] at hk;cases hk
  obtain⟨c,hc⟩:=I.ok.has x (.inl hk);obtain⟨w',z⟩:=I.cell x c hc;refine wpAny_storeName_cell I.ok.kind hk hc z (λh' kR hs=>?_);obtain⟨oc,Hd,FE⟩:=id z;refine h {s with heap:=h'} ⟨I.ok,I.os,I.bare,⟨λb o e n hb hx=>?_,λb o e n hb hx=>?_,I.base.free,λb o e hx=>?_,I.base.tups,I.base.frzs,I.base.tbls⟩,⟨m,hn.sameBut hs (Ne.symm (zb x c hc)),λj y v' e1 e2 e3=>?_⟩,λy c' e=>?_,I.free,I.cu,λp hp=>?_,tracked ⟨oc,Hd,I.cu x c hc⟩ hs,by simpa using I.len⟩ ⟨c,hs,.inr hc⟩
  ·exact(hs.2 b (Km (Kc (J0 e) (I.ok.xY x c tP hc)))).trans (I.base.keep b o e n hb hx)
  ·obtain⟨sl,e1⟩:=I.base.slot b o e n hb hx;exact⟨sl,(hs.2 b (Km (Kc (J0 e) (I.ok.xY x c tP hc)))).trans e1⟩
  ·obtain⟨o',e1⟩:=I.base.there b o e hx;exact⟨o',(hs.2 b (Km (Kc (J0 e) (I.ok.xY x c tP hc)))).trans e1⟩
  ·by_cases hj:j=i
   ·subst hj;rw[hi] at e1;cases e1;rw[KA hiσ] at e2;cases e2;exact⟨u,r,.inr ⟨.inl hk,c,hc,kR⟩⟩
   ·rw[J8 (Ne.symm hj)] at e2;obtain⟨u',r',q⟩:=hl j y v' e1 e2 e3;refine⟨u',r',?_⟩;rcases q with q | ⟨k,c',e,z'⟩
    ·exact .inl q
    ·refine .inr ⟨k,c',e,z'.sameBut hs ?_⟩;rintro rfl;exact hj (fP hN e1 (I.ok.inj _ _ _ e hc▸hi))
  ·by_cases hcc:c'=c
   ·subst hcc;exact⟨_,kR⟩
   ·obtain⟨w2,z2⟩:=I.cell y c' e;exact⟨w2,z2.sameBut hs hcc⟩
  ·obtain⟨e,n,ne,nf,d⟩:=I.pin p hp;refine⟨(hs.2 p.1 ?_).trans e,n,ne,nf,d⟩;intro q;rw[q,Hd] at e;have q':oc=p.2:=Option.some.inj e;exact d w' (by rw[<-q'];exact FE)
theorem mV {M:Model} {A:Around} {E:Value->Shared->Prop} {i:Nat} {x:Str} {v:V} {u:Value} {Q:Unit->Shared->Prop} (I:Inv X pins σ H s) (hN:X.N.Nodup) (hi:X.N[i]?=some x) (hx:Loc X.env.scope x) (r:RelV v u)
  (h:∀s',Inv X pins (σ.set i (some v)) H s'->Q () s') (hf:X.fn x=true\/X.env.scope.names.lookup x=some .local:=by first | exact .inl rfl | exact .inr rfl | assumption):wpAny M A (storeName X.env x u) Q E s:=
 kf I hN hi hx r (λs' I' _=>h s' I') hf
theorem Inv.sG {s':Shared} {ch:List Addr} (I:Inv X pins σ H s) (ho:s'.os=s.os) (u:Un (dG X.stack) ch H H' s.heap s'.heap) (hok:cG X.prog X.w H' s'.heap) (hg:AllBare s'.gens)
  (vA:∀b∈ch,(b∈X.ex\/X.s₀.heap.objs.size<=b)/\b≠X.env.locals/\(∀x c,X.env.cells.lookup x=some c->c≠b)/\∀p∈X.pn++pins,p.1≠b):Inv X pins σ H' s':=by
 obtain⟨h',g',d',t',o'⟩:=s';have e:o'=s.os:=ho;subst e;exact I.call (g':=g') (t':=t') (d':=d') u hok hg vA
end
noncomputable abbrev XK:=Value->Option Addr->Hp->Prop
noncomputable abbrev St:=List (Option V)
noncomputable abbrev VK:=V->Hp->Prop
noncomputable abbrev TE:=St->Hp->VK->Prop
noncomputable abbrev TT:=St->Hp->(Bool->Hp->Prop)->Prop
noncomputable abbrev TA:=St->Hp->(List V->Hp->Prop)->Prop
structure Ends where
 nx:St->Hp->Prop
 rt:VK
 bk:St->Hp->Prop:=λ_ _=>False
 ct:St->Hp->Prop:=λ_ _=>False
noncomputable abbrev TS:=Ends->St->Hp->Prop
inductive EP (X:Cx) (pins:List (Addr×Obj)) (σ:St) (Q:VK) (u:Value) (s':Shared):Prop
 | mk (v:V) (H':Hp) (i:Inv X pins σ H' s') (r:RelV v u) (q:Q v H'):EP X pins σ Q u s'
inductive TP (X:Cx) (pins:List (Addr×Obj)) (σ:St) (Q:Bool->Hp->Prop) (b:Bool) (s':Shared):Prop
 | mk (H':Hp) (i:Inv X pins σ H' s') (q:Q b H'):TP X pins σ Q b s'
inductive AP (X:Cx) (pins:List (Addr×Obj)) (σ:St) (Q:List V->Hp->Prop) (us:List Value) (s':Shared):Prop
 | mk (vs:List V) (H':Hp) (i:Inv X pins σ H' s') (r:aq vs us) (q:Q vs H'):AP X pins σ Q us s'
noncomputable def SP (X:Cx) (pins:List (Addr×Obj)) (D:Ends) (f:Flow) (s':Shared):Prop:=
 match f with
 | .next=>∃σ' H',Inv X pins σ' H' s'/\D.nx σ' H'
 | .brk=>∃σ' H',Inv X pins σ' H' s'/\D.bk σ' H'
 | .cont=>∃σ' H',Inv X pins σ' H' s'/\D.ct σ' H'
 | .ret u=>∃v σ' H',Inv X pins σ' H' s'/\RelV v u/\D.rt v H'
noncomputable def PE (X:Cx) (e:Expr) (t:TE):Prop:=
 ∀(pins:List (Addr×Obj)) (s:Shared) (σ:St) (H:Hp) (Q:VK),Inv X pins σ H s->t σ H Q->wpAny (model X.prog X.w) X.A (eval e X.env) (EP X pins σ Q) X.xe s
noncomputable def PT (X:Cx) (e:Expr) (t:TT):Prop:=
 ∀(pins:List (Addr×Obj)) (s:Shared) (σ:St) (H:Hp) (Q:Bool->Hp->Prop),Inv X pins σ H s->t σ H Q->wpAny (model X.prog X.w) X.A (isTrue e X.env (eval e X.env)) (TP X pins σ Q) X.xe s
noncomputable def PW (X:Cx) (e:Expr) (t:TT):Prop:=
 ∀(whole:Sem Value) (pins:List (Addr×Obj)) (s:Shared) (σ:St) (H:Hp) (Q:Bool->Hp->Prop),Inv X pins σ H s->t σ H Q->wpAny (model X.prog X.w) X.A (isTrue e X.env whole) (TP X pins σ Q) X.xe s
theorem PW.pt {X:Cx} {e:Expr} {t:TT} (h:PW X e t):PT X e t:=h _
noncomputable def PA (X:Cx) (es:List Expr) (t:TA):Prop:=
 ∀(pos:Pos) (pins:List (Addr×Obj)) (s:Shared) (σ:St) (H:Hp) (Q:List V->Hp->Prop),Inv X pins σ H s->t σ H Q->wpAny (model X.prog X.w) X.A (spliced (backTo pos (starEach es X.env))) (AP X pins σ Q) X.xe s
noncomputable def PS (X:Cx) (st:Stmt) (t:TS):Prop:=
 ∀(pins:List (Addr×Obj)) (s:Shared) (σ:St) (H:Hp) (D:Ends),Inv X pins σ H s->t D σ H->wpAny (model X.prog X.w) X.A (exec st X.env) (SP X pins D) X.xe s
noncomputable def qG (X:Cx) (st:List Stmt) (t:TS):Prop:=
 ∀(pins:List (Addr×Obj)) (s:Shared) (σ:St) (H:Hp) (D:Ends),Inv X pins σ H s->t D σ H->wpAny (model X.prog X.w) X.A (execs st X.env) (SP X pins D) X.xe s
theorem bo {α:Type} {t:Sem α} {Q Q':α->Shared->Prop} {M:Model} {A:Around} {E:Value->Shared->Prop} {s:Shared} (h:wpAny M A t Q E s) (hQ:∀a s,Q a s->Q' a s):wpAny M A t Q' E s:=wpAny_mono h hQ λ_ _ x=>x
end L2
namespace L2
open PySem PySem.Spec PyProof.Rows
section
variable {X:Cx}
theorem bin {a b:Expr} {ta tb:TE} (ha:PE X a ta) (hb:PE X b tb) {pins:List (Addr×Obj)} {s:Shared} {σ:St} {H:Hp} {R:V->V->Hp->Prop} (I:Inv X pins σ H s) (h:ta σ H λx H1=>tb σ H1 λy H2=>R x y H2)
  {α:Type} {Q:α->Shared->Prop} {f:Value->Value->Sem α}
  (hf:∀v u s2 x y H2,Inv X pins σ H2 s2->RelV x v->RelV y u->R x y H2->wpAny (model X.prog X.w) X.A (f v u) Q X.xe s2):
  wpAny (model X.prog X.w) X.A (eval a X.env) (λv s₁=>wpAny (model X.prog X.w) X.A (eval b X.env) (λu s₂=>wpAny (model X.prog X.w) X.A (f v u) Q X.xe s₂) X.xe s₁) X.xe s:=by
 refine bo (ha pins s σ H _ I h) λv s1 ⟨x,H1,I1,r1,q1⟩=>?_
 refine bo (hb pins s1 σ H1 _ I1 q1) λu s2 ⟨y,H2,I2,r2,q2⟩=>?_
 exact hf v u s2 x y H2 I2 r1 r2 q2
noncomputable def gw (i:Nat):TE:=λσ H Q=>∃v,σ[i]?=some (some v)/\Q v H
noncomputable def tC (v:V):TE:=λ_ H Q=>Q v H
theorem lj {i:Nat} {x:Str} {pos:Pos} (hN:X.N[i]?=some x) (hv:BK X.env.scope x) (hd:(x==("__debug__":Str))=false:=by decide) (vz:(x==("__classdict__":Str))=false:=by decide):PE X (.Name x pos) (gw i):=by
 intro pins s σ H Q I h;obtain⟨v,e,h⟩:=h;obtain⟨m,hn,hl⟩:=I.loc;obtain⟨u,r,l⟩:=hl i x v hN e hv;have fin:EP X pins σ Q u s:=⟨v,H,I,r,h⟩;rcases l with ⟨hk,hm⟩ | ⟨hk,c,hc,yf⟩
 ·exact wpAny_Name (wpAny_loadName_local I.ok.kind hk hn hm fin) hd
 ·rcases hk with hk | hk
  ·exact wpAny_Name (wpAny_loadName_cell I.ok.kind hk hc yf fin) hd
  ·exact wpAny_Name (wpAny_loadName_free I.ok.kind hk hc yf fin vz) hd
theorem As {i j pos}:PE X (.Constant (.int i) j pos) (tC (.int i)):=λ_ _ _ H _ I h=>wpAny_Constant_int ⟨.int i,H,I.tok _,⟨_,rfl⟩,h⟩
theorem CY {b j pos}:PE X (.Constant (.bool b) j pos) (tC (.bl b)):=λ_ _ _ H _ I h=>Constant_bool ⟨.bl b,H,I,rfl,h⟩
theorem Av {j pos}:PE X (.Constant .none j pos) (tC .ba):=λ_ _ _ H _ I h=>Constant_none ⟨.ba,H,I,rfl,h⟩
theorem Ay {x j pos}:PE X (.Constant (.str x) j pos) (tC (.str x)):=λ_ _ _ H _ I h=>Calls.Constant_str ⟨.str x,H,I.tok _,⟨_,rfl⟩,h⟩
noncomputable def Gl (X:Cx) (x:Str):Prop:=X.env.kindOf x=some .globalImplicit
theorem p8 {E:Value->Shared->Prop} {pins:List (Addr×Obj)} {s:Shared} {σ:St} {H:Hp} {x:Str} {u:Value} {pos:Pos} {Q:Value->Shared->Prop} (I:Inv X pins σ H s) (hg:Gl X x) (hm:X.mg x=some u) (h:Q u s)
  (hd:(x==("__debug__":Str))=false:=by decide):wpAny (model X.prog X.w) X.A (eval (.Name x pos) X.env) Q E s:=
 Calls.Name_function_global I.ok.kind hg (Calls.loadGlobal_global (by rw[I.ok.glob];exact I.mod.glob.keeps I.bk) hm h) hd
theorem b7 {E:Value->Shared->Prop} {pins:List (Addr×Obj)} {s:Shared} {σ:St} {H:Hp} {x:Str} {u:Value} {pos:Pos} {Q:Value->Shared->Prop} (I:Inv X pins σ H s) (hg:Gl X x) (hm:X.mg x=none) (hv:bootBuiltins x=some u) (h:Q u s)
  (hn:x≠"__name__":=by decide) (hd:(x==("__debug__":Str))=false:=by decide):wpAny (model X.prog X.w) X.A (eval (.Name x pos) X.env) Q E s:=by
 obtain⟨mb,h1,h2⟩:=I.mod.blt;exact Calls.Name_function_global I.ok.kind hg (Calls.loadGlobal_builtin (by rw[I.ok.glob];exact I.mod.glob.keeps I.bk) hm (by rw[I.ok.blt];exact h1.keeps I.bk) ((h2 x hn).trans hv) h) hd
theorem xh {x:Str} {v:V} {u:Value} {pos:Pos} (hg:Gl X x) (hm:X.mg x=some u) (r:RelV v u) (hd:(x==("__debug__":Str))=false:=by decide):PE X (.Name x pos) (tC v):=
 λ_ _ _ H _ I h=>p8 I hg hm ⟨v,H,I,r,h⟩ hd
theorem xa {x:Str} {v:V} {u:Value} {pos:Pos} (hg:Gl X x) (hm:X.mg x=none) (hv:bootBuiltins x=some u) (r:RelV v u) (hn:x≠"__name__":=by decide) (hd:(x==("__debug__":Str))=false:=by decide):PE X (.Name x pos) (tC v):=
 λ_ _ _ H _ I h=>b7 I hg hm hv ⟨v,H,I,r,h⟩ hn hd
variable {a b:Expr} {ta tb:TE} {pos:Pos}
variable {tA Ej:TT} {rest:List Expr}
noncomputable def Gr (t u:TT):TT:=λσ H Q=>t σ H λc H1=>if c=true then u σ H1 Q else Q false H1
noncomputable def Jl (t u:TT):TT:=λσ H Q=>t σ H λc H1=>if c=true then Q true H1 else u σ H1 Q
noncomputable def Gx (t:TT):TT:=λσ H Q=>t σ H λc H1=>Q (!c) H1
theorem xA (ha:PT X a tA):PW X (.BoolOp .And [a] pos) tA:=by
 intro wh pins s σ H Q I h;refine isTrue_and (bo (ha pins s σ H Q I h) λc s1 e=>?_);cases c with
 | true=>exact isTrue_and_nil e
 | false=>exact e
theorem AG (ha:PT X a tA):PW X (.BoolOp .Or [a] pos) tA:=by
 intro wh pins s σ H Q I h;refine isTrue_or (bo (ha pins s σ H Q I h) λc s1 e=>?_);cases c with
 | false=>exact isTrue_or_nil e
 | true=>exact e
theorem AF (ha:PT X a tA) (hb:PW X (.BoolOp .And (b::rest) pos) Ej):PW X (.BoolOp .And (a::b::rest) pos) (Gr tA Ej):=by
 intro wh pins s σ H Q I h;refine isTrue_and (bo (ha pins s σ H _ I h) λc s1 ⟨H1,I1,q1⟩=>?_);cases c with
 | true=>exact hb wh pins s1 σ H1 Q I1 q1
 | false=>exact⟨H1,I1,q1⟩
theorem C4 (ha:PT X a tA) (hb:PW X (.BoolOp .Or (b::rest) pos) Ej):PW X (.BoolOp .Or (a::b::rest) pos) (Jl tA Ej):=by
 intro wh pins s σ H Q I h;refine isTrue_or (bo (ha pins s σ H _ I h) λc s1 ⟨H1,I1,q1⟩=>?_);cases c with
 | true=>exact⟨H1,I1,q1⟩
 | false=>exact hb wh pins s1 σ H1 Q I1 q1
theorem AE (ha:PT X a tA):PT X (.UnaryOp .Not a pos) (Gx tA):=by intro pins s σ H Q I h;exact isTrue_not (bo (ha pins s σ H (λc H1=>Q (!c) H1) I h) λ_ _ ⟨H1,i,q⟩=>⟨H1,i,q⟩)
noncomputable def Dw (ta tb:TE):TE:=λσ H Q=>ta σ H λx H1=>∃c,x= .bl c/\if c=true then tb σ H1 Q else Q (.bl false) H1
noncomputable def Gy (ta tb:TE):TE:=λσ H Q=>ta σ H λx H1=>∃c,x= .bl c/\if c=true then Q (.bl true) H1 else tb σ H1 Q
noncomputable def DB (ta:TE):TE:=λσ H Q=>ta σ H λx H1=>∃c,x= .bl c/\Q (.bl (!c)) H1
theorem Ax {op} {t:TE} (h:PE X a t):PE X (.BoolOp op [a] pos) t:=λpins s σ H Q I hw=>BoolOp_one (h pins s σ H Q I hw)
theorem Ap (ha:PE X a ta) (hb:PE X (.BoolOp .And (b::rest) pos) tb):PE X (.BoolOp .And (a::b::rest) pos) (Dw ta tb):=by
 intro pins s σ H Q I h;refine BoolOp_and (bo (ha pins s σ H _ I h) λv s1 ⟨x,H1,I1,r1,q1⟩=>?_);obtain⟨c,rfl,q1⟩:=q1;cases r1;refine wpAny_truthy_bool ?_;cases c with
 | true=>exact hb pins s1 σ H1 Q I1 q1
 | false=>exact⟨.bl false,H1,I1,rfl,q1⟩
theorem C1 (ha:PE X a ta) (hb:PE X (.BoolOp .Or (b::rest) pos) tb):PE X (.BoolOp .Or (a::b::rest) pos) (Gy ta tb):=by
 intro pins s σ H Q I h;refine BoolOp_or (bo (ha pins s σ H _ I h) λv s1 ⟨x,H1,I1,r1,q1⟩=>?_);obtain⟨c,rfl,q1⟩:=q1;cases r1;refine wpAny_truthy_bool ?_;cases c with
 | false=>exact hb pins s1 σ H1 Q I1 q1
 | true=>exact⟨.bl true,H1,I1,rfl,q1⟩
theorem Aw (ha:PE X a ta):PE X (.UnaryOp .Not a pos) (DB ta):=by intro pins s σ H Q I h;refine UnaryOp_ (bo (ha pins s σ H _ I h) λv s1 ⟨x,H1,I1,r1,q1⟩=>?_);obtain⟨c,rfl,q1⟩:=q1;cases r1;exact not_of (wpAny_truthy_bool ⟨.bl (!c),H1,I1,rfl,q1⟩)
end
end L2
namespace L2
open PySem PySem.Spec PyProof.Rows
noncomputable def cY (K:PySem.W.Frag) (H:Hp) (a:Addr) (xs:List V):Prop:=
 Rd H a (.lst xs)\/
  ∃(o:Obj) (its:Array Value) (n:Nat),K.lookup a=some o/\o.cls= .type "list"/\o.dict=none/\o.data= .seq its n/\its.size<=sizeLine/\aq xs its.toList
noncomputable def de (K:PySem.W.Frag) (H:Hp) (a:Addr) (xs:List V):Prop:=
 Rd H a (.tup xs)\/
  ∃(o:Obj) (its:Array Value) (n:Nat),K.lookup a=some o/\o.cls= .type "tuple"/\o.data= .seq its n/\its.size<=sizeLine/\aq xs its.toList
noncomputable def EU:Value->Option V
 | .none=>some .ba
 | .bool b=>some (.bl b)
 | .int i _=>some (.int i)
 | .str x _=>some (.str x)
 | .bytes b _=>some (.yZ b)
 | .float b _=>some (.vx b)
 | .ref a=>some (.ref a)
 | .type n=>some (.ty n)
 | _=>none
theorem RelV.abs {x:V} {u:Value} (r:RelV x u):EU u=some x:=by
 cases x with
 | ba=>cases r;rfl
 | bl _=>cases r;rfl
 | int _=>obtain⟨t,rfl⟩:=r;rfl
 | str _=>obtain⟨t,rfl⟩:=r;rfl
 | yZ _=>obtain⟨t,rfl⟩:=r;rfl
 | vx _=>obtain⟨t,rfl⟩:=r;rfl
 | ref _=>cases r;rfl
 | ty _=>cases r;rfl
theorem RelV.inj {x y:V} {u:Value} (r:RelV x u) (q:RelV y u):x=y:=Option.some.inj (r.abs.symm.trans q.abs)
theorem aq.inj:∀{xs ys:List V} {us:List Value},aq xs us->aq ys us->xs=ys
 | _,_,_,.nil,.nil=>rfl
 | _,_,_,.cons r t,.cons r' t'=>by rw[r.inj r',aq.inj t t']
section
variable {X:Cx} {pins:List (Addr×Obj)} {σ:St} {H:Hp} {s:Shared} {a:Addr} {xs ys:List V}
theorem cY.of {K:PySem.W.Frag} (h:H a=some (.lst xs)):cY K H a xs:= .inl (.inl h)
theorem de.of {K:PySem.W.Frag} (h:H a=some (.tup xs)):de K H a xs:= .inl (.inl h)
theorem Inv.list (I:Inv X pins σ H s) (h:cY X.K H a xs):∃its:List Value,aq xs its/\PlainL s.heap a its.toArray/\xs.length<=sizeLine:=by
 rcases h with h | ⟨o,its,n,hk,hc,hd,hs,hz,r⟩
 ·obtain⟨z,its,n,r,e⟩:=h.ok I.hok;exact⟨its,r,⟨_,n,e,rfl,rfl,rfl⟩,z⟩
 ·refine⟨its.toList,r,⟨o,n,I.mv a o hk,hc,hd,by simpa using hs⟩,?_⟩;have e:=r.length;simp only[Kb] at e
  lia
theorem Inv.tuple (I:Inv X pins σ H s) (h:de X.K H a xs):∃its:List Value,aq xs its/\IsTup s.heap a its.toArray/\xs.length<=sizeLine:=by
 rcases h with h | ⟨o,its,n,hk,hc,hs,hz,r⟩
 ·obtain⟨z,its,r,p⟩:=h.ok I.hok;exact⟨its,r,p,z⟩
 ·refine⟨its.toList,r,⟨o,I.mv a o hk,hc,n,by simpa using hs⟩,?_⟩;have e:=r.length;simp only[Kb] at e
  lia
theorem Inv.ub (I:Inv X pins σ H s) (h:cY X.K H a xs) (h':cY X.K H a ys):xs=ys:=by
 obtain⟨its,r,⟨o,n,e,_,_,d⟩,_⟩:=I.list h;obtain⟨its',r',⟨o',n',e',_,_,d'⟩,_⟩:=I.list h';rw[e] at e';cases e';rw[d] at d';injection d' with d1 _;have:its=its':=by simpa using congrArg Array.toList d1
 subst this;exact r.inj r'
theorem Inv.rK (I:Inv X pins σ H s) (h:de X.K H a xs) (h':de X.K H a ys):xs=ys:=by
 obtain⟨its,r,⟨o,e,_,n,d⟩,_⟩:=I.tuple h;obtain⟨its',r',⟨o',e',_,n',d'⟩,_⟩:=I.tuple h';rw[e] at e';cases e';rw[d] at d';injection d' with d1 _;have:its=its':=by simpa using congrArg Array.toList d1
 subst this;exact r.inj r'
end
noncomputable abbrev Cx.cA (X:Cx) (E:Value->Shared->Prop):Cx:={X with xe:=E}
theorem Cx.Ok.cA {X:Cx} (ok:X.Ok) (E:Value->Shared->Prop):(X.cA E).Ok:=
 ⟨ok.mod,ok.kind,ok.glob,ok.blt,ok.above,ok.inj,ok.has,ok.xY,ok.hd,ok.frames,ok.A6,ok.Bp,ok.bs,ok.vR,ok.mF,ok.nX,ok.gM,ok.zl⟩
theorem Cx.Ok.dw {X:Cx} {E:Value->Shared->Prop} (ok:(X.cA E).Ok):X.Ok:=
 ⟨ok.mod,ok.kind,ok.glob,ok.blt,ok.above,ok.inj,ok.has,ok.xY,ok.hd,ok.frames,ok.A6,ok.Bp,ok.bs,ok.vR,ok.mF,ok.nX,ok.gM,ok.zl⟩
section
variable {X:Cx} {pins:List (Addr×Obj)} {σ:St} {H:Hp} {s:Shared} {E:Value->Shared->Prop}
theorem Inv.cA (I:Inv X pins σ H s) (E:Value->Shared->Prop):Inv (X.cA E) pins σ H s:=⟨I.ok.cA E,I.os,I.bare,I.base,I.loc,I.cell,I.free,I.cu,I.pin,I.hok,I.len⟩
theorem Inv.dw (I:Inv (X.cA E) pins σ H s):Inv X pins σ H s:=⟨I.ok.dw,I.os,I.bare,I.base,I.loc,I.cell,I.free,I.cu,I.pin,I.hok,I.len⟩
theorem SP.dw {D:Ends} {f:Flow} {s':Shared} (h:SP (X.cA E) pins D f s'):SP X pins D f s':=by
 cases f with
 | next=>obtain⟨σ',H',I,q⟩:=h;exact⟨σ',H',I.dw,q⟩
 | brk=>obtain⟨σ',H',I,q⟩:=h;exact⟨σ',H',I.dw,q⟩
 | cont=>obtain⟨σ',H',I,q⟩:=h;exact⟨σ',H',I.dw,q⟩
 | ret u=>obtain⟨v,σ',H',I,r,q⟩:=h;exact⟨v,σ',H',I.dw,r,q⟩
end
section
variable {X:Cx} {st:Stmt} {rest:List Stmt} {t u:TS} {e:Expr} {te:TE} {pos:Pos}
noncomputable def uY:TS:=λD σ H=>D.nx σ H
noncomputable def DF (t u:TS):TS:=λD σ H=>t {D with nx:=u D} σ H
theorem xt:qG X [] uY:=λ_ _ σ H _ I h=>wpAny_execs_nil ⟨σ,H,I,h⟩
theorem uF (h1:PS X st t) (h2:qG X rest u):qG X (st::rest) (DF t u):=by
 intro pins s σ H D I h;refine wpAny_execs_cons (bo (h1 pins s σ H {D with nx:=u D} I h) λf s1 q=>?_);cases f with
 | next=>obtain⟨σ',H',I',q⟩:=q;exact h2 pins s1 σ' H' D I' q
 | ret v=>exact q
 | brk=>exact q
 | cont=>exact q
noncomputable def uW:TS:=λD σ H=>D.bk σ H
noncomputable def yB:TS:=λD σ H=>D.ct σ H
theorem xn:PS X (.Pass pos) uY:=λ_ _ σ H _ I h=>wpAny_Pass ⟨σ,H,I,h⟩
theorem uE:PS X (.Break pos) uW:=λ_ _ σ H _ I h=>wpAny_Break ⟨σ,H,I,h⟩
theorem mM:PS X (.Continue pos) yB:=λ_ _ σ H _ I h=>wpAny_Continue ⟨σ,H,I,h⟩
theorem Inv.quiet {pins:List (Addr×Obj)} {σ:St} {H:Hp} {s:Shared} (I:Inv X pins σ H s):interactive X.env=false:=by simp[interactive,I.ok.kind]
noncomputable def mX (te:TE):TS:=λD σ H=>te σ H λ_ H1=>D.nx σ H1
theorem il (he:PE X e te) (hs:swapsWith e none pos.line X.env=pure false:=by rfl):PS X (.Expr e pos) (mX te):=by intro pins s σ H D I h;exact wpAny_Expr_any (bo (he pins s σ H _ I h) λv s1 ⟨x,H1,I1,r1,q1⟩=>⟨σ,H1,I1,q1⟩) I.quiet hs
noncomputable def A8 (te:TE):TS:=λD σ H=>te σ H D.rt
theorem oN (he:PE X e te):PS X (.Return (some e) pos) (A8 te):=by intro pins s σ H D I h;exact wpAny_Return_some (bo (he pins s σ H _ I h) λv s1 ⟨x,H1,I1,r1,q1⟩=>⟨x,σ,H1,I1,r1,q1⟩)
noncomputable def yD:TS:=λD _ H=>D.rt .ba H
theorem xo:PS X (.Return none pos) yD:=λ_ _ σ H _ I h=>wpAny_Return_none ⟨.ba,σ,H,I,rfl,h⟩
noncomputable def DA (c:TT) (t u:TS):TS:=λD σ H=>c σ H λb H1=>if b=true then t D σ H1 else u D σ H1
theorem C3 {c:Expr} {a b:List Stmt} {tc:TT} (hc:PT X c tc) (ha:qG X a t) (hb:qG X b u):PS X (.If c a b pos) (DA tc t u):=by
 intro pins s σ H D I h;refine wpAny_If (bo (hc pins s σ H _ I h) λd s1 ⟨H1,I1,q1⟩=>?_);cases d with
 | true=>exact ha pins s1 σ H1 D I1 q1
 | false=>exact hb pins s1 σ H1 D I1 q1
end
noncomputable abbrev TG:=V->St->Hp->(St->Hp->Prop)->Prop
noncomputable abbrev sj:=List V->St->Hp->(St->Hp->Prop)->Prop
noncomputable def PG (X:Cx) (target:Expr) (t:TG):Prop:=
 ∀(pins:List (Addr×Obj)) (s:Shared) (σ:St) (H:Hp) (v:V) (u:Value) (Q:St->Hp->Prop),Inv X pins σ H s->RelV v u->t v σ H Q->
  wpAny (model X.prog X.w) X.A (assign target X.env u) (λ_ s'=>∃σ' H',Inv X pins σ' H' s'/\Q σ' H') X.xe s
noncomputable def BH (X:Cx) (ts:List Expr) (t:sj):Prop:=
 ∀(pins:List (Addr×Obj)) (s:Shared) (σ:St) (H:Hp) (vs:List V) (us:List Value) (Q:St->Hp->Prop),Inv X pins σ H s->aq vs us->t vs σ H Q->
  wpAny (model X.prog X.w) X.A (assignInOrder ((assignEach ts X.env).map (·.2)) us) (λ_ s'=>∃σ' H',Inv X pins σ' H' s'/\Q σ' H') X.xe s
noncomputable abbrev yR:=V->V->V->Hp->(Hp->Prop)->Prop
noncomputable def yQ (X:Cx) (t:yR):Prop:=
 ∀(pins:List (Addr×Obj)) (s:Shared) (σ:St) (H:Hp) (o i v:V) (ov iv u:Value) (Q:Hp->Prop),Inv X pins σ H s->RelV o ov->RelV i iv->RelV v u->t o i v H Q->
  wpAny (model X.prog X.w) X.A (setItem ov iv u) (λ_ s'=>∃H',Inv X pins σ H' s'/\Q H') X.xe s
section
variable {X:Cx} {pos:Pos}
noncomputable def cH (i:Nat):TG:=λv σ H Q=>Q (σ.set i (some v)) H
theorem xi {i:Nat} {x:Str} (hN:X.N.Nodup) (hi:X.N[i]?=some x) (hx:Loc X.env.scope x) (hf:X.fn x=true\/X.env.scope.names.lookup x=some .local:=by first | exact .inl rfl | exact .inr rfl | assumption):PG X (.Name x pos) (cH i):=by intro pins s σ H v u Q I r h;exact wpAny_assign_Name (mV I hN hi hx r (λs' I'=>⟨_,H,I',h⟩) hf)
noncomputable def zp:sj:=λvs σ H Q=>vs=[]/\Q σ H
noncomputable def tH (t:TG) (u:sj):sj:=λvs σ H Q=>∃v r,vs=v::r/\t v σ H λσ' H'=>u r σ' H' Q
theorem xj:BH X [] zp:=by intro pins s σ H vs us Q I r h;obtain⟨e,h⟩:=h;subst e;cases r;exact assignInOrder_nil ⟨σ,H,I,h⟩
theorem uy {e:Expr} {es:List Expr} {t:TG} {u:sj} (h1:PG X e t) (h2:BH X es u)
  (hs:(assignEach (e::es) X.env).map (·.2)=assign e X.env::(assignEach es X.env).map (·.2):=by rfl):BH X (e::es) (tH t u):=by
 intro pins s σ H vs us Q I r h;obtain⟨v,vr,e1,h⟩:=h;subst e1;cases r with
 | cons r rr=>rw[hs];refine assignInOrder_cons (bo (h1 pins s σ H _ _ _ I r h) λ_ s1 ⟨σ1,H1,I1,q1⟩=>?_);exact h2 pins s1 σ1 H1 _ _ Q I1 rr q1
noncomputable def zr (K:PySem.W.Frag) (n:Nat) (t:sj):TG:=λv σ H Q=>∃a xs,v= .ref a/\de K H a xs/\xs.length=n/\t xs σ H Q
theorem AA {es:List Expr} {k:Nat} {t:sj} {n:Nat} (hc:X.calm=true) (h:BH X es t)
  (hn:(assignEach es X.env).length=n:=by rfl) (yk:(assignEach es X.env).findIdx? (·.1)=none:=by rfl):PG X (.Tuple es k pos) (zr X.K n t):=by
 intro pins s σ H v u Q I r hw;obtain⟨a,xs,e1,hq,hl,hw⟩:=hw;subst e1;cases r;obtain⟨its,rv,ht,hz⟩:=I.tuple hq;refine assign_Tuple_tuple (I.ok.hd hc) ht (by simp[hn,<-hl,rv.length]) yk λh' hx=>?_
 have I1:Inv X pins σ H {s with heap:=h'}:=I.kept (t':=s.toks) λb o e=>hx b o (Km (J0 e)) e
 exact h pins _ σ H xs _ Q I1 (by simpa using rv) hw
noncomputable def zq (to ti:TE) (t:yR):TG:=λv σ H Q=>to σ H λo H1=>ti σ H1 λi H2=>t o i v H2 λH3=>Q σ H3
theorem ux {o i:Expr} {to ti:TE} {t:yR} (ho:PE X o to) (hi:PE X i ti) (hs:yQ X t)
  (ha:∀v,assign (.Subscript o i pos) X.env v=(do
   let ov<-holding [v] (eval o X.env)
   let iv<-holding [v,ov] (eval i X.env)
   standAt pos
   holding [v,ov,iv] (setItem ov iv v)
   release [v,ov,iv] []):=by intro _;rfl):PG X (.Subscript o i pos) (zq to ti t):=by
 intro pins s σ H v u Q I r h;rw[ha];refine JN (wpAny_holding (bo (ho pins s σ H _ I h) λov s1 ⟨x,H1,I1,r1,q1⟩=>?_));refine JN (wpAny_holding (bo (hi pins s1 σ H1 _ I1 q1) λiv s2 ⟨y,H2,I2,r2,q2⟩=>?_));refine JN (wpAny_standAt (JN (wpAny_holding (bo (hs pins s2 σ H2 x y v ov iv u _ I2 r1 r2 r q2) λ_ s3 ⟨H3,I3,q3⟩=>?_))));exact wpAny_release ⟨σ,H3,I3,q3⟩
noncomputable def jD (te:TE) (g:TG):TS:=λD σ H=>te σ H λx H1=>g x σ H1 D.nx
theorem uD {tg e:Expr} {te:TE} {g:TG} (he:PE X e te) (hg:PG X tg g) (hs:swapsWithSole [tg] e pos.line X.env=pure false:=by rfl) (hw:swappedStores [tg] e X.env=pure none:=by rfl)
  (h1:(assignEach [tg] X.env).map (·.2)=[assign tg X.env]:=by rfl):PS X (.Assign [tg] e pos) (jD te g):=by
 intro pins s σ H D I h;refine wpAny_Assign_stores (bo (he pins s σ H _ I h) λv s1 ⟨x,H1,I1,r1,q1⟩=>?_) hs hw;rw[h1];exact bo (hg pins s1 σ H1 x v _ I1 r1 q1) λ_ s2 q=>q
theorem oO {i:Nat} {x:Str} {e:Expr} {te:TE} {pos':Pos} (hN:X.N.Nodup) (hi:X.N[i]?=some x) (hx:Loc X.env.scope x) (he:PE X e te) (hs:swapsWith e (some (.Name x pos')) pos.line X.env=pure false:=by rfl) (hf:X.fn x=true\/X.env.scope.names.lookup x=some .local:=by first | exact .inl rfl | exact .inr rfl | assumption):
  PS X (.Assign [.Name x pos'] e pos) (jD te (cH i)):=by
 intro pins s σ H D I h;refine wpAny_Assign_Name (bo (he pins s σ H _ I h) λv s1 ⟨y,H1,I1,r1,q1⟩=>?_) hs;exact mV I1 hN hi hx r1 (λs2 I2=>⟨_,H1,I2,q1⟩) hf
end
structure It where
 go:Nat->Hp->Prop
 yld:Nat->Hp->V->Hp->Prop
 stop:Nat->Hp->Prop
noncomputable def dQ (X:Cx) (pins:List (Addr×Obj)) (H:Hp) (b:Addr):Prop:=
 H b=none/\b≠X.env.locals/\b∉X.fs/\(b∈X.ex\/X.s₀.heap.objs.size<=b)/\(∀x c,X.env.cells.lookup x=some c->c≠b)/\∀p∈X.pn++pins,p.1≠b
theorem Inv.kQ {X:Cx} {pins:List (Addr×Obj)} {σ:St} {H H':Hp} {s:Shared} {b:Addr} (I:Inv X pins σ H s) (hb:s.heap.objs.size<=b) (hn:H' b=none):dQ X pins H' b:=by
 refine⟨hn,Nat.ne_of_gt (Kc I.lt hb),I.FY hb,.inr (J1 I.sz hb),λx c e z=>?_,λp hp z=>?_⟩
 ·obtain⟨v,q⟩:=I.cell x c e;exact absurd (Kc q.lt (by rw[z];exact hb)) (Nat.lt_irrefl _)
 ·exact absurd (Kc (J0 (I.pin p hp).1) (by rw[z];exact hb)) (Nat.lt_irrefl _)
structure Turn (P:Program) (w:World) (K:PySem.W.Frag) (tg:Expr) (J:It) (fp:List Addr) (it:Addr) (tn:Nat->Heap->Prop):Prop where
 mem:it∈fp
 obj:∀i h,tn i h->∀b∈fp,∃o,h.get? b=some o/\∀v,o.data≠ .cell v
 keep:∀i h h',tn i h->(∀b∈fp,∀o,h.get? b=some o->h'.get? b=some o)->tn i h'
 item:∀(X:Cx),X.prog=P->X.w=w->X.K=K->X.calm=true->∀(i:Nat) (pins:List (Addr×Obj)) (s:Shared) (σ:St) (H:Hp) (E:Value->Shared->Prop),Inv X pins σ H s->(∀b∈fp,dQ X pins H b)->tn i s.heap->J.go i H->
  wpAny (model P w) X.A (pyNext (.ref it)) (λr s1=>∃u,r=some u/\
   wpAny (model P w) X.A (letOwnedTupleGo tg (.ref it) u) (λ_ s2=>∃x H',Inv X pins σ H' s2/\RelV x u/\J.yld i H x H'/\tn (i + 1) s2.heap/\∀b∈fp,H' b=none) E s1) E s
 done:∀(X:Cx),X.prog=P->X.w=w->X.K=K->X.calm=true->∀(i:Nat) (pins:List (Addr×Obj)) (s:Shared) (σ:St) (H:Hp) (E:Value->Shared->Prop),Inv X pins σ H s->(∀b∈fp,dQ X pins H b)->tn i s.heap->J.stop i H->
  wpAny (model P w) X.A (pyNext (.ref it)) (λr s1=>r=none/\Inv X pins σ H s1) E s
 self:∀(A:Around) (i:Nat) (s:Shared) (Q:Value->Shared->Prop) (E:Value->Shared->Prop),tn i s.heap->Q (.ref it) s->wpAny (model P w) A (pyIter (.ref it)) Q E s
noncomputable abbrev TI:=St->Hp->(It->Hp->Prop)->Prop
noncomputable def GM (X:Cx) (pins:List (Addr×Obj)) (σ:St) (tg:Expr) (R:It->Hp->Prop) (lG:Value) (s2:Shared):Prop:=
 ∃(it:Addr) (fp:List Addr) (tn:Nat->Heap->Prop) (J:It) (H':Hp),lG= .ref it/\Inv X pins σ H' s2/\Turn X.prog X.w X.K tg J fp it tn/\tn 0 s2.heap/\(∀b∈fp,dQ X pins H' b)/\R J H'
noncomputable def PI (X:Cx) (tg iter:Expr) (wi:TI):Prop:=
 ∀(pins:List (Addr×Obj)) (s:Shared) (σ:St) (H:Hp) (R:It->Hp->Prop),Inv X pins σ H s->wi σ H R->
  wpAny (model X.prog X.w) X.A (eval iter X.env) (λv s1=>wpAny (model X.prog X.w) X.A (pyIter v) (GM X pins σ tg R) X.xe s1) X.xe s
theorem tJ {M:Model} {A:Around} {E:Value->Shared->Prop} {s:Shared} {tg:Expr} {it:Addr} {u:Value} {o:Obj} {n:String} {vs:Array Value} {Q:Unit->Shared->Prop} (ho:s.heap.get? it=some o) (hc:o.cls= .type n) (hd:o.data= .fields vs)
  (hn:["enumerate","zip","dict_itemiterator","dict_reverseitemiterator","odict_iterator","itertools.zip_longest","itertools.pairwise"].contains n=false) (hQ:Q () s):wpAny M A (letOwnedTupleGo tg (.ref it) u) Q E s:=by
 unfold letOwnedTupleGo;cases tg <;> first
  | exact JQ hQ
  | (cases u <;> first
    | exact JQ hQ
    | (refine JN (wpAny_load ho ?_);rw[hc,hd];show wpAny M A (if (["enumerate","zip","dict_itemiterator","dict_reverseitemiterator","odict_iterator","itertools.zip_longest","itertools.pairwise"].contains n&&vs[0]?==some (rawInt _))=true then _ else _) Q E s;rw[if_neg (by intro h;rw[hn,Bool.false_and] at h;cases h)];exact JQ hQ))
noncomputable def DX (K:PySem.W.Frag) (a:Addr):It:=
 ⟨λi H=>∃xs x,cY K H a xs/\xs[i]?=some x,λi H x H'=>H'=H/\∀xs,cY K H a xs->xs[i]?=some x,λi H=>∃xs,cY K H a xs/\xs.length<=i⟩
noncomputable def EG (K:PySem.W.Frag) (a:Addr):It:=
 ⟨λi H=>∃xs x,de K H a xs/\xs[i]?=some x,λi H x H'=>H'=H/\∀xs,de K H a xs->xs[i]?=some x,λi H=>∃xs,de K H a xs/\xs.length<=i⟩
noncomputable def DY (lo:Int) (n:Nat):It:=⟨λi _=>i < n,λi H x H'=>H'=H/\x= .int (lo + i),λi _=>n<=i⟩
theorem rL {P:Program} {w:World} {K:PySem.W.Frag} {tg:Expr} (a it:Addr):Turn P w K tg (DX K a) [it] it (λi h=>h.IsListIter it a i) where
 mem:=by simp
 obj:=λi h st b hb=>by
  have e:b=it:=by simpa using hb
  subst e;obtain⟨o,e,c,d⟩:=st;exact⟨o,e,λv z=>by rw[d] at z;cases z⟩
 keep:=λi h h' st k=>st.at λo e=>k it (by simp) o e
 item:=by
  intro X hP hw hK hc i pins s σ H E I hf st hg;subst hP hw hK;obtain⟨xs,x,hq,hx⟩:=hg;obtain⟨its,rv,p,hz⟩:=I.list hq;obtain⟨u,hu,ru⟩:=rv.get hx;obtain⟨f0,f1,f2,f3,f4,f5⟩:=hf it (by simp);refine wpAny_pyNext_list_item st p.isList (x:=u) (by simpa using hu) λh' jt sb=>?_
  have I1:Inv X pins σ H {s with heap:=h'}:=I.turned (t':=s.toks) (λb o hb e=>(sb.2 b hb).trans e) f0 f1 f3 f4 f5;obtain⟨o,e,c,d⟩:=id jt;exact⟨u,rfl,tJ (s:={s with heap:=h'}) e c d (by decide) ⟨x,H,I1,ru,⟨rfl,λys hy=>by rw[I.ub hy hq];exact hx⟩,jt,λb hb=>(hf b hb).1⟩⟩
 done:=by intro X hP hw hK hc i pins s σ H E I hf st hg;subst hP hw hK;obtain⟨xs,hq,hx⟩:=hg;obtain⟨its,rv,p,hz⟩:=I.list hq;obtain⟨f0,f1,f2,f3,f4,f5⟩:=hf it (by simp);have hl:=rv.length;exact wpAny_pyNext_list_end (I.ok.hd hc) st p.isList (by simp;lia) λh' eb=>⟨rfl,I.turned (t':=s.toks) (λb o hb e=>eb b o hb e) f0 f1 f3 f4 f5⟩
 self:=λ_ _ _ _ _ st h=>wpAny_pyIter_listiter st h
theorem o6 {P:Program} {w:World} {K:PySem.W.Frag} {tg:Expr} (a it:Addr):Turn P w K tg (EG K a) [it] it (λi h=>h.IsTupleIter it a i) where
 mem:=by simp
 obj:=λi h st b hb=>by
  have e:b=it:=by simpa using hb
  subst e;obtain⟨o,e,c,d⟩:=st;exact⟨o,e,λv z=>by rw[d] at z;cases z⟩
 keep:=λi h h' st k=>st.at λo e=>k it (by simp) o e
 item:=by
  intro X hP hw hK hc i pins s σ H E I hf st hg;subst hP hw hK;obtain⟨xs,x,hq,hx⟩:=hg;obtain⟨its,rv,p,hz⟩:=I.tuple hq;obtain⟨u,hu,ru⟩:=rv.get hx;obtain⟨f0,f1,f2,f3,f4,f5⟩:=hf it (by simp);refine wpAny_pyNext_tuple_item st (show s.heap.IsTuple a its.toArray from p) (x:=u) (by simpa using hu) λh' jt sb=>?_
  have I1:Inv X pins σ H {s with heap:=h'}:=I.turned (t':=s.toks) (λb o hb e=>(sb.2 b hb).trans e) f0 f1 f3 f4 f5;obtain⟨o,e,c,d⟩:=id jt;exact⟨u,rfl,tJ (s:={s with heap:=h'}) e c d (by decide) ⟨x,H,I1,ru,⟨rfl,λys hy=>by rw[I.rK hy hq];exact hx⟩,jt,λb hb=>(hf b hb).1⟩⟩
 done:=by intro X hP hw hK hc i pins s σ H E I hf st hg;subst hP hw hK;obtain⟨xs,hq,hx⟩:=hg;obtain⟨its,rv,p,hz⟩:=I.tuple hq;obtain⟨f0,f1,f2,f3,f4,f5⟩:=hf it (by simp);have hl:=rv.length;exact wpAny_pyNext_tuple_end (I.ok.hd hc) st (show s.heap.IsTuple a its.toArray from p) (by simp;lia) λh' eb=>⟨rfl,I.turned (t':=s.toks) (λb o hb e=>eb b o hb e) f0 f1 f3 f4 f5⟩
 self:=λ_ _ _ _ _ st h=>wpAny_pyIter_tupleiter st h
theorem o4 {P:Program} {w:World} {K:PySem.W.Frag} {tg:Expr} (it:Addr) (lo:Int) (n:Nat):Turn P w K tg (DY lo n) [it] it (λi h=>IsRangeIter h it (lo + (i:Nat) * 1) ((n:Int) - (i:Nat)) 1) where
 mem:=by simp
 obj:=λi h st b hb=>by
  have e:b=it:=by simpa using hb
  subst e;exact⟨_,st,λv z=>by
   have z':Data.fields _=Data.cell v:=z;cases z'⟩
 keep:=λi h h' st k=>k it (by simp) _ st
 item:=by
  intro X hP hw hK hc i pins s σ H E I hf st hg;subst hP hw hK;obtain⟨f0,f1,f2,f3,f4,f5⟩:=hf it (by simp);have W:=Walks.range (prog:=X.prog) (w:=X.w) (I.ok.hd hc) it lo 1 n;refine W.item i s _ _ hg st λv h' tk hv jt kk=>?_
  obtain⟨t,rfl⟩:=hv;have I1:Inv X pins σ H {s with heap:=h',toks:=tk}:=I.turned (λb o hb e=>kk b o (by simpa using hb) e) f0 f1 f3 f4 f5;refine⟨_,rfl,tJ (s:={s with heap:=h',toks:=tk}) (n:="range_iterator") jt rfl rfl (by decide) ⟨.int (lo + i),H,I1,⟨t,?_⟩,⟨rfl,rfl⟩,jt,λb hb=>(hf b hb).1⟩⟩;rw[Int.mul_one]
 done:=by intro X hP hw hK hc i pins s σ H E I hf st hg;subst hP hw hK;obtain⟨f0,f1,f2,f3,f4,f5⟩:=hf it (by simp);exact wpAny_pyNext_range_end (I.ok.hd hc) st (by have:n<=i:=hg;lia) λh' eb=>⟨rfl,I.turned (t':=s.toks) (λb o hb e=>eb b o hb e) f0 f1 f3 f4 f5⟩
 self:=λ_ _ _ _ _ st h=>wpAny_pyIter_rangeiter st h
end L2
namespace L2
open PySem PySem.Spec PyProof.Rows
section
variable {X:Cx} {tg:Expr}
theorem uJ {pins:List (Addr×Obj)} {σ:St} {H:Hp} {s:Shared} {R:It->Hp->Prop} {E:Value->Shared->Prop} {lo hi:Int} {t u v:Tok} {tk:Nat} (I:Inv X pins σ H s) (h1: -(2 ^ 62)<=lo) (h2:lo < 2 ^ 62) (h3: -(2 ^ 62)<=hi) (h4:hi < 2 ^ 62)
  (q:R (DY lo (hi - lo).toNat) H):wpAny (model X.prog X.w) X.A (pyIter (.ref s.heap.objs.size)) (GM X pins σ tg R) E {s with heap:=s.heap.push {cls:= .type "range",data:= .fields #[.int lo t,.int hi u,.int 1 v]},toks:=tk}:=by
 refine wpAny_pyIter_range (IsRange.new ..) (small_one h1 h2 h3 h4) ?_;have I1:Inv X pins σ H {s with heap:=s.heap.push {cls:= .type "range",data:= .fields #[.int lo t,.int hi u,.int 1 v]},toks:=tk}:=I.kept λb o e=>JP _ e
 refine⟨(s.heap.push {cls:= .type "range",data:= .fields #[.int lo t,.int hi u,.int 1 v]}).objs.size,[(s.heap.push {cls:= .type "range",data:= .fields #[.int lo t,.int hi u,.int 1 v]}).objs.size],_,_,H,rfl,
  I1.kept (t':=tk) λb o e=>JP _ e,o4 _ lo (hi - lo).toNat,?_,λb hb=>?_,q⟩
 ·have e1:lo + ((0:Nat):Int) * 1=lo:=by simp
  have e2:(((hi - lo).toNat:Nat):Int) - ((0:Nat):Int)=Builtin.Range.rangeSize lo hi 1:=by rw[rangeSize_one];split <;> lia
  show IsRangeIter _ _ (lo + ((0:Nat):Int) * 1) ((((hi - lo).toNat:Nat):Int) - ((0:Nat):Int)) 1;rw[e1,e2];exact JY _ rfl
 ·have e:b=(s.heap.push {cls:= .type "range",data:= .fields #[.int lo t,.int hi u,.int 1 v]}).objs.size:=by simpa using hb
  subst e;exact I1.kQ (JW _) (I1.hok.fresh (JW _))
noncomputable def Cy (ta:TA):TI:=λσ H R=>ta σ H λvs H1=>∃j:Int,vs=[.int j]/\ -(2 ^ 62)<=j/\j < 2 ^ 62/\R (DY 0 j.toNat) H1
theorem rA {a:Expr} {ta:TA} {p pos:Pos} (hg:Gl X "range") (hm:X.mg "range"=none) (ha:PA X [a] ta) (hs:starEach [a] X.env=[(false,eval a X.env)]:=by rfl):PI X tg (.Call (.Name "range" p) [a] [] pos) (Cy ta):=by
 intro pins s σ H R I h;refine Call_ (b7 I hg hm boot_range (PyProof.Rows.callWith_type1 (bo (ha pos pins s σ H _ I h) λus s1 ⟨vs,H1,I1,r1,q1⟩=>?_) hs rfl));obtain⟨j,e,q1,q2,q⟩:=q1;subst e;cases r1 with
 | cons r rr=>cases rr;obtain⟨t,rfl⟩:=r;exact call_range_1 (uJ I1 (by lia) (by lia) q1 q2 (by simpa using q))
noncomputable def Dz (wi:TI) (g:TG) (tb:TS):TS:=λD σ H=>wi σ H λJ H1=>∃W:Nat->Nat->St->Hp->Prop,(∃m,W 0 m σ H1)/\∀i m σ H,W i m σ H->
 (J.stop i H/\D.nx σ H)\/(J.go i H/\∃N:St->Hp->Prop,(∀σ' H',N σ' H'->∃m',m' < m/\W (i + 1) m' σ' H')/\∀x H',J.yld i H x H'->g x σ H' λσ2 H2=>tb {D with nx:=N,ct:=N,bk:=D.nx} σ2 H2)
noncomputable def i7 (fp:List Addr) (h:Heap):List (Addr×Obj):=fp.filterMap λb=>(h.get? b).map λo=>(b,o)
theorem dm {fp:List Addr} {h:Heap} {b:Addr} {o:Obj} (hb:b∈fp) (e:h.get? b=some o):(b,o)∈i7 fp h:=List.mem_filterMap.mpr ⟨b,hb,by rw[e];rfl⟩
theorem rn {fp:List Addr} {h:Heap} {p:Addr×Obj} (hp:p∈i7 fp h):p.1∈fp/\h.get? p.1=some p.2:=by
 obtain⟨b,hb,e⟩:=List.mem_filterMap.mp hp;cases q:h.get? b with
 | none=>rw[q] at e;cases e
 | some o=>rw[q] at e;have e':(b,o)=p:=Option.some.inj e;subst e';exact⟨hb,q⟩
theorem Inv.pinned {pins:List (Addr×Obj)} {σ:St} {H:Hp} {s:Shared} {fp:List Addr} (I:Inv X pins σ H s) (hf:∀b∈fp,dQ X pins H b) (ho:∀b∈fp,∃o,s.heap.get? b=some o/\∀v,o.data≠ .cell v):Inv X (pins++i7 fp s.heap) σ H s:=
 I.ik λp hp=>(Kd.mp hp).elim (λz=>I.pin p (Kn _ z)) λz=>by obtain⟨hb,e⟩:=rn z;obtain⟨f0,f1,f2,_⟩:=hf p.1 hb;obtain⟨o,e',d⟩:=ho p.1 hb;rw[e] at e';cases e';exact⟨e,f0,f1,f2,d⟩
theorem Inv.fZ {pins pl:List (Addr×Obj)} {σ:St} {H:Hp} {s:Shared} (I:Inv X (pins++pl) σ H s):Inv X pins σ H s:=I.ik λp hp=>I.pin p (Kn _ (List.mem_append_left _ hp))
theorem AD {iter:Expr} {body:List Stmt} {wi:TI} {g:TG} {tb:TS} {pos:Pos} (hp:PassesOwn (model X.prog X.w) X.A X.env X.xe) (hc:X.calm=true) (hi:PI X tg iter wi) (hg:PG X tg g) (hb:qG X body tb)
  (hs:∀x,foldedSetIterable iter X.env x=pure x:=by intro _;rfl):PS X (.For tg iter body [] pos) (Dz wi g tb):=by
 intro pins s σ H D I h;refine wpAny_For (bo (hi pins s σ H _ I h) λv s1 h1=>bo h1 λlG s2 h2=>?_) hs;obtain⟨it,fp,tn,J,H2,e,I2,T,sf,f2,W,⟨m0,w0⟩,turn⟩:=h2;subst e;have lx:∀{H':Hp},(∀b∈fp,H' b=none)->∀b∈fp,dQ X pins H' b:=λhn b hb=>⟨hn b hb,(f2 b hb).2⟩
 refine codeAny_forLoop_any (λn s'=>∃i σ' H',Inv X pins σ' H' s'/\tn i s'.heap/\(∀b∈fp,H' b=none)/\W i n σ' H') ?_ m0 ⟨0,σ,H2,I2,sf,λb hb=>(f2 b hb).1,w0⟩;rintro n s3 ⟨i,σ3,H3,I3,Hu,GS,w3⟩;rcases turn i n σ3 H3 w3 with ⟨stop,qn⟩ | ⟨go,N,hN,step⟩
 ·refine wpAny_passesOwn hp (bo (T.done X rfl rfl rfl hc i pins s3 σ3 H3 X.xe I3 (lx GS) Hu stop) λr s4 ⟨hr,I4⟩=>?_);subst hr;exact wpAny_execs_nil ⟨σ3,H3,I4,qn⟩
 ·refine wpAny_passesOwn hp (bo (T.item X rfl rfl rfl hc i pins s3 σ3 H3 X.xe I3 (lx GS) Hu go) λr s4 ⟨u,hr,h4⟩=>?_);subst hr;refine wpAny_passesOwn hp (bo h4 λ_ s5 ⟨x,H5,I5,r5,y5,Gp,E7⟩=>?_);have HB:=I5.pinned (lx E7) (T.obj _ _ Gp);refine wpAny_passesOwn hp (bo (hg _ s5 σ3 H5 x u _ HB r5 (step x H5 y5)) λ_ s6 ⟨σ6,H6,I6,q6⟩=>?_);refine wpAny_passesOwn hp (bo (hb _ s6 σ6 H6 _ I6 q6) λf s7 q7=>?_);have again:∀{σ7:St} {H7:Hp},Inv X (pins++i7 fp s5.heap) σ7 H7 s7->N σ7 H7->∃m,m < n/\∃i σ' H',Inv X pins σ' H' s7/\tn i s7.heap/\(∀b∈fp,H' b=none)/\W i m σ' H':=λ {σ7 H7} I7 n7=>by obtain⟨m',hm,w7⟩:=hN σ7 H7 n7;refine⟨m',hm,i + 1,σ7,H7,I7.fZ,T.keep _ _ _ Gp λb hb o e=>(I7.pin (b,o) (Kn _ (Kn _ (dm hb e)))).1,λb hb=>?_,w7⟩;obtain⟨o,e,d⟩:=T.obj _ _ Gp b hb;exact(I7.pin (b,o) (Kn _ (Kn _ (dm hb e)))).2.1
  cases f with
  | next=>obtain⟨σ7,H7,I7,n7⟩:=q7;exact again I7 n7
  | cont=>obtain⟨σ7,H7,I7,n7⟩:=q7;exact again I7 n7
  | brk=>obtain⟨σ7,H7,I7,q7⟩:=q7;exact⟨σ7,H7,I7.fZ,q7⟩
  | ret v=>obtain⟨x7,σ7,H7,I7,r7,q7⟩:=q7;exact⟨x7,σ7,H7,I7.fZ,r7,q7⟩
end
end L2
namespace L2
open PySem PySem.Spec PyProof.Rows
noncomputable abbrev R2:=V->V->Hp->VK->Prop
noncomputable def jo (X:Cx) (f:Value->Value->Sem Value) (r:R2):Prop:=
 ∀(pins:List (Addr×Obj)) (s:Shared) (σ:St) (H:Hp) (x y:V) (v u:Value) (Q:VK),Inv X pins σ H s->RelV x v->RelV y u->r x y H Q->
  wpAny (model X.prog X.w) X.A (f v u) (EP X pins σ Q) X.xe s
noncomputable def EM (X:Cx) (f:Value->Sem Value) (r:V->Hp->VK->Prop):Prop:=
 ∀(pins:List (Addr×Obj)) (s:Shared) (σ:St) (H:Hp) (x:V) (v:Value) (Q:VK),Inv X pins σ H s->RelV x v->r x H Q->
  wpAny (model X.prog X.w) X.A (f v) (EP X pins σ Q) X.xe s
noncomputable def eE (X:Cx) (f:Value) (r:List V->Hp->VK->Prop):Prop:=
 ∀(pins:List (Addr×Obj)) (s:Shared) (σ:St) (H:Hp) (xs:List V) (us:List Value) (Q:VK),Inv X pins σ H s->aq xs us->r xs H Q->
  wpAny (model X.prog X.w) X.A (call f us) (EP X pins σ Q) X.xe s
noncomputable def EL (X:Cx) (r:V->Hp->(Bool->Hp->Prop)->Prop):Prop:=
 ∀(pins:List (Addr×Obj)) (s:Shared) (σ:St) (H:Hp) (x:V) (v:Value) (Q:Bool->Hp->Prop),Inv X pins σ H s->RelV x v->r x H Q->
  wpAny (model X.prog X.w) X.A (truthy v) (TP X pins σ Q) X.xe s
noncomputable def El (r:R2) (ta tb:TE):TE:=λσ H Q=>ta σ H λx H1=>tb σ H1 λy H2=>r x y H2 Q
noncomputable def Jn (r:V->Hp->VK->Prop) (ta:TE):TE:=λσ H Q=>ta σ H λx H1=>r x H1 Q
noncomputable def rI (C:Int->Int->Prop) (g:Int->Int->V):R2:=λx y H Q=>∃i j,x= .int i/\y= .int j/\C i j/\Q (g i j) H
noncomputable def yv (g:Int->Int->V):R2:=λx y H Q=>∃i j,x= .int i/\y= .int j/\Q (g i j) H
noncomputable def rU (g:Int->V):V->Hp->VK->Prop:=λx H Q=>∃i,x= .int i/\Q (g i) H
section
variable {X:Cx} {a b c:Expr} {ta tb tc:TE} {pos:Pos}
theorem yW (ha:PE X a ta) (hb:PE X b tb) {pins:List (Addr×Obj)} {s:Shared} {σ:St} {H:Hp} {R:V->V->Hp->Prop} (I:Inv X pins σ H s)
  (h:ta σ H λx H1=>tb σ H1 λy H2=>R x y H2) {Q:Value->Shared->Prop} {f:Value->Value->Sem Value}
  (hf:∀v u s2 x y H2,Inv X pins σ H2 s2->RelV x v->RelV y u->R x y H2->wpAny (model X.prog X.w) X.A (f v u) Q X.xe s2):
  wpAny (model X.prog X.w) X.A (eval a X.env) (λv s₁=>wpAny (model X.prog X.w) X.A (eval b X.env) (λu s₂=>wpAny (model X.prog X.w) X.A (f v u) Q X.xe s₂) X.xe s₁) X.xe s:=by
 refine bo (ha pins s σ H _ I h) λv s1 ⟨x,H1,I1,r1,q1⟩=>?_
 refine bo (hb pins s1 σ H1 _ I1 q1) λu s2 ⟨y,H2,I2,r2,q2⟩=>?_
 exact hf v u s2 x y H2 I2 r1 r2 q2
theorem C0 {op:Operator} {r:R2} (ho:jo X (binaryOp op) r) (ha:PE X a ta) (hb:PE X b tb):PE X (.BinOp a op b pos) (El r ta tb):=by intro pins s σ H Q I h;exact wpAny_BinOp (yW ha hb I h λv u s2 x y H2 I2 rx ry q=>ho pins s2 σ H2 x y v u Q I2 rx ry q)
theorem C2 {op:UnaryOp} {r:V->Hp->VK->Prop} (ho:EM X (unaryOp op) r) (ha:PE X a ta):PE X (.UnaryOp op a pos) (Jn r ta):=by intro pins s σ H Q I h;exact UnaryOp_ (bo (ha pins s σ H _ I h) λv s1 ⟨x,H1,I1,r1,q1⟩=>ho pins s1 σ H1 x v Q I1 r1 q1)
theorem CQ {f:Value->Value->Sem Value} {C:Int->Int->Prop} {g:Int->Int->Int}
  (rule:∀(i j:Int) (t u:Tok) (s:Shared) (Q:Value->Shared->Prop) (E:Value->Shared->Prop),C i j->Q (.int (g i j) s.toks) {s with toks:=s.toks + 1}->wpAny (model X.prog X.w) X.A (f (.int i t) (.int j u)) Q E s):
  jo X f (rI C λi j=> .int (g i j)):=by
 intro pins s σ H x y v u Q I rx ry h;obtain⟨i,j,rfl,rfl,hc,q⟩:=h;obtain⟨t,rfl⟩:=rx;obtain⟨t',rfl⟩:=ry;exact rule i j t t' s _ _ hc ⟨.int (g i j),H,I.tok _,⟨_,rfl⟩,q⟩
theorem CS {f:Value->Value->Sem Value} {g:Int->Int->Int}
  (rule:∀(i j:Int) (t u:Tok) (s:Shared) (Q:Value->Shared->Prop) (E:Value->Shared->Prop),Q (.int (g i j) s.toks) {s with toks:=s.toks + 1}->wpAny (model X.prog X.w) X.A (f (.int i t) (.int j u)) Q E s):
  jo X f (yv λi j=> .int (g i j)):=by
 intro pins s σ H x y v u Q I rx ry h;obtain⟨i,j,rfl,rfl,q⟩:=h;obtain⟨t,rfl⟩:=rx;obtain⟨t',rfl⟩:=ry;exact rule i j t t' s _ _ ⟨.int (g i j),H,I.tok _,⟨_,rfl⟩,q⟩
theorem w5 {f:Value->Value->Sem Value} {g:Int->Int->Bool}
  (rule:∀(i j:Int) (t u:Tok) (s:Shared) (Q:Value->Shared->Prop) (E:Value->Shared->Prop),Q (.bool (g i j)) s->wpAny (model X.prog X.w) X.A (f (.int i t) (.int j u)) Q E s):
  jo X f (yv λi j=> .bl (g i j)):=by
 intro pins s σ H x y v u Q I rx ry h;obtain⟨i,j,rfl,rfl,q⟩:=h;obtain⟨t,rfl⟩:=rx;obtain⟨t',rfl⟩:=ry;exact rule i j t t' s _ _ ⟨.bl (g i j),H,I,rfl,q⟩
noncomputable def Ey (i j:Int):Prop:=0 < j/\j < 1073741824
noncomputable def Ez (i j:Int):Prop:=0<=j/\j<=1000000/\i.natAbs < 2 ^ 64
noncomputable def yJ (i j:Int):Prop:=(-(2 ^ 64) < i/\i < 2 ^ 64)\/(-(2 ^ 64) < j/\j < 2 ^ 64)
theorem yJ.ok {i j:Int} (h:yJ i j):IntMulOk i j:=by
 rcases h with ⟨h1,h2⟩ | ⟨h1,h2⟩
 ·exact .of_left (intBits_le_64 h1 h2)
 ·exact .of_right (intBits_le_64 h1 h2)
theorem Ai:jo X (binaryOp .Add) (yv λi j=> .int (i + j)):=CS λ_ _ _ _ _ _ _ q=>add_int q
theorem Ao:jo X (binaryOp .Sub) (yv λi j=> .int (i - j)):=CS λ_ _ _ _ _ _ _ q=>sub_int q
theorem Am:jo X (binaryOp .Mult) (rI yJ λi j=> .int (i * j)):=CQ λ_ _ _ _ _ _ _ hc q=>mul_int q hc.ok
theorem Ei:jo X (binaryOp .FloorDiv) (rI Ey λi j=> .int (i / j)):=CQ λi j _ _ _ _ _ hc q=>by have h1:(0:Int) < j:=hc.1;have h2:j < 1073741824:=hc.2;exact floordiv_int (by lia) (by rw[Int.fdiv_eq_ediv_of_nonneg i (by lia)];exact q) (.inl (PyProof.noPylong_small (by lia)))
theorem Al:jo X (binaryOp .Mod) (rI (λ_ j=>0 < j) λi j=> .int (i % j)):=CQ λi j _ _ _ _ _ hc q=>by have h1:(0:Int) < j:=hc;exact mod_int' (by lia) (by rw[Int.fmod_eq_emod_of_nonneg i (by lia)];exact q)
theorem An:jo X (binaryOp .Pow) (rI Ez λi j=> .int (i ^ j.toNat)):=CQ λ_ _ _ _ _ _ _ hc q=>pow_int_small hc.1 hc.2.1 hc.2.2 q
theorem Jr {f:Value->Sem Value} {g:Int->Int}
  (rule:∀(i:Int) (t:Tok) (s:Shared) (Q:Value->Shared->Prop) (E:Value->Shared->Prop),Q (.int (g i) s.toks) {s with toks:=s.toks + 1}->wpAny (model X.prog X.w) X.A (f (.int i t)) Q E s):
  EM X f (rU λi=> .int (g i)):=by
 intro pins s σ H x v Q I rx h;obtain⟨i,rfl,q⟩:=h;obtain⟨t,rfl⟩:=rx;exact rule i t s _ _ ⟨.int (g i),H,I.tok _,⟨_,rfl⟩,q⟩
theorem Bb:EM X (unaryOp .USub) (rU λi=> .int (-i)):=Jr λ_ _ _ _ _ q=>neg_int q
end
section
variable {X:Cx} {a b c:Expr} {ta tb tc:TE} {pos:Pos}
theorem CW:jo X (compareOp .Lt) (yv λi j=> .bl (decide (i < j))):=w5 λ_ _ _ _ _ _ _ q=>lt_int q
theorem CV:jo X (compareOp .LtE) (yv λi j=> .bl (decide (i<=j))):=w5 λ_ _ _ _ _ _ _ q=>le_int q
theorem CU:jo X (compareOp .Gt) (yv λi j=> .bl (decide (j < i))):=w5 λ_ _ _ _ _ _ _ q=>gt_int q
theorem CT:jo X (compareOp .GtE) (yv λi j=> .bl (decide (j<=i))):=w5 λ_ _ _ _ _ _ _ q=>ge_int q
theorem xf {op:CmpOp} {r:R2} (ho:jo X (compareOp op) r) (ha:PE X a ta) (hb:PE X b tb) (hm:behindInMarks op b=false):PE X (.Compare a [op] [b] pos) (El r ta tb):=by intro pins s σ H Q I h;exact wpAny_Compare1 (yW ha hb I h λv u s2 x y H2 I2 rx ry q=>ho pins s2 σ H2 x y v u Q I2 rx ry q) hm
noncomputable def DG (t:TE):TT:=λσ H Q=>t σ H λx H'=>∃k,x= .bl k/\Q k H'
theorem xu {op:CmpOp} {r:R2} (ho:jo X (compareOp op) r) (ha:PE X a ta) (hb:PE X b tb) (hm:behindInMarks op b=false):PT X (.Compare a [op] [b] pos) (DG (El r ta tb)):=by
 intro pins s σ H Q I h;refine wpAny_isTrue_Compare1 (bo (ha pins s σ H _ I h) λv s1 ⟨x,H1,I1,r1,q1⟩=>bo (hb pins s1 σ H1 _ I1 q1) λu s2 ⟨y,H2,I2,r2,q2⟩=>
  bo (ho pins s2 σ H2 x y v u _ I2 r1 r2 q2) λc s3 ⟨z,H3,I3,r3,k,e,q3⟩=>?_) hm
 subst e;cases r3;exact wpAny_truthy_bool ⟨H3,I3,q3⟩
noncomputable def BJ (K:PySem.W.Frag) (x:V) (H:Hp) (k:Bool):Prop:=
 match x with
 | .ba=>k=false
 | .bl b=>k=b
 | .int i=>k=(i != 0)
 | .str y=>y.length<=sizeLine/\k=((y.length:Int) != 0)
 | .yZ y=>y.size<=sizeLine/\k=((y.size:Int) != 0)
 | .ref p=>(∃xs,cY K H p xs/\k= !xs.isEmpty)\/(∃xs,de K H p xs/\k= !xs.isEmpty)\/∃dz,H p=some (.dK dz)/\k= !dz.isEmpty
 | _=>False
theorem ot {κ:Type} {dz:List (κ×V)} {vs:List (κ×Value)} (r:KV dz vs):(!vs.isEmpty)= !dz.isEmpty:=by cases r <;> rfl
theorem iU {xs:List V} {its:List Value} (r:aq xs its):(!its.toArray.isEmpty)= !xs.isEmpty:=by cases r <;> simp
theorem gk:(sizeLine:Nat) < 2 ^ 63:=by rw[sizeLine_eq];decide
theorem Ba:EL X (λx H Q=>∃k,BJ X.K x H k/\Q k H):=by
 intro pins s σ H x v Q I rx h;obtain⟨k,e,q⟩:=h;have hl:=gk;have hs:sizeLine=16777216:=sizeLine_eq;cases x with
 | ba=>cases rx;have e':k=false:=e;subst e';exact truthy_none ⟨H,I,q⟩
 | bl b=>cases rx;have e':k=b:=e;subst e';exact wpAny_truthy_bool ⟨H,I,q⟩
 | int i=>obtain⟨t,rfl⟩:=rx;have e':k=(i != 0):=e;subst e';exact PySem.P.truthy_int ⟨H,I,q⟩
 | str y=>obtain⟨t,rfl⟩:=rx;obtain⟨hy,e'⟩:y.length<=sizeLine/\k=((y.length:Int) != 0):=e;subst e';exact PySem.P.truthy_str (by lia) ⟨H,I.tok _,q⟩
 | yZ y=>obtain⟨t,rfl⟩:=rx;obtain⟨hy,e'⟩:y.size<=sizeLine/\k=((y.size:Int) != 0):=e;subst e';exact PySem.W.truthy_bytes (by lia) ⟨H,I.tok _,q⟩
 | ref p=>
  cases rx;have e':(∃xs,cY X.K H p xs/\k= !xs.isEmpty)\/(∃xs,de X.K H p xs/\k= !xs.isEmpty)\/∃dz,H p=some (.dK dz)/\k= !dz.isEmpty:=e;rcases e' with ⟨xs,hx,e'⟩ | ⟨xs,hx,e'⟩ | ⟨dz,hx,e'⟩
  ·subst e';obtain⟨its,r,pl,hz⟩:=I.list hx;have hlen:=r.length;exact wpAny_truthy_list pl.isList (by simp only[JS];lia) ⟨H,I.tok _,by rw[iU r];exact q⟩
  ·subst e';obtain⟨its,r,pl,hz⟩:=I.tuple hx;have hlen:=r.length;exact truthy_tuple pl (by simp only[JS];lia) ⟨H,I.tok _,by rw[iU r];exact q⟩
  ·subst e';obtain⟨hz,hS,vs,r,m⟩:dz.length<=sizeLine/\(p==sysModules)=false/\∃vs,KV dz vs/\s.heap.DictOf (dq X.prog X.w) p vs:=I.hok p _ hx;have hlen:dz.length=vs.length:=Paired.length r;exact wpAny_truthy_dict hS m (by lia) ⟨H,I.tok _,by rw[ot r];exact q⟩
 | _=>exact(show False from e).elim
theorem uG (ha:PE X a ta) (he:∀whole,isTrue a X.env whole=(do let v<-whole;standAt a.pos;holding [v] (truthy v))):
  PT X a (λσ H Q=>ta σ H λx H'=>∃k,BJ X.K x H' k/\Q k H'):=by
 intro pins s σ H Q I h;exact isTrue_plain (bo (ha pins s σ H _ I h) λv s1 ⟨x,H1,I1,r1,q1⟩=>Ba pins s1 σ H1 x v Q I1 r1 q1) (he _)
theorem oJ:jo X (binaryOp .Add) (λx y H Q=>∃i j,x= .str i/\y= .str j/\i.length + j.length<=sizeLine/\Q (.str (i++j)) H):=by intro pins s σ H x y v u Q I rx ry h;obtain⟨i,j,rfl,rfl,hz,q⟩:=h;obtain⟨t,rfl⟩:=rx;obtain⟨t',rfl⟩:=ry;exact add_str (λt' tk=>⟨.str (i++j),H,I.tok _,⟨_,rfl⟩,q⟩) hz
theorem vals1 {x:V} {us:List Value} (r:aq [x] us):∃u,us=[u]/\RelV x u:=by
 cases r with
 | cons r1 r2=>cases r2;exact⟨_,rfl,r1⟩
theorem vals2 {x y:V} {us:List Value} (r:aq [x,y] us):∃u w',us=[u,w']/\RelV x u/\RelV y w':=by
 cases r with
 | cons r1 r2=>
  cases r2 with
  | cons r3 r4=>cases r4;exact⟨_,_,rfl,r1,r3⟩
theorem qJ (hc:X.calm=true):eE X (.builtin "min") (λxs H Q=>∃i j,xs=[.int i,.int j]/\Q (.int (if j < i then j else i)) H):=by
 intro pins s σ H xs us Q I r h;obtain⟨i,j,rfl,q⟩:=h;obtain⟨u,w',rfl,⟨t,rfl⟩,⟨t',rfl⟩⟩:=vals2 r;refine min_two_ints (I.ok.hd hc) λh' tk k=>⟨_,H,I.kept k,?_,q⟩
 by_cases hj:j < i
 ·rw[if_pos hj,if_pos hj];exact⟨_,rfl⟩
 ·rw[if_neg hj,if_neg hj];exact⟨_,rfl⟩
noncomputable def EH (K:PySem.W.Frag) (x:V) (H:Hp) (n:Nat):Prop:=
 match x with
 | .str y=>y.length<=sizeLine/\n=y.length
 | .yZ y=>y.size<=sizeLine/\n=y.size
 | .ref p=>(∃xs,cY K H p xs/\n=xs.length)\/∃xs,de K H p xs/\n=xs.length
 | _=>False
theorem ft:eE X (.builtin "len") (λxs H Q=>∃x n,xs=[x]/\EH X.K x H n/\Q (.int n) H):=by
 intro pins s σ H xs us Q I r h;obtain⟨x,n,rfl,e,q⟩:=h;obtain⟨u,rfl,rx⟩:=vals1 r;have hl:=gk;have hs:sizeLine=16777216:=sizeLine_eq;cases x with
 | str y=>obtain⟨t,rfl⟩:=rx;obtain⟨hy,e'⟩:y.length<=sizeLine/\n=y.length:=e;subst e';exact len_str (by lia) ⟨.int _,H,I.tok _,⟨_,rfl⟩,q⟩
 | yZ y=>obtain⟨t,rfl⟩:=rx;obtain⟨hy,e'⟩:y.size<=sizeLine/\n=y.size:=e;subst e';exact PySem.W.len_bytes (by lia) ⟨.int _,H,I.tok _,⟨_,rfl⟩,q⟩
 | ref p=>
  cases rx;have e':(∃xs,cY X.K H p xs/\n=xs.length)\/∃xs,de X.K H p xs/\n=xs.length:=e;rcases e' with ⟨xs,hx,e'⟩ | ⟨xs,hx,e'⟩
  ·subst e';obtain⟨its,r',pl,hz⟩:=I.list hx;have hlen:=r'.length;exact Calls.call_len_list pl.isList (by simp only[JS];lia) ⟨.int xs.length,H,I.tok _,⟨_,by simp only[JS];rw[hlen]⟩,q⟩
  ·subst e';obtain⟨its,r',pl,hz⟩:=I.tuple hx;have hlen:=r'.length;exact len_tuple pl (by simp only[JS];lia) ⟨.int xs.length,H,I.tok _,⟨_,by simp only[JS];rw[hlen]⟩,q⟩
 | _=>exact(show False from e).elim
end
end L2
namespace L2
open PySem PySem.Spec PyProof.Rows
structure yO (h:Heap) (x dx C:Addr) (mA:Str->Option Value):Prop where
 obj:h.get? x=some (PySem.W.instObj C dx)
 ns:h.Ns1 dx mA
 ne:dx≠x
theorem rk {h:Heap} {dx:Addr} {mA:Str->Option Value} (n:h.Ns1 dx mA):∃od,h.get? dx=some od/\∀name,PySem.W.lookIn name od=some (mA name):=by
 obtain⟨o,es,ep,ho,hd,hk,_,hm⟩:=n;refine⟨o,ho,λname=>?_⟩;have e:=hm name;unfold nsFind findBy at e;rw[<-Array.find?_toList] at e;unfold PySem.W.lookIn;rw[hd];dsimp only;split
 ·rename_i y q;rw[q] at e;exact congrArg some e
 ·rename_i q;rw[q] at e;have a:es.toList.any (·.refKey)=false:=by rw[List.any_eq_false];intro y hy;obtain⟨z,t,wu⟩:=hk y (Array.mem_toList_iff.mp hy);simp[DictEntry.refKey,wu]
  have a':¬es.toList.any (·.refKey)=true:=by rw[a];exact Bool.false_ne_true
  rw[if_neg a'];exact congrArg some e
theorem yO.look {h:Heap} {x dx C:Addr} {mA:Str->Option Value} (I:yO h x dx C mA):∃od,PySem.W.InstAt h x (PySem.W.instObj C dx) C (some od)/\∀name,PySem.W.lookIn name od=some (mA name):=
 let ⟨od,ho,hl⟩:=rk I.ns
 ⟨od,⟨I.obj,rfl,rfl,ho⟩,hl⟩
section
variable {P:Program} {w:World} {H H':Hp} {h h':Heap} {a C dx:Addr} {fs E8:List (Str×V)}
theorem wC (hok:cG P w H h) (e:H a=some (.ins C dx fs)):∃mA,yO h a dx C mA/\(∀f,vK (fs.lookup f) (mA f))/\PySem.Within mA (fs.map (·.1))/\fs.length<=1000/\H dx=some (.own a):=by obtain⟨d,z,ne,ob,mA,n,r,q⟩:=(show bq P w H h a (.ins C dx fs) from hok a _ e);exact⟨mA,⟨ob,n,ne⟩,r,q,z,d⟩
end
structure EA (K:PySem.W.Frag) (C:Addr):Prop where
 pg:PySem.W.plainGet K C Str.empty=true
 hd:PySem.W.hasDictIn K C=true
 po:PySem.W.plainOver K C=true
 sa:PySem.W.findIn K (.ref C) "__setattr__"=some (some (.builtin "object.__setattr__"))
theorem EA.get {K:PySem.W.Frag} {C:Addr} (c:EA K C) (f:Str):PySem.W.plainGet K C f=true:=c.pg
section
variable {X:Cx} {pins:List (Addr×Obj)} {σ:St} {H:Hp} {s:Shared} {A:Around} {E:Value->Shared->Prop} {Q:Value->Shared->Prop} {c:Value} {b:Bool}
inductive fm (K:PySem.W.Frag) (H:Hp):V->Value->Prop where
 | ba:fm K H .ba (.type "NoneType")
 | bl (x:Bool):fm K H (.bl x) (.type "bool")
 | int (i:Int):fm K H (.int i) (.type "int")
 | str (x:Str):fm K H (.str x) (.type "str")
 | vx (x:UInt64):fm K H (.vx x) (.type "float")
 | lst {a:Addr} {xs:List V} (e:H a=some (.lst xs)):fm K H (.ref a) (.type "list")
 | pK {a:Addr} {o:Obj} {xs:List V} (e:H a=some (.pK o (.lst xs))):fm K H (.ref a) (.type "list")
 | tup {a:Addr} {xs:List V} (e:H a=some (.tup xs)):fm K H (.ref a) (.type "tuple")
 | dK {a:Addr} {dz:List (Key×V)} (e:H a=some (.dK dz)):fm K H (.ref a) (.type "dict")
 | dT {a:Addr} {dz:List (List Key×V)} (e:H a=some (.dT dz)):fm K H (.ref a) (.type "dict")
 | ins {a C dx:Addr} {fs:List (Str×V)} (e:H a=some (.ins C dx fs)) (cl:EA K C) (ha:PySem.W.findIn K (.ref C) "__class__"=some (some (.builtin "object.__class__")))
   (hn:PySem.W.specialIn K (.builtin "object.__class__") "__get__"=some (some (.builtin "getset_descriptor.__get__"))) (Hj:PySem.W.takesIn K (.builtin "object.__class__")=some true)
   (hm:PySem.W.mroIn K C (.type "object")=some true):fm K H (.ref a) (.ref C)
theorem rg {x:V} {u t:Value} (I:Inv X pins σ H s) (rx:RelV x u) (ty:fm X.K H x t) (e:PySem.W.kitOne X.K t c=some b) (h:∀tk,Q (.bool b) {s with toks:=tk}):
  wpAny (model X.prog X.w) A (call (.builtin "isinstance") [u,c]) Q E s:=by
 cases ty with
 | ba=>cases (show u=Value.none from rx);exact PySem.W.kia_one PySem.W.kitx_none I.mv True.intro e (λz=>nomatch z) h
 | bl y=>cases (show u=Value.bool y from rx);exact PySem.W.kia_one PySem.W.kitx_bool I.mv True.intro e (λz=>nomatch z) h
 | int i=>obtain⟨t,q⟩:=(show∃t,u=Value.int i t from rx);cases q;exact PySem.W.kia_one PySem.W.kitx_int I.mv True.intro e (λz=>nomatch z) h
 | str y=>obtain⟨t,q⟩:=(show∃t,u=Value.str y t from rx);cases q;exact PySem.W.kia_one PySem.W.kitx_str I.mv True.intro e (λz=>nomatch z) h
 | vx y=>obtain⟨t,q⟩:=(show∃t,u=Value.float y t from rx);cases q;exact PySem.W.kia_one PySem.W.kitx_float I.mv True.intro e (λz=>nomatch z) h
 | @lst a xs ea=>cases (show u=Value.ref a from rx);obtain⟨_,_,n,_,h1⟩:=(show bq X.prog X.w H s.heap a (.lst xs) from I.hok a _ ea);exact PySem.W.kia_one PySem.W.kitx_list I.mv ⟨_,h1,rfl⟩ e (λz=>nomatch z) h
 | @pK a ob xs ea=>cases (show u=Value.ref a from rx);obtain⟨_,_,_,n,_,h1⟩:=(show bq X.prog X.w H s.heap a (.pK ob (.lst xs)) from I.hok a _ ea);exact PySem.W.kia_one PySem.W.kitx_list I.mv ⟨_,h1,rfl⟩ e (λz=>nomatch z) h
 | @tup a xs ea=>cases (show u=Value.ref a from rx);obtain⟨_,_,_,p⟩:=(show bq X.prog X.w H s.heap a (.tup xs) from I.hok a _ ea);obtain⟨o,h1,h2,_⟩:=p;exact PySem.W.kia_one PySem.W.kitx_tuple I.mv ⟨o,h1,h2⟩ e (λz=>nomatch z) h
 | @dK a dz ea=>cases (show u=Value.ref a from rx);obtain⟨_,_,vs,_,p⟩:=(show bq X.prog X.w H s.heap a (.dK dz) from I.hok a _ ea);obtain⟨o,es,ep,h1,h2,_⟩:=p;exact PySem.W.kia_one PySem.W.kitx_dict I.mv ⟨o,h1,h2.1⟩ e (λz=>nomatch z) h
 | @dT a dz ea=>cases (show u=Value.ref a from rx);obtain⟨_,_,xs,_,o,es,ep,h1,h2,_⟩:=(show bq X.prog X.w H s.heap a (.dT dz) from I.hok a _ ea);exact PySem.W.kia_one PySem.W.kitx_dict I.mv ⟨o,h1,h2.1⟩ e (λz=>nomatch z) h
 | @ins a C dx fs ea cl ha hn Hj hm=>cases (show u=Value.ref a from rx);obtain⟨mA,O,_⟩:=wC I.hok ea;obtain⟨od,J,_⟩:=O.look;exact PySem.W.kia_one (PySem.W.kitx_own (cl.get _) cl.hd ha hn Hj hm) I.mv J e (λz=>nomatch z) h
end
end L2
namespace L2
open PySem PySem.Spec PyProof.Rows
structure fh (k:Nat) (A:Around):Prop where
 hd:A.handled=none
 dp:A.depth + 3 * k + 5 < recursionLimit
 un:A.units + 16 * k + 200 < cLine
theorem fh.deeper {k:Nat} {A:Around} (r:fh (k + 1) A) (env:Env):fh k (A.deeper env):=
 ⟨r.hd,by have:=r.dp;show A.depth + 1 + 3 * k + 5 < _;lia,by have:=r.un;show A.units + 3 + 16 * k + 200 < _;lia⟩
theorem fh.depth {k:Nat} {A:Around} (r:fh k A):A.depth < recursionLimit:=by have:=r.dp;lia
noncomputable def A7:TA:=λ_ H Q=>Q [] H
noncomputable def uX (ta:TE) (tr:TA):TA:=λσ H Q=>ta σ H λx H1=>tr σ H1 λxs H2=>Q (x::xs) H2
section
variable {X:Cx} {e:Expr} {es:List Expr} {te:TE} {t:TA} {pos:Pos}
theorem cT:PA X [] A7:=λ_ _ _ _ H Q I h=>Calls.spliced_nil ⟨[],H,I,.nil,h⟩
theorem bh (ha:PE X e te) (hr:PA X es t) (hs:starEach (e::es) X.env=(false,eval e X.env)::starEach es X.env:=by rfl):PA X (e::es) (uX te t):=by intro pos pins s σ H Q I h;rw[hs];show wpAny _ _ (spliced ((false,eval e X.env)::backTo pos (starEach es X.env))) _ _ s;refine Calls.spliced_cons (bo (ha pins s σ H _ I h) λu s1 ⟨x,H1,I1,r1,q1⟩=>?_);exact bo (hr pos pins s1 σ H1 _ I1 q1) λus s2 ⟨xs,H2,I2,r2,q2⟩=>⟨x::xs,H2,I2,.cons r1 r2,q2⟩
noncomputable def GA (t:TA):TE:=λσ H Q=>t σ H λxs H1=>xs.length<=sizeLine/\∀p,H1 p=none->Q (.ref p) (upd H1 p (.tup xs))
noncomputable def Gw (t:TA):TE:=λσ H Q=>t σ H λxs H1=>xs.length<=sizeLine/\∀p,H1 p=none->Q (.ref p) (upd H1 p (.lst xs))
theorem Az {x1} (h:PA X es t):PE X (.Tuple es x1 pos) (GA t):=by intro pins s σ H Q I hq;refine wpAny_Tuple_spliced (bo (h pos pins s σ H _ I hq) λus s1 ⟨xs,H1,I1,r,z,q⟩=>⟨by rw[<-r.length];exact z,?_⟩);have hf:H1 s1.heap.objs.size=none:=I1.hok.fresh (JW _);refine⟨.ref s1.heap.objs.size,upd H1 s1.heap.objs.size (.tup xs),I1.laid (t':=s1.toks) (λb u e=>JP _ e) (JW _) ?_,rfl,q _ hf⟩;exact⟨z,us,r,⟨_,JY _ rfl,rfl,_,rfl⟩⟩
theorem Au (h:PA X es t):PE X (.List es pos) (Gw t):=by intro pins s σ H Q I hq;refine wpAny_List_spliced (bo (h pos pins s σ H _ I hq) λus s1 ⟨xs,H1,I1,r,z,q⟩=>⟨by rw[<-r.length];exact z,?_⟩);have hf:H1 s1.heap.objs.size=none:=I1.hok.fresh (JW _);refine⟨.ref s1.heap.objs.size,upd H1 s1.heap.objs.size (.lst xs),I1.laid (t':=s1.toks) (λb u e=>JP _ e) (JW _) ?_,rfl,q _ hf⟩;exact⟨z,us,0,r,JY _ rfl⟩
end
noncomputable abbrev Sp:=List V->Hp->VK->XK->Prop
noncomputable abbrev iw:=List Env->Hp->Shared->XK->Value->Shared->Prop
structure vI (P:Program) (w:World) (K:PySem.W.Frag) (mg:Str->Option Value) (base:Heap) (A:Around) (outer:List Env) (s:Shared) (H:Hp):Prop where
 frames:A.frames=some outer
 mod:Mod K mg base
 bs:∀b o,base.get? b=some o->s.heap.get? b=some o/\H b=none
 vR:base.objs.size<=s.heap.objs.size
 gM:s.heap.FunFrames base outer
 zl:∀b∈dG outer,H b=none
 hok:cG P w H s.heap
 bare:AllBare s.gens
noncomputable def CE (outer:List Env) (P:Program) (w:World) (H:Hp) (s:Shared) (Q:VK) (u:Value) (s':Shared):Prop:=
 ∃v H',s'.os=s.os/\AllBare s'.gens/\Un (dG outer) [] H H' s.heap s'.heap/\cG P w H' s'.heap/\RelV v u/\Q v H'
noncomputable def CR (CX:iw) (outer:List Env) (P:Program) (w:World) (H:Hp) (s:Shared) (Q:VK) (E:XK) (r:Result) (s':Shared):Prop:=
 match r with
 | .ok (.ret u)=>CE outer P w H s Q u s'
 | .ok _=>False
 | .error e=>CX outer H s E e s'
structure f7 (P:Program) (w:World) (K:PySem.W.Frag) (mg:Str->Option Value) (base:Heap) (CX:iw) (k:Nat) (f:Addr) (fd:FuncData) (ps:List Str) (sp:Sp):Prop where
 len:∀vs H Q E,sp vs H Q E->vs.length=ps.length
 run:∀(A:Around) (outer:List Env) (s:Shared) (H:Hp) (args:Args) (us:List Value) (vs:List V) (Q:VK) (E:XK),fh k A->vI P w K mg base A outer s H->BindsTo s fd args (ps.zip us)->aq vs us->sp vs H Q E->
  codeAny (model P w) A (.call (.ref f) args) (CR CX outer P w H s Q E) s
theorem f7.imp {P:Program} {w:World} {K:PySem.W.Frag} {mg:Str->Option Value} {base:Heap} {CX:iw} {k:Nat} {f:Addr} {fd:FuncData} {ps:List Str} {sp Hs:Sp} (F:f7 P w K mg base CX k f fd ps sp)
  (h:∀vs H Q E,Hs vs H Q E->sp vs H Q E):f7 P w K mg base CX k f fd ps Hs:=
 ⟨λvs H Q E q=>F.len vs H Q E (h _ _ _ _ q),λA outer s H args us vs Q E hr he hb hv hs=>F.run A outer s H args us vs Q E hr he hb hv (h _ _ _ _ hs)⟩
section
variable {X:Cx} {pins:List (Addr×Obj)} {σ:St} {H:Hp} {s s':Shared}
theorem Inv.eB (I:Inv X pins σ H s):vI X.prog X.w X.K X.mg X.base X.A X.stack s H:=
 ⟨I.ok.frames,I.ok.mod,I.bs,J1 I.ok.vR I.sz,I.stack,I.ly,I.hok,I.bare⟩
theorem Inv.after {Q:VK} {u:Value} (I:Inv X pins σ H s) (h:CE X.stack X.prog X.w H s Q u s'):EP X pins σ Q u s':=by obtain⟨v,H',os,bare,un,hok,r,q⟩:=h;obtain⟨hh,g,d,t,Jf⟩:=s';obtain rfl:Jf=s.os:=os;exact⟨v,H',I.call (h':=hh) (g':=g) (d':=d) (t':=t) (ch:=[]) un hok bare (λb z=>absurd z (by simp)),r,q⟩
end
noncomputable def Dy (sp:Sp) (pG:List V) (E:XK) (t:TA):TE:=λσ H Q=>t σ H λvs H1=>sp (vs++pG) H1 Q E
noncomputable def Binds (K:PySem.W.Frag) (fd:FuncData) (ps:List Str) (ds:List Value):Prop:=
 ∀(s:Shared) (us:List Value),K.In s.heap->(us++ds).length=ps.length->BindsTo s fd ⟨us,[]⟩ (ps.zip (us++ds))
theorem Binds.all {K:PySem.W.Frag} {fd:FuncData} {ps:List Str} (h:∀us:List Value,us.length=ps.length->bindArgs fd ⟨us,[]⟩=pure (ps.zip us)):Binds K fd ps []:=λs us _ hl=>by rw[Ku] at hl ⊢;exact .of_eq (h us hl)
noncomputable def nz (CX:iw) (X:Cx) (E:XK):Prop:=∀(pins:List (Addr×Obj)) (σ:St) (H:Hp) (s:Shared) (e:Value) (s':Shared),Inv X pins σ H s->CX X.stack H s E e s'->X.xe e s'
section
variable {X:Cx} {CX:iw} {k:Nat} {f C:Addr} {fd:FuncData} {ps:List Str} {sp:Sp} {pG:List V} {ds:List Value} {E:XK} {x m:Str} {p pos apos:Pos} {e o:Expr} {es:List Expr} {ta:TE} {t:TA}
theorem AL {pins:List (Addr×Obj)} {σ:St} {H:Hp} {s:Shared} {Q:VK} {us:List Value} {vs:List V} (F:f7 X.prog X.w X.K X.mg X.base CX k f fd ps sp) (hr:fh k X.A) (hb:Binds X.K fd ps ds) (hd:aq pG ds) (hx:nz CX X E)
  (I:Inv X pins σ H s) (r:aq vs us) (h:sp (vs++pG) H Q E):wpAny (model X.prog X.w) X.A (call (.ref f) us) (EP X pins σ Q) X.xe s:=by
 have r2:aq (vs++pG) (us++ds):=r.append hd;have hl:(us++ds).length=ps.length:=by rw[<-r2.length];exact F.len _ _ _ _ h
 refine wpAny_call (codeAny_mono (F.run X.A X.stack s H ⟨us,[]⟩ (us++ds) (vs++pG) Q E hr I.eB (hb s us I.mv hl) r2 h) λr s' hq=>?_);cases r with
 | error e=>exact hx pins σ H s e s' I hq
 | ok fl=>
  cases fl with
  | ret u=>exact I.after hq
  | next=>exact False.elim hq
  | brk=>exact False.elim hq
  | cont=>exact False.elim hq
theorem xc (F:f7 X.prog X.w X.K X.mg X.base CX k f fd ps sp) (hr:fh k X.A) (hg:Gl X x) (hm:X.mg x=some (.ref f)) (hk:PySem.W.keepIn X.K (.ref f)=true) (hb:Binds X.K fd ps ds) (hd:aq pG ds) (hx:nz CX X E)
  (ha:PA X (e::es) t) (wq:(x==("__debug__":Str))=false:=by decide) (he:starEach (e::es) X.env=(false,eval e X.env)::starEach es X.env:=by rfl) (nu:(backTo pos (starEach es X.env)).any (·.1)=false:=by rfl):
  PE X (.Call (.Name x p) (e::es) [] pos) (Dy sp pG E t):=by
 intro pins s σ H Q I h;refine wpAny_Call_Name_kw (p8 I hg hm ?_ wq);refine PySem.W.callWith_K (h₀:=X.base) I.ok.mod.FN hk (bo (ha pos pins s σ H _ I h) λus s1 ⟨vs,H1,I1,r,q⟩=>⟨I1.mv,?_⟩) he nu;exact AL F hr hb hd hx I1 r q
end
structure dc (N P:List Str) (sc:Scope):Prop where
 kind:sc.kind= .function
 co:sc.isCoroutine=false
 gen:sc.isGenerator=false
 nd:N.Nodup
 pre:N.take P.length=P
 par:∀x∈P,sc.names.lookup x=some .local\/sc.names.lookup x=some .cell
 Ag:∀y∈sc.names,y.2≠ .free
theorem jM {kindOf:Str->Option NameKind} {x:Str}:∀{binds:List (Str×Value)} {m:Str->Option Value},(∀v,(x,v)∉binds)->bindL kindOf binds m x=m x
 | [],_,_=>rfl
 | (n,v)::r,m,h=>by
  unfold bindL;rw[jM λw hw=>h w (JV _ hw)];split
  ·have:x≠n:=by rintro rfl;exact h v JX
   simp[this]
  ·rfl
theorem jK {kindOf:Str->Option NameKind} {x:Str}:∀{binds:List (Str×Value)} {m:Str->Option Value},(∀v,(x,v)∉binds)->bindC kindOf binds m x=m x
 | [],_,_=>rfl
 | (n,v)::r,m,h=>by
  unfold bindC;rw[jK λw hw=>h w (JV _ hw)];split
  ·rfl
  ·have:x≠n:=by rintro rfl;exact h v JX
   simp[this]
theorem jL {kindOf:Str->Option NameKind} {x:Str} {v:Value}:∀{P:List Str} {vs:List Value} {i:Nat} {m:Str->Option Value},P.Nodup->P[i]?=some x->vs[i]?=some v->kindOf x=some .local->
  bindL kindOf (P.zip vs) m x=some v
 | [],_,_,_,_,h,_,_=>by simp at h
 | _::_,[],_,_,_,_,h,_=>by simp at h
 | p::P,w::vs,0,m,nd,h1,h2,hk=>by simp at h1 h2;subst h1;subst h2;show bindL kindOf ((p,w)::P.zip vs) m p=_;unfold bindL;rw[jM λv hv=>(List.nodup_cons.mp nd).1 (List.of_mem_zip hv).1,if_pos hk];simp
 | p::P,w::vs,i + 1,m,nd,h1,h2,hk=>by show bindL kindOf ((p,w)::P.zip vs) m x=_;unfold bindL;exact jL (i:=i) (List.nodup_cons.mp nd).2 (by simpa using h1) (by simpa using h2) hk
theorem jJ {kindOf:Str->Option NameKind} {x:Str} {v:Value}:∀{P:List Str} {vs:List Value} {i:Nat} {m:Str->Option Value},P.Nodup->P[i]?=some x->vs[i]?=some v->kindOf x≠some .local->
  bindC kindOf (P.zip vs) m x=some v
 | [],_,_,_,_,h,_,_=>by simp at h
 | _::_,[],_,_,_,_,h,_=>by simp at h
 | p::P,w::vs,0,m,nd,h1,h2,hk=>by simp at h1 h2;subst h1;subst h2;show bindC kindOf ((p,w)::P.zip vs) m p=_;unfold bindC;rw[jK λv hv=>(List.nodup_cons.mp nd).1 (List.of_mem_zip hv).1,if_neg hk];simp
 | p::P,w::vs,i + 1,m,nd,h1,h2,hk=>by show bindC kindOf ((p,w)::P.zip vs) m x=_;unfold bindC;exact jJ (i:=i) (List.nodup_cons.mp nd).2 (by simpa using h1) (by simpa using h2) hk
noncomputable def start (N:List Str) (vs:List V):St:=vs.map some++List.replicate (N.length - vs.length) none
noncomputable def iF (CX:iw) (P:Program) (w:World) (K:PySem.W.Frag) (mg:Str->Option Value) (base:Heap) (N:List Str) (qual:Str) (scope:Scope) (f:Addr) (cd:Value) (A:Around) (outer:List Env) (s:Shared) (H:Hp) (E:XK):Cx where
 prog:=P
 w:=w
 K:=K
 mg:=mg
 base:=base
 A:=A.deeper (envOfC qual scope s.heap.objs.size f cd)
 N:=N
 s₀:=s
 H₀:=H
 env:=envOfC qual scope s.heap.objs.size f cd
 outer:=outer
 stack:=envOfC qual scope s.heap.objs.size f cd::outer
 ex:=[]
 calm:=true
 fn:=λ_=>true
 pn:=[]
 xe:=λe s'=>wpAny (model P w) (A.deeper (envOfC qual scope s.heap.objs.size f cd)) (leaving (envOfC qual scope s.heap.objs.size f cd) e) (λ_ s''=>CX outer H s E e s'') (λe' s''=>CX outer H s E e' s'') s'
theorem lR {sc:Scope} {n:Nat} {x:Str} (h:sc.names.lookup x=some .cell):∃c,(cellsFrom n sc.names []).lookup x=some c:=by have q:=PySem.W.cellsFrom_some sc.names n [] (.inl h);exact Option.isSome_iff_exists.mp q
theorem rd {CX:iw} {P:Program} {w:World} {K:PySem.W.Frag} {mg:Str->Option Value} {base:Heap} {N ps:List Str} {qual:Str} {scope:Scope} {f:Addr} {cd:Value} {A:Around} {outer:List Env} {s s1:Shared} {H:Hp} {E:XK} {us:List Value} {vs:List V}
  (S:dc N ps scope) (hd:A.handled=none) (e0:vI P w K mg base A outer s H) (hl:vs.length=ps.length) (r:aq vs us)
  (x:InCallC s s.heap.objs.size (bindL (envOfC qual scope s.heap.objs.size f cd).kindOf (ps.zip us) λ_=>none) (cellsFrom (s.heap.objs.size + 1) scope.names []) (bindC (envOfC qual scope s.heap.objs.size f cd).kindOf (ps.zip us) λ_=>none) s1):
  Inv (iF CX P w K mg base N qual scope f cd A outer s H E) [] (start N vs) H s1:=by
 have nu:ps.length<=N.length:=by have:=congrArg List.length S.pre;rw[List.length_take] at this;lia
 obtain⟨h1,tk,rfl,hk⟩:=x.done;have CN:∀b:Addr,b∉(iF CX P w K mg base N qual scope f cd A outer s H E).ex:=λb z=>absurd (show b∈([]:List Addr) from z) (by simp)
 refine⟨⟨e0.mod,S.kind,rfl,rfl,JW _,λy z c h1 h2=>?_,λy hy=>?_,λy c _ h=>?_,λ_=>hd,Around.frames_deeper e0.frames,.inr ⟨rfl,rfl⟩,λb z=>absurd z (CN b),e0.bs,e0.vR,λb _ _=>CN b,λb z=>absurd z (CN b),e0.gM,e0.zl⟩,
  rfl,e0.bare,Un.kept hk,⟨_,x.toInCall.ns,λi y v h1 h2 h3=>?_⟩,λy c h=>⟨_,x.cell y c h⟩,e0.hok.fresh (JW _),λy c h=>?_,λp hp=>absurd (show p∈([]:List (Addr×Obj)) from hp) (by simp),e0.hok.kept hk,?_⟩
 ·exact name_of_addr x.apart (PySem.mem_of_lookup h1) (PySem.mem_of_lookup h2)
 ·have hy:scope.names.lookup y=some .cell\/scope.names.lookup y=some .free:=hy;rcases hy with hy | hy
  ·exact lR hy
  ·exact absurd rfl (S.Ag _ (PySem.mem_of_lookup hy))
 ·exact Nat.le_of_lt (x.above y c (PySem.mem_of_lookup h))
 ·have hi:i < vs.length:=by
   unfold start at h2;by_cases hi:i < vs.length
   ·exact hi
   ·rw[Kx (by simpa using hi)] at h2;rw[List.getElem?_replicate] at h2;split at h2 <;> cases h2
  have ha:vs[i]?=some v:=by
   unfold start at h2;rw[Kw (by simpa using hi),Ka] at h2;cases e:vs[i]? with
   | none=>rw[e] at h2;cases h2
   | some a=>rw[e] at h2;cases h2;rfl
  obtain⟨u,hu,rv⟩:=r.get ha;have hp:ps[i]?=some y:=by rw[<-S.pre,List.getElem?_take_of_lt (by lia)];exact h1
  have Ho:ps.Nodup:=by rw[<-S.pre];exact S.nd.sublist (List.take_sublist _ _)
  refine⟨u,rv,?_⟩;rcases S.par y (List.mem_of_getElem? hp) with k | k
  ·exact .inl ⟨k,jL Ho hp hu k⟩
  ·obtain⟨c,e⟩:=lR (n:=s.heap.objs.size + 1) k;refine .inr ⟨.inl k,c,e,?_⟩;have q:=x.cell y c e;rw[jJ Ho hp hu (by show scope.names.lookup y≠_;rw[k];decide)] at q;exact q
 ·exact e0.hok.fresh (Nat.le_of_lt (x.above y c (PySem.mem_of_lookup h)))
 ·unfold start;show _=N.length;rw[J7,JZ,List.length_replicate]
  lia
end L2
namespace L2
open PySem PySem.Spec PyProof.Rows
section
variable {X:Cx} {x:Str} {p pos:Pos} {e:Expr} {es:List Expr} {t:TA} {id T:String} {r:List V->Hp->VK->Prop}
noncomputable def Gv (r:List V->Hp->VK->Prop) (t:TA):TE:=λσ H Q=>t σ H λvs H1=>r vs H1 Q
theorem mJ (hc:eE X (.builtin id) r) (hg:Gl X x) (hm:X.mg x=none) (hv:bootBuiltins x=some (.builtin id)) (ha:PA X (e::es) t) (hn:x≠"__name__":=by decide) (wq:(x==("__debug__":Str))=false:=by decide)
  (he:starEach (e::es) X.env=(false,eval e X.env)::starEach es X.env:=by rfl) (nu:(backTo pos (starEach es X.env)).any (·.1)=false:=by rfl):PE X (.Call (.Name x p) (e::es) [] pos) (Gv r t):=by
 intro pins s σ H Q I h;refine wpAny_Call_Name_kw (b7 I hg hm hv ?_ hn wq);exact PyProof.Rows.callWith_builtin1 (bo (ha pos pins s σ H _ I h) λus s1 ⟨vs,H1,I1,r1,q1⟩=>hc pins s1 σ H1 vs us Q I1 r1 q1) he nu
theorem j9 (hc:eE X (.type T) r) (hg:Gl X x) (hm:X.mg x=none) (hv:bootBuiltins x=some (.type T)) (ha:PA X (e::es) t) (hn:x≠"__name__":=by decide) (wq:(x==("__debug__":Str))=false:=by decide)
  (he:starEach (e::es) X.env=(false,eval e X.env)::starEach es X.env:=by rfl) (nu:(backTo pos (starEach es X.env)).any (·.1)=false:=by rfl):PE X (.Call (.Name x p) (e::es) [] pos) (Gv r t):=by
 intro pins s σ H Q I h;refine wpAny_Call_Name_kw (b7 I hg hm hv ?_ hn wq);exact PyProof.Rows.callWith_type1 (bo (ha pos pins s σ H _ I h) λus s1 ⟨vs,H1,I1,r1,q1⟩=>hc pins s1 σ H1 vs us Q I1 r1 q1) he nu
end
end L2
namespace HT
open PySem PyProof.Rows
section
variable {prog:Program} {w:World} {A:Around} {E:Value->Shared->Prop} {s:Shared}
theorem vT {t b:Addr} {vs ws:List Value} {Q:Value->Shared->Prop} (ht:IsTup s.heap t vs.toArray) (hb:IsTup s.heap b ws.toArray) (hv:vs≠[])
  (h1:ws=[]->Q (.ref t) s) (h2:ws≠[]->Q (.ref s.heap.objs.size) {s with heap:=s.heap.push {cls:= .type "tuple",data:= .seq (vs++ws).toArray}})
  (jW:vs.length + ws.length<=sizeLine):wpAny (model prog w) A (binaryOp .Add (.ref t) (.ref b)) Q E s:=by
 obtain⟨⟨cls,dd,data,sl⟩,ho,hc,n,hd⟩:=id ht;obtain⟨⟨BR,vp,data2,se⟩,pO,qU,n2,hd2⟩:=id hb;simp only at hc hd qU hd2;subst hc hd qU hd2;have e:vs.toArray++ws.toArray=(vs++ws).toArray:=by simp
 by_cases hw:ws=[]
 ·exact concat_meets ⟨_,ho,rfl⟩ ⟨_,pO,rfl⟩ noFill_tuple_add seq_tuple_add PySem.F.slot_tuple_add PySem.F.entry_tuple_add (PySem.F.args_tuple_add_2 _ _)
   (tuple_addW1 t b vs.toArray ws.toArray n n2 dd vp sl se (by simpa using hv) (by simp[hw])) ⟨ho,pO,h1 hw⟩
 ·refine concat_meets ⟨_,ho,rfl⟩ ⟨_,pO,rfl⟩ noFill_tuple_add seq_tuple_add PySem.F.slot_tuple_add PySem.F.entry_tuple_add (PySem.F.args_tuple_add_2 _ _)
   (tuple_addW2 t b vs.toArray ws.toArray n n2 dd vp sl se (by simpa using hv) (by simpa using hw) (by rw[JS,JS];exact jW)) ⟨ho,pO,?_⟩
  rw[e];exact h2 hw
noncomputable def bA (n d:Nat):Option Int->Nat
 | none=>d
 | some v=>if v < 0 then(v + (n:Int)).toNat else min v.toNat n
theorem AM (n d:Nat) (hd:d<=n) (o:Option Int):bA n d o<=n:=by
 cases o with
 | none=>exact hd
 | some v=>
  show (if v < 0 then(v + (n:Int)).toNat else min v.toNat n)<=n;by_cases hv:v < 0
  ·rw[if_pos hv];lia
  ·rw[if_neg hv];exact Nat.min_le_right _ _
theorem pB (v:Int) (n d:Nat):(if v < 0 then max (v + (n:Int)) 0 else min v (n:Int))=((bA n d (some v):Nat):Int):=by
 show (if v < 0 then max (v + (n:Int)) 0 else min v (n:Int))=(((if v < 0 then(v + (n:Int)).toNat else min v.toNat n):Nat):Int);by_cases hv:v < 0
 ·simp only[if_pos hv];lia
 ·simp only[if_neg hv];lia
theorem nE (lo hi:Option Int) (n:Nat):Builtin.Slice.sliceAdjust lo hi 1 (n:Int)=(((bA n 0 lo:Nat):Int),((bA n n hi:Nat):Int)):=by
 have h1:¬((1:Int) < 0):=by lia
 unfold Builtin.Slice.sliceAdjust;simp only[h1,if_false];refine Prod.ext ?_ ?_
 ·cases lo with
  | none=>rfl
  | some v=>exact pB v n 0
 ·cases hi with
  | none=>rfl
  | some v=>exact pB v n n
theorem oM (i j:Nat):Builtin.Slice.slicePlaces (i:Int) (j:Int) 1=j - i:=by
 unfold Builtin.Slice.slicePlaces;have h1:(1:Int) > 0:=by lia
 simp only[h1,if_true,Int.ediv_one];split <;> lia
theorem jd {v:Value} {o:Option Int} {Q:Option Int->Shared->Prop} (p:IsPart v o) (h:Q o s):wpAny (model prog w) A (Builtin.Slice.slicePartIndex v) Q E s:=by
 cases p with
 | none=>exact slicePart_none h
 | int i t=>exact slicePart_int h
theorem c9 {sl:Addr} {vl vu:Value} {lo hi:Option Int} {n:Nat} {Q:Int×Int×Nat->Shared->Prop} (hs:s.heap.IsSliceOf sl vl vu .none) (pl:IsPart vl lo) (pu:IsPart vu hi)
  (h:Q (((bA n 0 lo:Nat):Int),1,bA n n hi - bA n 0 lo) s):wpAny (model prog w) A (Builtin.Slice.sliceApplied (.ref sl) (pure (n:Int))) Q E s:=by
 obtain⟨os,zK,tM,zC⟩:=id hs;unfold Builtin.Slice.sliceApplied Builtin.Slice.sliceFields;refine JN (JN (wpAny_field zK zC (x:=vl) rfl (JN (wpAny_field zK zC (x:=vu) rfl (JN (wpAny_field zK zC (x:= .none) rfl (JQ ?_)))))));refine JN (slicePart_none ?_);show wpAny _ _ (if ((1:Int)==0)=true then _ else _) _ _ s;rw[if_neg (by decide)];refine JN (jd pl (JN (jd pu (JN (JQ ?_)))));show wpAny _ _ (match Builtin.Slice.sliceAdjust lo hi 1 (n:Int) with | (lo,hi)=>pure (lo,(1:Int),Builtin.Slice.slicePlaces lo hi 1)) _ _ s;rw[nE lo hi n];show wpAny _ _ (pure (((bA n 0 lo:Nat):Int),(1:Int),Builtin.Slice.slicePlaces ((bA n 0 lo:Nat):Int) ((bA n n hi:Nat):Int) 1)) _ _ s;rw[oM];exact JQ h
theorem uB (xs:Array Value) (i k:Nat):((List.range k).filterMap λ(m:Nat)=>xs[((i:Int) + (m:Int) * 1).toNat]?).toArray=((xs.toList.drop i).take k).toArray:=by
 have e:(λ(m:Nat)=>xs[((i:Int) + (m:Int) * 1).toNat]?)=λm=>xs[i + m]?:=by
  funext m;have:((i:Int) + (m:Int) * 1).toNat=i + m:=by lia
  rw[this]
 rw[e];have:=pick_run xs i k;rw[List.filterMap_map] at this;have e2:((λx=>xs[x]?) ∘ λx=>i + x)=λm=>xs[i + m]?:=rfl
 rw[e2] at this;rw[this]
theorem fD {t sl:Addr} {items:Array Value} {vl vu:Value} {lo hi:Option Int} {Q:Value->Shared->Prop} (ht:IsTup s.heap t items) (hs:s.heap.IsSliceOf sl vl vu .none) (pl:IsPart vl lo) (pu:IsPart vu hi)
  (hw:¬(bA items.size 0 lo=0/\bA items.size items.size hi=items.size))
  (h:Q (.ref s.heap.objs.size) {s with heap:=s.heap.push {cls:= .type "tuple",data:= .seq ((items.toList.drop (bA items.size 0 lo)).take (bA items.size items.size hi - bA items.size 0 lo)).toArray}})
  (jW:items.size<=sizeLine):wpAny (model prog w) A (getItem (.ref t) (.ref sl)) Q E s:=by
 have pP:sizeOk (.seq ((items.toList.drop (bA items.size 0 lo)).take (bA items.size items.size hi - bA items.size 0 lo)).toArray):=by
  show ((items.toList.drop (bA items.size 0 lo)).take (bA items.size items.size hi - bA items.size 0 lo)).toArray.size<=sizeLine;rw[JS,List.length_take,List.length_drop,Kb]
  lia
 have hj:bA items.size items.size hi<=items.size:=AM _ _ (JW _) hi;obtain⟨os,zK,tM,zC⟩:=id hs;have Fq:s.TypeIs (.ref sl) "slice":=⟨os,zK,tM⟩;unfold getItem
 try with_reducible refine wpAny_holding ?_
 first | refine JN (JQ ?_) | skip
 refine JN (wpAny_sequenceKey ht.typeIs (by decide) ?_);refine JN (wpAny_callSpecial?_slot (name:=Str.ofString "__getitem__") ht.typeIs PyProof.Rows.slot_tuple_getitem
  (wpAny_call_entry PyProof.Rows.slot_tuple_getitem ht.typeIs entry_tuple_getitem ?_ (args_tuple_getitem _ _)))
 show wpAny _ _ (Builtin.Tuple.tupleItemsOf (.ref t) >>=_) _ _ s;refine JN (tupleItemsOf_ ht ?_);refine JN (wpAny_typeOf Fq ?_);rw[if_pos (by decide)];refine JN (c9 hs pl pu ?_);have IG:¬((((bA items.size 0 lo:Nat):Int)==0&&(1:Int)==1&&(bA items.size items.size hi - bA items.size 0 lo)==items.size)=true):=by intro q;rw[JR,JR] at q;have q1:((bA items.size 0 lo:Nat):Int)=0:=Ke q.1.1;have q2:bA items.size items.size hi - bA items.size 0 lo=items.size:=Ke q.2;exact hw ⟨by lia,by lia⟩
 show wpAny _ _ (if (((bA items.size 0 lo:Nat):Int)==0&&(1:Int)==1&&(bA items.size items.size hi - bA items.size 0 lo)==items.size)=true then _ else _) _ _ s;rw[if_neg IG,uB]
 first
  | exact JN (m:=Builtin.Tuple.tupleExact _) (wpAny_newObj_type (JQ ⟨_,rfl,JQ h⟩) pP)
  | exact JN (m:=Builtin.Tuple.tupleExact _) (wpAny_newObj_type (JN (JQ (JQ ⟨_,rfl,JQ h⟩))) pP)
  | exact JN (JN (m:=Builtin.Tuple.tupleExact _) (wpAny_newObj_type (JQ (JQ ⟨_,rfl,JQ h⟩)) pP))
  | exact JN (JN (m:=Builtin.Tuple.tupleExact _) (wpAny_newObj_type (JQ ⟨_,rfl,JQ h⟩) pP))
end
end HT
namespace L2
open PySem PySem.Spec PyProof.Rows
noncomputable abbrev TO:=St->Hp->(Option Int->Hp->Prop)->Prop
noncomputable def PO (X:Cx) (e:Option Expr) (t:TO):Prop:=
 ∀(pins:List (Addr×Obj)) (s:Shared) (σ:St) (H:Hp) (Q:Option Int->Hp->Prop),Inv X pins σ H s->t σ H Q->
  wpAny (model X.prog X.w) X.A (evalPart e X.env) (λu s'=>∃o H',Inv X pins σ H' s'/\IsPart u o/\Q o H') X.xe s
noncomputable def xK:TO:=λ_ H Q=>Q none H
noncomputable def DD (t:TE):TO:=λσ H Q=>t σ H λx H1=>∃i,x= .int i/\Q (some i) H1
section
variable {X:Cx} {e:Expr} {te:TE} {lo hi:Option Expr} {tl th:TO} {pos p2:Pos}
theorem qh:PO X none xK:=by intro pins s σ H Q I h;rw[evalPart_none];exact JQ ⟨none,H,I,.none,h⟩
theorem qi (h:PE X e te):PO X (some e) (DD te):=by
 intro pins s σ H Q I hw;rw[evalPart_some];refine bo (h pins s σ H _ I hw) λu s1 ⟨x,H1,I1,r1,q1⟩=>?_
 obtain⟨i,rfl,q⟩:=q1;obtain⟨t,rfl⟩:=r1;exact⟨some i,H1,I1,.int i t,q⟩
noncomputable def Bn (X:Cx) (r:V->Option Int->Option Int->Hp->VK->Prop):Prop:=
 ∀(pins:List (Addr×Obj)) (s:Shared) (σ:St) (H:Hp) (x:V) (v vl vu:Value) (lo hi:Option Int) (sl:Addr) (Q:VK),Inv X pins σ H s->RelV x v->s.heap.IsSliceOf sl vl vu .none->IsPart vl lo->IsPart vu hi->r x lo hi H Q->
  ∃T id,typeLookup (.type T) "__getitem__"=pure (some (.builtin id))/\s.TypeIs v T/\wpAny (model X.prog X.w) X.A (getItem v (.ref sl)) (EP X pins σ Q) X.xe s
noncomputable def Jm (r:V->Option Int->Option Int->Hp->VK->Prop) (te:TE) (tl th:TO):TE:=λσ H Q=>te σ H λx H1=>tl σ H1 λl H2=>th σ H2 λu H3=>r x l u H3 Q
theorem mL {r:V->Option Int->Option Int->Hp->VK->Prop} (hr:Bn X r) (he:PE X e te) (hl:PO X lo tl) (hu:PO X hi th):PE X (.Subscript e (.Slice lo hi none p2) pos) (Jm r te tl th):=by
 intro pins s σ H Q I h;refine Subscript_ (bo (he pins s σ H _ I h) λv s1 ⟨x,H1,I1,r1,q1⟩=>?_);refine wpAny_Slice (bo (hl pins s1 σ H1 _ I1 q1) λvl s2 ⟨l,H2,I2,pl,q2⟩=>bo (hu pins s2 σ H2 _ I2 q2) λvu s3 ⟨u,H3,I3,pu,q3⟩=>?_);rw[evalPart_none];refine JQ ?_;have I4:Inv X pins σ H3 {s3 with heap:=s3.heap.push {cls:= .type "slice",data:= .fields #[vl,vu,.none]}}:=I3.kept (t':=s3.toks) λb ob q=>JP _ q
 obtain⟨T,id,hT,ht,hg⟩:=hr pins {s3 with heap:=s3.heap.push {cls:= .type "slice",data:= .fields #[vl,vu,.none]}} σ H3 x v vl vu l u s3.heap.objs.size Q I4 r1 (Heap.IsSliceOf.new ..) pl pu q3;show wpAny (model X.prog X.w) X.A (subscriptTail e (.Slice lo hi none p2) v (.ref s3.heap.objs.size)) (EP X pins σ Q) X.xe {s3 with heap:=s3.heap.push {cls:= .type "slice",data:= .fields #[vl,vu,.none]}};exact tail_any (ops:=[.ref s3.heap.objs.size,v]) ht hT hg (by with_unfolding_all rfl)
noncomputable def jy (xs:List V) (lo hi:Option Int):List V:=(xs.drop (HT.bA xs.length 0 lo)).take (HT.bA xs.length xs.length hi - HT.bA xs.length 0 lo)
theorem gB (xs:List V) (lo hi:Option Int):(jy xs lo hi).length<=xs.length:=by
 unfold jy;rw[List.length_take,List.length_drop]
 lia
noncomputable def Gf (K:PySem.W.Frag):V->Option Int->Option Int->Hp->VK->Prop:=λx lo hi H Q=>∃a xs,x= .ref a/\de K H a xs/\
 ¬(HT.bA xs.length 0 lo=0/\HT.bA xs.length xs.length hi=xs.length)/\∀p,H p=none->Q (.ref p) (upd H p (.tup (jy xs lo hi)))
theorem A5:Bn X (Gf X.K):=by
 intro pins s σ H x v vl vu lo hi sl Q I rx hs pl pu h;obtain⟨a,xs,rfl,hx,hw,q⟩:=h;cases rx;obtain⟨its,r,ht,hz⟩:=I.tuple hx;have hlen:its.toArray.size=xs.length:=by rw[JS];exact r.length.symm
 refine⟨"tuple",_,PyProof.Rows.slot_tuple_getitem.lookup,ht.typeIs,?_⟩;refine HT.fD ht hs pl pu (by rw[hlen];exact hw) ?_ (by rw[hlen];exact hz);rw[hlen];refine⟨.ref s.heap.objs.size,_,I.laid (t':=s.toks) (o:= .tup (jy xs lo hi)) (λb ob q=>JP _ q) (JW _) ?_,rfl,q _ (I.hok.fresh (JW _))⟩;exact⟨J1 (gB xs lo hi) hz,_,(r.drop (HT.bA xs.length 0 lo)).take (HT.bA xs.length xs.length hi - HT.bA xs.length 0 lo),IsTup.new _ _⟩
noncomputable def C5 (K:PySem.W.Frag):R2:=λx y H Q=>∃a b xs ys,x= .ref a/\y= .ref b/\de K H a xs/\de K H b ys/\xs≠[]/\xs.length + ys.length<=sizeLine/\
 (ys=[]->Q (.ref a) H)/\(ys≠[]->∀p,H p=none->Q (.ref p) (upd H p (.tup (xs++ys))))
theorem aq.k9 {xs:List V} {us:List Value} (r:aq xs us):us=[]↔xs=[]:=by
 cases r with
 | nil=>simp
 | cons _ _=>simp
theorem w6:jo X (binaryOp .Add) (C5 X.K):=by intro pins s σ H x y v u Q I rx ry h;obtain⟨a,b,xs,ys,rfl,rfl,ha,hb,hx,hz,q1,q2⟩:=h;cases rx;cases ry;obtain⟨its,r1,p1,_⟩:=I.tuple ha;obtain⟨aB,r2,p2,_⟩:=I.tuple hb;refine HT.vT p1 p2 (λz=>hx (r1.k9.mp z)) (λz=>⟨.ref a,H,I,rfl,q1 (r2.k9.mp z)⟩) (λz=>?_) (by rw[<-r1.length,<-r2.length];exact hz);refine⟨.ref s.heap.objs.size,_,I.laid (t':=s.toks) (o:= .tup (xs++ys)) (λb ob q=>JP _ q) (JW _) ?_,rfl,q2 (λw=>z (r2.k9.mpr w)) _ (I.hok.fresh (JW _))⟩;exact⟨by rw[J7];exact hz,_,r1.append r2,IsTup.new _ _⟩
end
end L2
namespace L2
open PySem PySem.Spec PyProof.Rows
noncomputable def t7 (n:Nat) (i:Int):Option Nat:=if 0<=i then(if i < n then some i.toNat else none) else if -(n:Int)<=i then some (i + n).toNat else none
noncomputable def lM {α:Type} (xs:List α) (i:Int):Option α:=(t7 xs.length i).bind λj=>xs[j]?
theorem pV {n:Nat} {i:Int} {j:Nat} (h:t7 n i=some j):seqIndex? i n=some j/\j < n/\ -(n:Int)<=i/\i < n:=by
 unfold t7 at h;by_cases h0:0<=i
 ·rw[if_pos h0] at h;by_cases h1:i < n
  ·rw[if_pos h1] at h;have e:i.toNat=j:=Option.some.inj h;exact⟨by rw[seqIndex_of h0 h1,e],by lia,by lia,h1⟩
  ·rw[if_neg h1] at h;cases h
 ·rw[if_neg h0] at h;by_cases h1: -(n:Int)<=i
  ·rw[if_pos h1] at h;have e:(i + n).toNat=j:=Option.some.inj h;exact⟨by rw[seqIndex_neg (by lia) h1,e],by lia,h1,by lia⟩
  ·rw[if_neg h1] at h;cases h
theorem kC {α:Type} {xs:List α} {i:Int} {v:α} (h:lM xs i=some v):∃j,seqIndex? i xs.length=some j/\xs[j]?=some v/\j < xs.length/\ -(xs.length:Int)<=i/\i < xs.length:=by
 unfold lM at h;cases e:t7 xs.length i with
 | none=>rw[e] at h;cases h
 | some j=>rw[e] at h;obtain⟨h1,h2,h3,h4⟩:=pV e;exact⟨j,h1,h,h2,h3,h4⟩
theorem kD {α:Type} {xs:List α} {j:Nat} {v:α} (h:xs[j]?=some v):lM xs (j:Int)=some v:=by
 have hj:j < xs.length:=(JU.mp h).1;have e:t7 xs.length (j:Int)=some j:=by unfold t7;rw[if_pos (by lia),if_pos (by lia)];simp
 unfold lM;rw[e];exact h
noncomputable def ku (b:Expr):Prop:=∀o i,subscripted b false o i=operate [o,i] (getItem o i)
noncomputable def BG (X:Cx) (r:R2):Prop:=
 ∀(value slice:Expr) (pins:List (Addr×Obj)) (s:Shared) (σ:St) (H:Hp) (x y:V) (v u:Value) (Q:VK),Inv X pins σ H s->RelV x v->RelV y u->r x y H Q->
  subscripted slice false v u=operate [v,u] (getItem v u)->wpAny (model X.prog X.w) X.A (subscriptTail value slice v u) (EP X pins σ Q) X.xe s
noncomputable def D0 (X:Cx) (id:String) (r:V->List V->Hp->VK->Prop):Prop:=
 ∀(pins:List (Addr×Obj)) (s:Shared) (σ:St) (H:Hp) (x:V) (xs:List V) (v:Value) (us:List Value) (Q:VK),Inv X pins σ H s->RelV x v->aq xs us->r x xs H Q->
  wpAny (model X.prog X.w) X.A (call (.builtin id) (v::us)) (EP X pins σ Q) X.xe s
section
variable {X:Cx} {a b:Expr} {ta tb:TE} {pos:Pos}
theorem CZ {r:R2} (hr:BG X r) (ha:PE X a ta) (hb:PE X b tb) (hs:ku b):PE X (.Subscript a b pos) (El r ta tb):=by intro pins s σ H Q I h;exact Subscript_ (yW ha hb I h λv u s2 x y H2 I2 rx ry q=>hr a b pins s2 σ H2 x y v u Q I2 rx ry q (hs _ _))
noncomputable def F8 (K:PySem.W.Frag):R2:=λx y H Q=>∃p xs i v,x= .ref p/\y= .int i/\cY K H p xs/\lM xs i=some v/\Q v H
noncomputable def Ga (K:PySem.W.Frag):R2:=λx y H Q=>∃p xs i v,x= .ref p/\y= .int i/\de K H p xs/\lM xs i=some v/\Q v H
noncomputable def F9:R2:=λx y H Q=>∃z i c,x= .str z/\y= .int i/\z.length<=sizeLine/\lM z.cps.toList i=some c/\Q (.str ⟨#[c]⟩) H
theorem pY:BG X (F8 X.K):=by
 intro value slice pins s σ H x y v u Q I rx ry h hs;obtain⟨p,xs,i,z,rfl,rfl,hq,he,q⟩:=h;cases rx;obtain⟨t,rfl⟩:=ry;obtain⟨its,r,pl,hz⟩:=I.list hq;obtain⟨j,h1,h2,h3,h4,h5⟩:=kC he;obtain⟨w,ew,Gg⟩:=r.get h2;have hl:=r.length;have hn:=gk;have fin:EP X pins σ Q w s:=⟨z,H,I,Gg,q⟩;by_cases h0:0<=i
 ·have hj:i.toNat=j:=by rw[seqIndex_of h0 h5] at h1;exact Option.some.inj h1
  exact item_listR pl.isList h0 (by lia) (by rw[hj];simpa using ew) fin hs
 ·have hj:(i + (its.toArray.size:Int)).toNat=j:=by rw[seqIndex_neg (by lia) h4] at h1;rw[JS,<-hl];exact Option.some.inj h1
  exact subscriptTail_builtinR (x:=w) pl.isList.typeIs slot_list_getitem.lookup
   (wpAny_getItem_list_neg (Q:=λr s'=>r=w/\EP X pins σ Q r s') pl.isList (by lia) (by rw[JS] <;> lia) (by lia) (by rw[hj];simpa using ew) ⟨rfl,fin⟩) hs
theorem zW:BG X (Ga X.K):=by
 intro value slice pins s σ H x y v u Q I rx ry h hs;obtain⟨p,xs,i,z,rfl,rfl,hq,he,q⟩:=h;cases rx;obtain⟨t,rfl⟩:=ry;obtain⟨its,r,pl,hz⟩:=I.tuple hq;obtain⟨j,h1,h2,h3,h4,h5⟩:=kC he;obtain⟨w,ew,Gg⟩:=r.get h2;have hl:=r.length;have hn:=gk;have fin:EP X pins σ Q w s:=⟨z,H,I,Gg,q⟩;exact subscriptTail_builtinR (x:=w) pl.typeIs slot_tuple_getitem.lookup
  (getItem_tuple (j:=j) (Q:=λr s'=>r=w/\EP X pins σ Q r s') pl (by lia) (by lia) (by rw[JS,<-hl];exact h1) (by simpa using ew) ⟨rfl,fin⟩) hs
theorem zV:BG X F9:=by
 intro value slice pins s σ H x y v u Q I rx ry h hs;obtain⟨z,i,c,rfl,rfl,hz,he,q⟩:=h;obtain⟨t,rfl⟩:=rx;obtain⟨t',rfl⟩:=ry;obtain⟨j,h1,h2,h3,h4,h5⟩:=kC he;have hl:z.cps.toList.length=z.length:=by simp[Str.length]
 rw[hl] at h1 h4 h5;have hn:=gk;exact tail_any (typeIs_str s z t) slot_str_getitem.lookup (getItem_str (c:=c) (by
  have e1:decide (i < -(2 ^ 63:Int))=false:=Kg (by lia);have e2:decide (i>=2 ^ 63)=false:=Kg (by lia);rw[e1,e2,Bool.or_false]) (by rw[h1];simpa using h2) ⟨.str ⟨#[c]⟩,H,I.tok _,⟨_,rfl⟩,q⟩) hs
theorem oC (its:List Value) (n j:Nat) (u:Value):Obj.mapSeq (·.setIfInBounds j u) {cls:= .type "list",data:= .seq its.toArray n}={cls:= .type "list",data:= .seq (its.set j u).toArray n}:=by simp[Obj.mapSeq]
theorem Inv.lst {pins:List (Addr×Obj)} {σ:St} {H:Hp} {s:Shared} {p:Addr} {xs:List V} (I:Inv X pins σ H s) (h:H p=some (.lst xs)):
  ∃(its:List Value) (n:Nat),aq xs its/\s.heap.get? p=some {cls:= .type "list",data:= .seq its.toArray n}/\xs.length<=sizeLine:=by
 obtain⟨z,its,n,r,e⟩:=I.hok p _ h;exact⟨its,n,r,e,z⟩
theorem Inv.Ad {pins:List (Addr×Obj)} {σ:St} {H:Hp} {s:Shared} {p:Addr} {xs ys:List V} {its its':List Value} {n n':Nat} {f:Obj->Obj} (I:Inv X pins σ H s) (h:H p=some (.lst xs))
  (ho:s.heap.get? p=some {cls:= .type "list",data:= .seq its.toArray n}) (hf:f {cls:= .type "list",data:= .seq its.toArray n}={cls:= .type "list",data:= .seq its'.toArray n'}) (r:aq ys its') (hz:ys.length<=sizeLine) (t:Nat):
  Inv X pins σ (upd H p (.lst ys)) {s with heap:=s.heap.update p f,toks:=t}:=by
 have e:(s.heap.update p f).get? p=some {cls:= .type "list",data:= .seq its'.toArray n'}:=by rw[Heap.get?_update_self f ho (by rw[hf] <;> rfl),hf]
 refine I.write (x:=p) (e:=p) (by rw[h];trivial) (.inl rfl) (λb u hb q=>(Kj _ _ (Ne.symm hb)).trans q) ⟨_,e⟩ ?_;exact⟨hz,its',n',r,e⟩
noncomputable def yx:V->V->V->Hp->(Hp->Prop)->Prop:=λo i v H Q=>∃p xs k j,o= .ref p/\i= .int k/\H p=some (.lst xs)/\t7 xs.length k=some j/\Q (upd H p (.lst (xs.set j v)))
theorem set_list:yQ X yx:=by
 intro pins s σ H o i v ov iv u Q I ro ri rv h;obtain⟨p,xs,k,j,rfl,rfl,hp,hj,q⟩:=h;cases ro;obtain⟨t,rfl⟩:=ri;obtain⟨its,n,r,ho,hz⟩:=I.lst hp;obtain⟨h1,h2,h3,h4⟩:=pV hj;have hl:=r.length;have hn:=gk;have I':Inv X pins σ (upd H p (.lst (xs.set j v))) {s with heap:=s.heap.update p (Obj.mapSeq (·.setIfInBounds j u))}:=
  I.Ad hp ho (oC its n j u) (r.set rv j) (by rw[List.length_set];exact hz) s.toks
 by_cases h0:0<=k
 ·have hk:k.toNat=j:=by rw[seqIndex_of h0 h4] at h1;exact Option.some.inj h1
  exact PySem.W.ki_setAt ho h0 (by lia) (by rw[JS,<-hl];exact h4) (by rw[hk];exact⟨_,I',q⟩)
 ·have hk:(k + (its.toArray.size:Int)).toNat=j:=by rw[seqIndex_neg (by lia) h3] at h1;rw[JS,<-hl];exact Option.some.inj h1
  exact PySem.W.ki_setBack ho (by lia) (by rw[JS,<-hl];exact h3) (by lia) (by rw[hk];exact⟨_,I',q⟩)
theorem lq (lo hi:Option Int) (n:Nat):(sliceBounds lo hi none n).1=((HT.bA n 0 lo:Nat):Int)/\(sliceBounds lo hi none n).2.1=((HT.bA n n hi:Nat):Int)/\(sliceBounds lo hi none n).2.2=1:=by
 refine⟨?_,?_,rfl⟩
 ·cases lo with
  | none=>simp[sliceBounds,HT.bA]
  | some i=>
   simp only[sliceBounds,HT.bA,Option.getD_none,show (1:Int) > 0 by decide,if_true];by_cases h:i < 0
   ·simp only[h,if_true] <;> lia
   ·simp only[h,if_false] <;> lia
 ·cases hi with
  | none=>simp[sliceBounds,HT.bA]
  | some i=>
   simp only[sliceBounds,HT.bA,Option.getD_none,show (1:Int) > 0 by decide,if_true];by_cases h:i < 0
   ·simp only[h,if_true] <;> lia
   ·simp only[h,if_false] <;> lia
theorem jC (its:List Value) (lo hi:Option Int):slicePick its.toArray lo hi none=((its.drop (HT.bA its.length 0 lo)).take (HT.bA its.length its.length hi - HT.bA its.length 0 lo)).toArray:=by obtain⟨h1,h2,h3⟩:=lq lo hi its.toArray.size;unfold slicePick;rw[h1,h2,h3];simp only[sliceRange_one,pick_run,JS] <;> rfl
noncomputable def Gd (K:PySem.W.Frag):V->Option Int->Option Int->Hp->VK->Prop:=λx lo hi H Q=>∃a xs,x= .ref a/\cY K H a xs/\∀p,H p=none->Q (.ref p) (upd H p (.lst (jy xs lo hi)))
theorem qq:Bn X (Gd X.K):=by intro pins s σ H x v vl vu lo hi sl Q I rx hs pl pu h;obtain⟨a,xs,rfl,hx,q⟩:=h;cases rx;obtain⟨its,r,ht,hz⟩:=I.list hx;have hlen:=r.length;refine⟨"list",_,slot_list_getitem.lookup,ht.isList.typeIs,?_⟩;refine wpAny_getItem_list_slice ht.isList hs pl pu .none (by simp) ?_ (by rw[JS] <;> lia);rw[jC,<-hlen];refine⟨.ref s.heap.objs.size,_,I.laid (t':=s.toks) (o:= .lst (jy xs lo hi)) (λb ob q=>JP _ q) (JW _) ?_,rfl,q _ (I.hok.fresh (JW _))⟩;exact⟨J1 (gB xs lo hi) hz,_,0,(r.drop (HT.bA xs.length 0 lo)).take (HT.bA xs.length xs.length hi - HT.bA xs.length 0 lo),JY _ rfl⟩
theorem df:eE X (.type "list") (λxs H Q=>∃p ys,xs=[.ref p]/\(cY X.K H p ys\/de X.K H p ys)/\∀l,H l=none->Q (.ref l) (upd H l (.lst ys))):=by
 intro pins s σ H xs us Q I r h;obtain⟨p,ys,rfl,hq,q⟩:=h;obtain⟨u,rfl,rx⟩:=vals1 r;cases rx;have fin:∀(its:List Value),aq ys its->ys.length<=sizeLine->∀(h':Heap) (c':Nat),(∀b o',s.heap.get? b=some o'->h'.get? b=some o')->
   h'.get? s.heap.objs.size=some {cls:= .type "list",dict:=none,data:= .seq its.toArray c',slots:=#[]}->EP X pins σ Q (.ref s.heap.objs.size) {s with heap:=h'}:=λits r' hz h' c' kp e=>
  ⟨.ref s.heap.objs.size,_,I.laid (t':=s.toks) kp (JW _) (show bq X.prog X.w _ h' _ (.lst ys) from⟨hz,its,c',r',e⟩),rfl,q _ (I.hok.fresh (JW _))⟩
 rcases hq with hq | hq
 ·obtain⟨its,r',pl,hz⟩:=I.list hq;have hlen:=r'.length;obtain⟨o,ho,hc,n,hd⟩:=pl.isList;exact call_list_seq p (.inl rfl) ho hc hd (λh' c' kp e=>fin its r' hz h' c' kp e) (by simp only[JS] <;> lia)
 ·obtain⟨its,r',pl,hz⟩:=I.tuple hq;have hlen:=r'.length;obtain⟨o,ho,hc,n,hd⟩:=pl;exact call_list_seq p (.inr rfl) ho hc hd (λh' c' kp e=>fin its r' hz h' c' kp e) (by simp only[JS] <;> lia)
theorem eG:eE X (.type "tuple") (λxs H Q=>∃p ys,xs=[.ref p]/\((cY X.K H p ys/\∀l,H l=none->Q (.ref l) (upd H l (.tup ys)))\/(de X.K H p ys/\Q (.ref p) H))):=by
 intro pins s σ H xs us Q I r h;obtain⟨p,ys,rfl,h⟩:=h;obtain⟨u,rfl,rx⟩:=vals1 r;cases rx;rcases h with ⟨hq,q⟩ | ⟨hq,q⟩
 ·obtain⟨its,r',pl,hz⟩:=I.list hq;have hlen:=r'.length;refine call_tuple_list pl.isList (λh' kp=>?_) (by simp only[JS] <;> lia);have I1:Inv X pins σ H {s with heap:=h'}:=I.kept (t':=s.toks) kp;have I2:Inv X pins σ (upd H h'.objs.size (.tup ys)) {s with heap:=h'.push {cls:= .type "tuple",data:= .seq its.toArray}}:=
   I1.laid (t':=s.toks) (λb o e=>JP _ e) (JW _) (show bq X.prog X.w _ _ _ (.tup ys) from⟨hz,its,r',IsTup.new _ _⟩)
  exact⟨.ref h'.objs.size,_,I2,rfl,q _ (I1.hok.fresh (JW _))⟩
 ·obtain⟨its,r',pl,hz⟩:=I.tuple hq;exact call_tuple_same pl ⟨.ref p,H,I,rfl,q⟩
noncomputable def GF (K:PySem.W.Frag) (T:String) (x:V) (H:Hp):Prop:=match x with
 | .str _=>T="str"
 | .int _=>T="int"
 | .ref p=>(T="list"/\∃xs,cY K H p xs)\/(T="tuple"/\∃o,K.lookup p=some o/\o.cls= .type "tuple"/\o.dict=none)\/
   (T="dict"/\((∃dz,H p=some (.dK dz))\/∃dz,H p=some (.dT dz)))\/(T="set"/\∃S n,H p=some (.set S n))
 | _=>False
theorem u5 {pins:List (Addr×Obj)} {σ:St} {H:Hp} {s:Shared} {T:String} {x:V} {v:Value} (I:Inv X pins σ H s) (r:RelV x v) (ty:GF X.K T x H):
  s.TypeIs v T/\∀a,v= .ref a->∃ob,s.heap.get? a=some ob/\ob.dict=none:=by
 cases x with
 | str z=>obtain⟨t,rfl⟩:=r;cases (show T="str" from ty);exact⟨typeIs_str s z t,λ_ e=>nomatch e⟩
 | int i=>obtain⟨t,rfl⟩:=r;cases (show T="int" from ty);exact⟨typeIs_int s i t,λ_ e=>nomatch e⟩
 | ref p=>
  cases r;rcases ty with ⟨rfl,xs,hq⟩ | ⟨rfl,o,hk,hc,hd⟩ | ⟨rfl,hk⟩ | ⟨rfl,S,n,hk⟩
  ·obtain⟨its,_,pl,_⟩:=I.list hq;refine⟨pl.isList.typeIs,λa e=>?_⟩;cases e;obtain⟨o,n,e,c,hd,_⟩:=pl;exact⟨o,e,hd⟩
  ·refine⟨⟨o,I.mv p o hk,hc⟩,λa e=>?_⟩;cases e;exact⟨o,I.mv _ o hk,hd⟩
  ·have z:∃o,s.heap.get? p=some o/\o.ExactDict:=by
    rcases hk with ⟨dz,hk⟩ | ⟨dz,hk⟩
    ·obtain⟨_,_,_,_,o,_,_,e,ex,_⟩:=I.hok p _ hk;exact⟨o,e,ex⟩
    ·obtain⟨_,_,_,_,o,_,_,e,ex,_⟩:=I.hok p _ hk;exact⟨o,e,ex⟩
   obtain⟨o,e,ex⟩:=z;refine⟨⟨o,e,ex.1⟩,λa e2=>?_⟩;cases e2;exact⟨o,e,ex.2.1⟩
  ·obtain⟨o,_,_,_,e,ex,_⟩:=I.hok p _ hk;refine⟨⟨o,e,ex.1⟩,λa e2=>?_⟩;cases e2;exact⟨o,e,ex.2.1⟩
 | _=>exact False.elim ty
noncomputable def Dx (K:PySem.W.Frag) (T:String) (r:V->List V->Hp->VK->Prop) (to:TE):TE:=λσ H Q=>to σ H λx H1=>GF K T x H1/\r x [] H1 Q
noncomputable def Gu (K:PySem.W.Frag) (T:String) (r:V->List V->Hp->VK->Prop) (to:TE) (t:TA):TE:=λσ H Q=>to σ H λx H1=>GF K T x H1/\t σ H1 λxs H2=>r x xs H2 Q
variable {o e:Expr} {es:List Expr} {to:TE} {t:TA} {name:Str} {apos bY:Pos} {T id:String} {r:V->List V->Hp->VK->Prop}
theorem Aq (pa:PlainAttrs T) (slot:Slot T name id) (Cq:typeOf (.builtin id)=pure (.type "method_descriptor")) (hm:D0 X id r) (ho:PE X o to)
  (l8:attributeBase o name X.env (eval o X.env)=eval o X.env:=by rfl) (fE:(apos.endLine==bY.line)=true:=by rfl):PE X (.Call (.Attribute o name apos) [] [] bY) (Dx X.K T r to):=by
 intro pins s σ H Q I h;refine wpAny_Call_method0_late l8 fE (bo (ho pins s σ H _ I h) λv s1 ⟨x,H1,I1,r1,ty,q1⟩=>?_);obtain⟨h1,h2⟩:=u5 I1 r1 ty;exact⟨T,id,pa,slot,Cq,h1,h2,Calls.callWith_builtin rfl (PySem.evalArgs_none (hm pins s1 σ H1 x [] v [] Q I1 r1 .nil q1))⟩
theorem yq (pa:PlainAttrs T) (slot:Slot T name id) (Cq:typeOf (.builtin id)=pure (.type "method_descriptor")) (hm:D0 X id r) (ho:PE X o to) (ha:PA X (e::es) t)
  (l8:attributeBase o name X.env (eval o X.env)=eval o X.env:=by rfl)
  (zE:((backTo bY (starEach (e::es) X.env)).all (λx=> !x.1)&&(backToKw bY (keywordEach [] X.env)).all (λx=>x.1.isSome)
   &&decide ((e::es).length + ([]:List Keyword).length + (if ([]:List Keyword).isEmpty then 0 else 1) < 30))=true:=by rfl)
  (fE:(apos.endLine==bY.line)=true:=by rfl) (hs:starEach (e::es) X.env=(false,eval e X.env)::starEach es X.env:=by rfl) (oo:(backTo bY (starEach es X.env)).any (·.1)=false:=by rfl):
  PE X (.Call (.Attribute o name apos) (e::es) [] bY) (Gu X.K T r to t):=by
 intro pins s σ H Q I h;refine wpAny_Call_method_late l8 zE fE rfl (bo (ho pins s σ H _ I h) λv s1 ⟨x,H1,I1,r1,ty,q1⟩=>?_);obtain⟨h1,h2⟩:=u5 I1 r1 ty;refine⟨T,id,pa,slot,Cq,h1,h2,?_⟩;have hA:=ha bY pins s1 σ H1 _ I1 q1;rw[hs] at hA ⊢;refine Calls.callWith_builtin (by show (false||(backTo bY (starEach es X.env)).any (·.1))=false;rw[oo] <;> rfl) (Calls.evalArgs_plain ?_);exact bo hA λus s2 ⟨vs,H2,I2,r2,q2⟩=>hm pins s2 σ H2 x vs v us Q I2 r1 r2 q2
end
end L2
namespace L2
open PySem PySem.Spec PyProof.Rows
noncomputable def DZ (X:Cx) (id:String) (r:V->List V->Hp->VK->Prop):Prop:=
 ∀(pins:List (Addr×Obj)) (s:Shared) (σ:St) (H:Hp) (x:V) (xs:List V) (v:Value) (us:List Value) (Q:VK),Inv X pins σ H s->RelV x v->aq xs us->r x xs H Q->
  wpAny (model X.prog X.w) X.A (call (.builtin id) (v::us)) (EP X pins σ Q) X.xe s
theorem aq.cons_inv {x:V} {xs:List V} {us:List Value} (h:aq (x::xs) us):∃u ut,us=u::ut/\RelV x u/\aq xs ut:=by
 cases h with
 | cons r t=>exact⟨_,_,rfl,r,t⟩
theorem aq.one {x:V} {us:List Value} (h:aq [x] us):∃u,us=[u]/\RelV x u:=
 have ⟨u,ut,e,r,t⟩:=h.cons_inv
 ⟨u,by cases t;exact e,r⟩
theorem aq.two {x y:V} {us:List Value} (h:aq [x,y] us):∃u v,us=[u,v]/\RelV x u/\RelV y v:=
 have ⟨u,ut,e,r,t⟩:=h.cons_inv;have ⟨v,e2,q⟩:=t.one
 ⟨u,v,e2▸e,r,q⟩
theorem aq.zero:∀{us:List Value},aq [] us->us=[]
 | _,.nil=>rfl
theorem aq.dropLast {xs:List V} {us:List Value} (h:aq xs us):aq xs.dropLast us.dropLast:=by
 induction h with
 | nil=>exact .nil
 | cons r t ih=>
  cases t with
  | nil=>exact .nil
  | cons q t'=>exact .cons r ih
theorem aq.reverse {xs:List V} {us:List Value} (h:aq xs us):aq xs.reverse us.reverse:=by
 induction h with
 | nil=>exact .nil
 | cons r t ih=>rw[List.reverse_cons,List.reverse_cons];exact aq.append ih (.cons r .nil)
theorem nW {α:Type} (l:List α):l.eraseIdx (l.length - 1)=l.dropLast:=by
 induction l with
 | nil=>rfl
 | cons a r ih=>
  cases r with
  | nil=>rfl
  | cons b r=>
   have e:(a::b::r).length - 1=((b::r).length - 1) + 1:=by
    have h1:(a::b::r).length=r.length + 2:=rfl;have h2:(b::r).length=r.length + 1:=rfl
    lia
   rw[e,List.eraseIdx_cons_succ,ih]
   all_goals rfl
section
variable {X:Cx} {pins:List (Addr×Obj)} {σ:St} {H:Hp} {s:Shared} {l b:Addr} {xs ys zs:List V}
theorem Inv.wM {its its':List Value} {n:Nat} {f:Array Value->Array Value} {t':Nat} (I:Inv X pins σ H s) (hH:H l=some (.lst xs))
  (e:s.heap.get? l=some {cls:= .type "list",data:= .seq its.toArray n}) (hf:f its.toArray=its'.toArray) (hv:aq ys its') (hz:ys.length<=sizeLine):
  Inv X pins σ (upd H l (.lst ys)) {s with heap:=s.heap.update l (Obj.mapSeq f),toks:=t'}:=by
 have q:=PySem.IsL.update e f;rw[hf] at q;refine I.write (x:=l) (e:=l) (by rw[hH];exact trivial) (.inl rfl) (λb' u hb hu=>(Kj s.heap (Obj.mapSeq f) (Ne.symm hb)).trans hu) ⟨_,q⟩ ?_;exact⟨hz,its',_,hv,q⟩
theorem Inv.CH {its:List Value} {t':Nat} (I:Inv X pins σ H s) (hv:aq ys its) (hz:ys.length<=sizeLine):
  Inv X pins σ (upd H s.heap.objs.size (.lst ys)) {s with heap:=s.heap.push {cls:= .type "list",data:= .seq its.toArray},toks:=t'}:=
 I.laid (λ_ _ q=>JP _ q) (JW _) ⟨hz,its,0,hv,JY _ rfl⟩
theorem Inv.fresh (I:Inv X pins σ H s):H s.heap.objs.size=none:=I.hok.fresh (JW _)
theorem Inv.oB (I:Inv X pins σ H s) (hH:H l=some (.lst xs)):xs.length<=sizeLine/\∃(its:List Value) (n:Nat),aq xs its/\xs.length=its.length/\s.heap.get? l=some {cls:= .type "list",data:= .seq its.toArray n}:=by obtain⟨z,its,n,r,e⟩:=I.hok l _ hH;exact⟨z,its,n,r,r.length,e⟩
theorem uh {n:Nat} (h:n<=sizeLine):Builtin.List.listTooLong n=false:=by unfold Builtin.List.listTooLong;exact Kg (by lia)
end
section
variable {X:Cx}
noncomputable def ql:V->List V->Hp->VK->Prop:=λx vs H Q=>∃l xs y,x= .ref l/\vs=[y]/\H l=some (.lst xs)/\xs.length < sizeLine/\Q .ba (upd H l (.lst (xs++[y])))
theorem j6:DZ X "list.append" ql:=by
 intro pins s σ H x vs v us Q I rx rv h;obtain⟨l,xs,y,rfl,rfl,hH,hz,q⟩:=h;cases rx;obtain⟨u,rfl,ru⟩:=rv.one;obtain⟨z,its,n,r,hl,e⟩:=I.oB hH;refine call_meets F.slot_list_append ⟨_,e,rfl⟩ F.entry_list_append (F.args_list_append_2 _ _) (PySem.list_append l its.toArray n u (by rw[JS];lia)) ⟨e,?_⟩;refine⟨.ba,_,I.wM (its':=its++[u]) hH e (by simp) (r.append (.cons ru .nil)) ?_,rfl,q⟩;rw[J7,List.length_singleton]
 lia
noncomputable def qm:V->List V->Hp->VK->Prop:=λx vs H Q=>∃l b xs zs,x= .ref l/\vs=[.ref b]/\H l=some (.lst xs)/\H b=some (.lst zs)/\xs.length + zs.length<=sizeLine/\Q .ba (upd H l (.lst (xs++zs)))
theorem rl:DZ X "list.extend" qm:=by
 intro pins s σ H x vs v us Q I rx rv h;obtain⟨l,b,xs,zs,rfl,rfl,hH,hB,hz,q⟩:=h;cases rx;obtain⟨u,rfl,ru⟩:=rv.one;cases ru;obtain⟨z,its,n,r,hl,e⟩:=I.oB hH;obtain⟨z2,aB,n2,r2,eZ,e2⟩:=I.oB hB;have jW:its.toArray.size + aB.toArray.size<=sizeLine:=by rw[JS,JS];lia
 have Cj:¬(!its.toArray.isEmpty&&Builtin.List.listTooLong (its.toArray.size + aB.toArray.size))=true:=by rw[uh jW,Bool.and_false];exact Bool.false_ne_true
 refine call_meets F.slot_list_extend ⟨_,e,rfl⟩ F.entry_list_extend (F.args_list_extend_2 _ _)
  (AutoSeq1.list_extend_list_list_0 l its.toArray n b aB.toArray n2 Cj (by rw[JS];lia) (by lia)) ⟨e,e2,?_⟩
 refine⟨.ba,_,I.wM (its':=its++aB) hH e (by simp) (r.append r2) ?_,rfl,q⟩;rw[J7]
 lia
noncomputable def Gb:V->List V->Hp->VK->Prop:=λx vs H Q=>∃l xs y,x= .ref l/\vs=[]/\H l=some (.lst xs)/\xs[xs.length - 1]?=some y/\Q y (upd H l (.lst xs.dropLast))
theorem FU:DZ X "list.pop" Gb:=by
 intro pins s σ H x vs v us Q I rx rv h;obtain⟨l,xs,y,rfl,rfl,hH,hy,q⟩:=h;cases rx;have FI:=rv.zero;subst FI;obtain⟨z,its,n,r,hl,e⟩:=I.oB hH;obtain⟨u,hu,ru⟩:=r.get hy;have Cv:its.toArray[its.toArray.size - 1]?=some u:=by show its.toArray[its.length - 1]?=some u;rw[<-Array.getElem?_toList,<-hl];exact hu
 refine call_meets F.slot_list_pop ⟨_,e,rfl⟩ F.entry_list_pop (F.args_list_pop_1 _) (MeetsSeq.list_pop_last l its.toArray n u Cv (by rw[JS];lia)) ⟨e,?_⟩;refine⟨y,_,I.wM (its':=its.dropLast) hH e ?_ r.dropLast ?_,ru,q⟩
 ·show its.toArray.eraseIdxIfInBounds (its.toArray.size - 1)=its.dropLast.toArray;rw[JS,List.eraseIdxIfInBounds_toArray,nW]
 ·rw[List.length_dropLast]
  lia
noncomputable def uI:V->List V->Hp->VK->Prop:=λx vs H Q=>∃l xs,x= .ref l/\vs=[]/\H l=some (.lst xs)/\Q .ba (upd H l (.lst []))
theorem uf:DZ X "list.clear" uI:=by intro pins s σ H x vs v us Q I rx rv h;obtain⟨l,xs,rfl,rfl,hH,q⟩:=h;cases rx;have FI:=rv.zero;subst FI;obtain⟨z,its,n,r,hl,e⟩:=I.oB hH;refine call_meets F.slot_list_clear ⟨_,e,rfl⟩ F.entry_list_clear (F.args_list_clear_1 _) (AutoSeq1.list_clear_list_0 l its.toArray n (by rw[JS];lia)) ⟨e,?_⟩;exact⟨.ba,_,I.wM (its':=[]) (ys:=[]) hH e rfl .nil (Nat.zero_le _),rfl,q⟩
noncomputable def F4:R2:=λx y H Q=>∃l b xs zs,x= .ref l/\y= .ref b/\H l=some (.lst xs)/\H b=some (.lst zs)/\xs.length + zs.length<=sizeLine/\∀p,H p=none->Q (.ref p) (upd H p (.lst (xs++zs)))
theorem d4:jo X (binaryOp .Add) F4:=by
 intro pins s σ H x y v u Q I rx ry h;obtain⟨l,b,xs,zs,rfl,rfl,hH,hB,hz,q⟩:=h;cases rx;cases ry;obtain⟨z,its,n,r,hl,e⟩:=I.oB hH;obtain⟨z2,aB,n2,r2,eZ,e2⟩:=I.oB hB;refine PySem.P.add_list e e2 ?_ (by rw[JS,JS];lia);have ea:its.toArray++aB.toArray=(its++aB).toArray:=by simp
 rw[ea];exact⟨.ref _,_,I.CH (t':=s.toks) (r.append r2) (by rw[J7];lia),rfl,q _ I.fresh⟩
end
end L2
namespace Att
open PySem PySem.W PySem.Calls PyProof.Rows
theorem gP {P:Params} {h:Heap}:∀(ns:List Int) (vs:List Value),WellAll P h vs (ns.map WData.int)->IntsAre vs ns:=by
 intro ns
 induction ns with
 | nil=>intro vs w;rw[List.map_nil] at w;cases w;exact .nil
 | cons n ns ih=>
  intro vs w;rw[Ky] at w;cases w with
  | cons a b=>cases a;exact .cons _ _ (ih _ b)
theorem rG {l:OpenLaw} {n:Nat} (hn:l.most=some n) {P:Params} {h:Heap} {args:List WData} {vals:List Value}
  (wy:l.row.toRowW.claim.pre args=true) (Ed:WellAll P h vals args):
  ∃a vs ns,vals=[Value.ref a]/\args=[WData.list (ns.map WData.int)]/\h.get? a=some {cls:= .type "list",data:= .seq vs.toArray}/\IntsAre vs ns/\ns.length<=n:=by
 have IL:WShape.hasAll [] args [.list .int]=true:=(pre_splitW wy).1;have hc:l.pre.holds [] {args:=args}=true:=(pre_splitW wy).2;obtain⟨d,r,rfl,h1,h2⟩:=hasAllW_cons IL;obtain rfl:=hasAllW_nil h2;obtain⟨xs,rfl,h3⟩:=hasW_list h1;obtain⟨ns,rfl⟩:=items_int h3;have hlen:ns.length<=n:=by
  unfold OpenLaw.pre at hc;have h4:(WTm.not (.lt (.lit (.int (n:Int))) (.len (.arg 0)))).holds [] {args:=[.list (ns.map .int)]}=true:=by have h4:=(holds_andW hc).1;rw[hn] at h4;exact h4
  have h5:=condW_of h4 (w_not (w_lt w_lit (w_len_list (w_arg rfl))));rw[JZ] at h5;refine Nat.le_of_not_lt λq=>?_
  have q':(n:Int) < ((ns.length:Nat):Int):=by lia
  first
   | (rw[Kk q'] at h5;exact absurd h5 (by decide))
   | (simp at h5;lia)
 cases Ed with
 | cons w1 w2=>
  cases w2;cases w1 with
  | list ho hall=>exact⟨_,_,ns,rfl,rfl,ho,gP ns _ hall,hlen⟩
theorem rB (l:OpenLaw) (args:List WData):l.row.toRowW.claim.post args (.bool true) args=true:=
 postW_of (r:=l.row.toRowW) (X:=(true==true))
  (show WShape.has [] (.bool true) .bool=true by first | rfl | decide | simp[WShape.has,WShape.arms,WShape.armsAll])
  (show (WTm.eq .res (.lit (.bool true))).value [] {args:=args,res:=some (.bool true),after:=args}=some (.bool (true==true)) from w_eq_bool (w_res rfl) w_lit) rfl
theorem lN {l:OpenLaw} {n:Nat} {q:Program} {loose:List Str} {XP:(Str->Option Value)->Heap->Prop} {YP:World->Heap->Prop} {d:DefRec}
  (hn:l.most=some n) (Cd:d.params.defaults=[])
  (call:∀(w:World) (s₀ s₁:Shared) (mg mb:Str->Option Value) (fa:Addr) (o:Obj) (pm cd doc:Value) (a:Addr) (vs:List Value) (ns:List Int),
   Ground q loose [] XP w s₀ mg mb s₁.heap->YP w s₁.heap->
   s₁.heap.get? fa=some o->o.data= .func (docDef d.name d.params d.body d.scope pm cd doc)->s₁.heap.CodeRec cd d.name->mg d.name=some (.ref fa)->
   s₁.heap.get? a=some {cls:= .type "list",data:= .seq vs.toArray}->IntsAre vs ns->ns.length<=n->s₁.gens=#[]->
   codeAny (model l.prog w) callerA (.call (.ref fa) ⟨[.ref a],[]⟩) (λr s'=>r= .ok (.ret (.bool true))/\OldK s₁.heap s'.heap/\s'.os=s₁.os/\AllBare s'.gens) s₁):
  WalkO q loose XP YP l.row.toRowW d [] (λf vs=>PySem.call f vs):=by
 intro w s₀ s₁ mg mb G Y fa o pm cd doc dV kV ho hd vz hD hmg hg args vals as wy hlay hrd Ed hlo;obtain rfl:dV= .none:=Dflts.none hD Cd;obtain rfl:kV= .none:=Dflts.noKw hD;obtain⟨a,vs,ns,rfl,rfl,zJ,hints,hlen⟩:=rG hn wy Ed;refine enter_call (codeAny_mono (call w s₀ s₁ mg mb fa o pm cd doc a vs ns G Y ho (fd_plain hd) vz hmg zJ hints hlen hg) λr s' hq=>?_);obtain⟨rfl,h2,h3,h4⟩:=hq;exact⟨.inl ⟨.bool true,.bool true,[],rfl,λ_=>rfl,.bool true,rB l _,λ_=>⟨List.Pairwise.nil,λ_ hm=>(nomatch hm)⟩⟩,h2,h3,h4⟩
end Att
namespace L2
open PySem PySem.Spec PyProof.Rows
theorem km:∀{vs:List Value} {ns:List Int},IntsAre vs ns->aq (ns.map V.int) vs
 | _,_,.nil=> .nil
 | _,_,.cons n t h=> .cons ⟨t,rfl⟩ (km h)
noncomputable def yP (H:Hp):Prop:=∀b,H b=none\/∃o xs,H b=some (.pK o (.lst xs))
theorem ua {P:Program} {w:World} {K:PySem.W.Frag} {mg mb:Str->Option Value} {CX:iw} {k:Nat} {fa a:Addr} {fd:FuncData} {x:Str} {sp:Sp} {s₁:Shared} {vs:List Value} {ns:List Int}
  (KX:K.In s₁.heap) (yi:s₁.heap.Ns mainGlobals mg) (hb:s₁.heap.Ns builtinsNs mb) (Io:∀x:Str,x≠"__name__"->mb x=bootBuiltins x) (eQ:s₁.heap.NoLimit) (hg:s₁.gens=#[])
  (ha:s₁.heap.get? a=some {cls:= .type "list",data:= .seq vs.toArray}) (hi:IntsAre vs ns) (hl:ns.length<=sizeLine) (hr:fh k callerA)
  (F:∀base:Heap,K.In base->base.Ns mainGlobals mg->f7 P w K mg base CX k fa fd [x] sp) (B9:∀(s:Shared) (u:Value),BindsTo s fd ⟨[u],[]⟩ [(x,u)])
  (Bu:∀H:Hp,yP H->cY K H a (ns.map V.int)->sp [.ref a] H (λv _=>v= .bl true) λ_ _ _=>False)
  (Fi:∀H e s',CX [] H s₁ (λ_ _ _=>False) e s'->False):
  codeAny (model P w) callerA (.call (.ref fa) ⟨[.ref a],[]⟩) (λr s'=>r= .ok (.ret (.bool true))/\OldK s₁.heap s'.heap/\s'.os=s₁.os/\AllBare s'.gens) s₁:=by
 have rv:=km hi;have FP:=hi.length;have core:∀H:Hp,yP H->cY K H a (ns.map V.int)->cG P w H s₁.heap->(∀b,H b≠none->b=a)->(H a≠none->K.lookup a=none)->
   codeAny (model P w) callerA (.call (.ref fa) ⟨[.ref a],[]⟩) (λr s'=>r= .ok (.ret (.bool true))/\OldK s₁.heap s'.heap/\s'.os=s₁.os/\AllBare s'.gens) s₁:=by
  intro H hO hS hok hA hK;have pv:∀{b:Addr} {o:Obj},s₁.heap.get? b=some o->H b=none->(kU s₁.heap H).get? b=some o:=λe n=>tQ e n
  have CN:∀{b:Addr} {o:Obj} {es:Array DictEntry} {ep:Nat},s₁.heap.get? b=some o->o.data= .dict es ep->H b=none:=λ {b o es ep} e d=>by
   cases q:H b with
   | none=>rfl
   | some u=>have e':b=a:=hA b (by rw[q];simp);subst e';rw[ha] at e;cases e;have d':Data.seq vs.toArray _=Data.dict es ep:=d;cases d'
  have Eg:∀{b:Addr} {m:Str->Option Value},s₁.heap.Ns b m->(kU s₁.heap H).Ns b m:=λ {b m} ⟨o,es,ep,e,d,r⟩=>⟨o,es,ep,pv e (CN e d),d,r⟩
  have GY:K.In (kU s₁.heap H):=λb o e=>pv (KX b o e) (by
   cases q:H b with
   | none=>rfl
   | some u=>
    have e':b=a:=hA b (by rw[q];simp);subst e';rw[hK (by rw[q];simp)] at e;cases e)
  have hM:Mod K mg (kU s₁.heap H):=⟨GY,Eg yi,⟨mb,Eg hb,Io⟩,let ⟨mc,h1,h2⟩:=eQ;⟨mc,Eg h1,h2⟩⟩;have e0:vI P w K mg (kU s₁.heap H) callerA [] s₁ H:=⟨rfl,hM,λb o e=>wZ e,Nat.le_of_eq (qY _ _),trivial,λb hb=>absurd (show b∈([]:List Addr) from hb) (by simp),hok,.of_eq hg⟩;refine codeAny_mono ((F _ GY (Eg yi)).run callerA [] s₁ H ⟨[.ref a],[]⟩ [.ref a] [.ref a] _ _ hr e0 (B9 s₁ (.ref a)) (.cons rfl .nil) (Bu H hO hS)) λr s' h=>?_
  cases r with
  | error e=>exact(Fi H e s' h).elim
  | ok fl=>
   cases fl with
   | next=>exact False.elim h
   | brk=>exact False.elim h
   | cont=>exact False.elim h
   | ret u=>
    obtain⟨v,H',os,bare,un,wx,r',q⟩:=h;have q':v= .bl true:=q;subst q';obtain rfl:u=Value.bool true:=r';refine⟨rfl,OldK.of_keep λb o e=>?_,os,bare⟩;cases q:H b with
    | none=>exact un.keep b o e q (by intro z;exact absurd (show b∈([]:List Addr) from z) (by simp)) (by simp)
    | some u=>
     rcases hO b with z | ⟨ob,xs,z⟩
     ·rw[q] at z;cases z
     ·have z2:=un.frzs b ob _ z;obtain⟨e1,_⟩:=hok b _ z;obtain⟨e2,_⟩:=wx b _ z2;rw[e] at e1;cases e1;exact e2
 cases hk:K.lookup a with
 | some o=>have e:=KX a o hk;rw[ha] at e;cases e;refine core (λ_=>none) (λ_=> .inl rfl) (.inr ⟨_,vs.toArray,_,hk,rfl,rfl,rfl,by rw[JS,FP];exact hl,by simpa using rv⟩) (λb u z=>by have z':(none:Option HO)=some u:=z;cases z') (λb z=>absurd rfl z) λz=>absurd rfl z
 | none=>
  refine core (λb=>if b=a then some (.pK {cls:= .type "list",data:= .seq vs.toArray} (.lst (ns.map V.int))) else none) (λb=>?_) (.inl (.inr ⟨{cls:= .type "list",data:= .seq vs.toArray},if_pos rfl⟩)) (λb u z=>?_) (λb z=>?_) λ_=>hk
  ·by_cases hb:b=a
   ·exact .inr ⟨_,_,if_pos hb⟩
   ·exact .inl (if_neg hb)
  ·by_cases hb:b=a
   ·have z':=(if_pos hb).symm.trans z;cases z';subst hb;exact⟨ha,by rw[JZ];exact hl,vs,_,rv,ha⟩
   ·have z':=(if_neg hb).symm.trans z;cases z'
  ·by_cases hb:b=a
   ·exact hb
   ·exact absurd (if_neg hb) z
end L2
namespace L2
open PySem PySem.Spec PyProof.Rows
theorem xR {l:PySem.W.OpenLaw} {n k:Nat} {q:Program} {loose:List Str} {XP:(Str->Option Value)->Heap->Prop} {YP:World->Heap->Prop} {d:DefRec} {K:Params->PySem.W.Frag} {CX:World->iw} {sp:World->Sp} {x:Str}
  (hn:l.most=some n) (zI:n<=sizeLine) (Cd:d.params.defaults=[]) (hr:fh k callerA)
  (hY:∀(w:World) (h:Heap),YP w h->(K w.params).In h)
  (F:∀(w:World) (mg:Str->Option Value) (fa:Addr) (h:Heap),(K w.params).In h->h.Ns mainGlobals mg->mg d.name=some (.ref fa)->
   ∃fd:FuncData,(∀(s:Shared) (u:Value),BindsTo s fd ⟨[u],[]⟩ [(x,u)])/\
    ∀base:Heap,(K w.params).In base->base.Ns mainGlobals mg->f7 l.prog w (K w.params) mg base (CX w) k fa fd [x] (sp w))
  (Bu:∀(w:World) (H:Hp) (a:Addr) (ns:List Int),ns.length<=n->yP H->cY (K w.params) H a (ns.map V.int)->sp w [.ref a] H (λv _=>v= .bl true) λ_ _ _=>False)
  (Fi:∀(w:World) (H:Hp) (s:Shared) (e:Value) (s':Shared),CX w [] H s (λ_ _ _=>False) e s'->False):
  PySem.W.WalkO q loose XP YP l.row.toRowW d [] (λf vs=>PySem.call f vs):=by
 refine Att.lN hn Cd λw s₀ s₁ mg mb fa o pm cd doc a vs ns G Y ho hd vz hmg zJ hints hlen hg=>?_
 have KX:=hY w _ Y;obtain⟨fd,hb,hF⟩:=F w mg fa _ KX G.T.g hmg;exact ua KX G.T.g G.T.b G.T.builtins G.T.nolimit hg zJ hints (J1 hlen zI) hr hF hb (λH hO hS=>Bu w H a ns hlen hO hS) λH e s'=>Fi w H s₁ e s'
end L2
namespace L2
open PySem PySem.Spec PyProof.Rows
noncomputable def kK (s:Stmt):Arguments:=match s with
 | .FunctionDef _ a _ _ _ _ _ _ _ _=>a
 | _=>{posonlyargs:=[],args:=[],vararg:=none,kwonlyargs:=[],kw_defaults:=[],kwarg:=none,defaults:=[]}
noncomputable def fv (s:Stmt):List Stmt:=match s with
 | .FunctionDef _ _ b _ _ _ _ _ _ _=>b
 | _=>[]
noncomputable def bc (s:Stmt):Scope:=match s with
 | .FunctionDef _ _ _ _ _ _ sc _ _ _=>sc
 | _=>{kind:= .function,names:=[],isGenerator:=false,isCoroutine:=false}
theorem CB {A B:Prop} (h:B):if false=true then A else B:=by rw[if_neg Bool.false_ne_true];exact h
theorem CC {A B:Prop} (h:A):if true=true then A else B:=by rw[if_pos rfl];exact h
noncomputable def a8 (H H':Hp):Prop:=∀b o,H b=some o->H' b=some o
theorem a8.refl (H:Hp):a8 H H:=λ_ _ h=>h
theorem a8.trans {H H1 H2:Hp} (a:a8 H H1) (b:a8 H1 H2):a8 H H2:=λc o h=>b c o (a c o h)
end L2
end
section
namespace Mx
open PySem PyProof.Rows
inductive D where
 | int (i:Int)
 | str (x:Str)
 | tup (ds:List D)
mutual
noncomputable def D.eJ:D->D->Bool
 | .int i,.int j=>i==j
 | .str x,.str y=>x==y
 | .tup a,.tup b=>D.eqs a b
 | _,_=>false
noncomputable def D.eqs:List D->List D->Bool
 | [],[]=>true
 | x::xs,y::ys=>D.eJ x y&&D.eqs xs ys
 | _,_=>false
end
mutual
noncomputable def D.lt:D->D->Bool
 | .int i,.int j=>decide (i < j)
 | .int _,_=>true
 | .str _,.int _=>false
 | .str x,.str y=>decide (x.cps.toList < y.cps.toList)
 | .str _,.tup _=>true
 | .tup a,.tup b=>D.dP a b
 | .tup _,_=>false
noncomputable def D.dP:List D->List D->Bool
 | [],[]=>false
 | [],_::_=>true
 | _::_,[]=>false
 | x::xs,y::ys=>if D.eJ x y=true then D.dP xs ys else D.lt x y
end
mutual
theorem D.bQ:∀a b:D,D.eJ a b=true↔a=b
 | .int i,.int j=>by simp[D.eJ]
 | .str x,.str y=>by simp[D.eJ]
 | .tup a,.tup b=>by simp only[D.eJ,D.tup.injEq];exact D.pH a b
 | .int _,.str _=>by simp[D.eJ]
 | .int _,.tup _=>by simp[D.eJ]
 | .str _,.int _=>by simp[D.eJ]
 | .str _,.tup _=>by simp[D.eJ]
 | .tup _,.int _=>by simp[D.eJ]
 | .tup _,.str _=>by simp[D.eJ]
theorem D.pH:∀a b:List D,D.eqs a b=true↔a=b
 | [],[]=>by simp[D.eqs]
 | [],_::_=>by simp[D.eqs]
 | _::_,[]=>by simp[D.eqs]
 | x::xs,y::ys=>by simp only[D.eqs,JR,List.cons.injEq];rw[D.bQ x y,D.pH xs ys]
end
noncomputable instance:DecidableEq D:=λa b=>if h:D.eJ a b=true then isTrue ((D.bQ a b).mp h) else isFalse λe=>h ((D.bQ a b).mpr e)
theorem D.fy (a b:D):D.eJ a b=decide (a=b):=by rw[Bool.eq_iff_iff,D.bQ];simp
theorem D.c7 (x y:D) (xs ys:List D):D.dP (x::xs) (y::ys)=if x=y then D.dP xs ys else D.lt x y:=by
 rw[D.dP];by_cases h:x=y
 ·rw[if_pos h,if_pos ((D.bQ x y).mpr h)]
 ·rw[if_neg h,if_neg λe=>h ((D.bQ x y).mp e)]
mutual
theorem D.lt_irrefl:∀a:D,D.lt a a=false
 | .int i=>by simp[D.lt]
 | .str x=>by simp only[D.lt];exact strKind.irrefl _
 | .tup a=>by simp only[D.lt];exact D.iX a
theorem D.iX:∀a:List D,D.dP a a=false
 | []=>by simp[D.dP]
 | x::xs=>by rw[D.c7,if_pos rfl];exact D.iX xs
end
mutual
theorem D.fL:∀a b:D,D.lt a b=false->D.lt b a=false->a=b
 | .int i,.int j,h1,h2=>by simp only[D.lt,decide_eq_false_iff_not] at h1 h2;congr 1;lia
 | .str x,.str y,h1,h2=>by simp only[D.lt] at h1 h2;have:=strKind.total _ _ h1 h2;congr 1;cases x;cases y;simp only at this;congr 1;exact Array.toList_inj.mp this
 | .tup a,.tup b,h1,h2=>by simp only[D.lt] at h1 h2;rw[D.j4 a b h1 h2]
 | .int _,.str _,h1,_=>by simp[D.lt] at h1
 | .int _,.tup _,h1,_=>by simp[D.lt] at h1
 | .str _,.int _,_,h2=>by simp[D.lt] at h2
 | .str _,.tup _,h1,_=>by simp[D.lt] at h1
 | .tup _,.int _,_,h2=>by simp[D.lt] at h2
 | .tup _,.str _,_,h2=>by simp[D.lt] at h2
theorem D.j4:∀a b:List D,D.dP a b=false->D.dP b a=false->a=b
 | [],[],_,_=>rfl
 | [],_::_,h1,_=>by simp[D.dP] at h1
 | _::_,[],_,h2=>by simp[D.dP] at h2
 | x::xs,y::ys,h1,h2=>by
  rw[D.c7] at h1 h2;by_cases h:x=y
  ·subst h;rw[if_pos rfl] at h1 h2;rw[D.j4 xs ys h1 h2]
  ·rw[if_neg h] at h1;rw[if_neg (Ne.symm h)] at h2;exact absurd (D.fL x y h1 h2) h
end
mutual
theorem D.lt_trans:∀a b c:D,D.lt a b=true->D.lt b c=true->D.lt a c=true
 | .int i,.int j,.int k,h1,h2=>by simp only[D.lt,decide_eq_true_eq] at *;lia
 | .int _,_,.str _,_,_=>by simp[D.lt]
 | .int _,_,.tup _,_,_=>by simp[D.lt]
 | .int _,.str _,.int _,_,h2=>by simp[D.lt] at h2
 | .int _,.tup _,.int _,_,h2=>by simp[D.lt] at h2
 | .str _,.int _,_,h1,_=>by simp[D.lt] at h1
 | .str x,.str y,.str z,h1,h2=>by simp only[D.lt] at *;exact strKind.trans _ _ _ h1 h2
 | .str _,.str _,.int _,_,h2=>by simp[D.lt] at h2
 | .str _,_,.tup _,_,_=>by simp[D.lt]
 | .str _,.tup _,.int _,_,h2=>by simp[D.lt] at h2
 | .str _,.tup _,.str _,_,h2=>by simp[D.lt] at h2
 | .tup _,.int _,_,h1,_=>by simp[D.lt] at h1
 | .tup _,.str _,_,h1,_=>by simp[D.lt] at h1
 | .tup _,.tup _,.int _,_,h2=>by simp[D.lt] at h2
 | .tup _,.tup _,.str _,_,h2=>by simp[D.lt] at h2
 | .tup a,.tup b,.tup c,h1,h2=>by simp only[D.lt] at *;exact D.j5 a b c h1 h2
theorem D.j5:∀a b c:List D,D.dP a b=true->D.dP b c=true->D.dP a c=true
 | [],[],_,h1,_=>by simp[D.dP] at h1
 | [],_::_,[],_,h2=>by simp[D.dP] at h2
 | [],_::_,_::_,_,_=>by simp[D.dP]
 | _::_,[],_,h1,_=>by simp[D.dP] at h1
 | _::_,_::_,[],_,h2=>by simp[D.dP] at h2
 | x::xs,y::ys,z::zs,h1,h2=>by
  rw[D.c7] at h1 h2 ⊢;by_cases h:x=y
  ·subst h;rw[if_pos rfl] at h1;by_cases h':x=z
   ·rw[if_pos h'] at h2 ⊢;exact D.j5 xs ys zs h1 h2
   ·rw[if_neg h'] at h2 ⊢;exact h2
  ·rw[if_neg h] at h1;by_cases h':y=z
   ·subst h';rw[if_neg h];exact h1
   ·rw[if_neg h'] at h2;have h3:=D.lt_trans x y z h1 h2;by_cases h'':x=z
    ·subst h'';rw[D.lt_irrefl] at h3;cases h3
    ·rw[if_neg h''];exact h3
end
@[reducible] noncomputable def BS:KeyOrd where
 α:=D
 blt:=D.lt
 irrefl:=D.lt_irrefl
 trans:=D.lt_trans
 negTrans:=λa b c h=>by
  cases h1:D.lt a b with
  | true=>exact .inl rfl
  | false=>
   right;cases h2:D.lt b a with
   | true=>exact D.lt_trans b a c h2 h
   | false=>rw[D.fL a b h1 h2] at h;exact h
 total:=D.fL
end Mx
end
section
namespace MxSort
open PySem PySem.W PyProof.Rows
section
variable {O:KeyOrd} {key:Nat->O.α}
noncomputable def bN (key:Nat->O.α) (p:Array Nat) (i:Nat):O.α:=key (p.getD i 0)
noncomputable def Up (key:Nat->O.α) (p:Array Nat) (n:Nat):Prop:=∀i j,i<=j->j < n->O.kle (bN key p i) (bN key p j)
noncomputable def Dn (key:Nat->O.α) (p:Array Nat) (n:Nat):Prop:=∀i j,i<=j->j < n->O.kle (bN key p j) (bN key p i)
theorem fA {p q:Array Nat} {i j:Nat} (h:p[i]?=q[j]?):p.getD i 0=q.getD j 0:=by
 have e1:∀(p:Array Nat) (i:Nat),p.getD i 0=(p[i]?).getD 0:=λp i=>by simp[Array.getD_eq_getD_getElem?]
 rw[e1,e1,h]
theorem k5 {p:Array Nat} {i j:Nat} (hj:j<=p.size) (k:Nat):bN key (kas_rev p i j) k=if i<=k/\k < j then bN key p (i + j - 1 - k) else bN key p k:=by
 have e:=getElem?_mirror_all (i:=i) hj k;unfold kas_rev bN;by_cases h1:i<=k/\k < j
 ·rw[if_pos h1] at e ⊢;exact congrArg key (fA e)
 ·rw[if_neg h1] at e ⊢;exact congrArg key (fA e)
theorem pZ {p:Array Nat} {src d:Nat} (hs:src < p.size) (hd:d<=src) (k:Nat):
  bN key (bubble p src d) k=if k=src - d then bN key p src else if src - d < k/\k<=src then bN key p (k - 1) else bN key p k:=by
 have e:=getElem?_bubble hs d hd k;unfold bN;by_cases h1:k=src - d
 ·rw[if_pos h1] at e ⊢;exact congrArg key (fA e)
 ·rw[if_neg h1] at e ⊢;by_cases h2:src - d < k/\k<=src
  ·rw[if_pos h2] at e ⊢;exact congrArg key (fA e)
  ·rw[if_neg h2] at e ⊢;exact congrArg key (fA e)
noncomputable def Ord (N:Nat) (p:Array Nat):Prop:=p.toList.Perm (List.range N)
theorem Ord.size {N:Nat} {p:Array Nat} (h:Ord N p):p.size=N:=by have:=h.length_eq;rw[List.length_range] at this;rw[<-this];simp
theorem Ord.lt {N:Nat} {p:Array Nat} (h:Ord N p) (i:Nat) (h0:0 < N):p.getD i 0 < N:=by
 by_cases hi:i < p.size
 ·have e:p.getD i 0=p[i]:=by simp[Array.getD,hi]
  rw[e];have:=h.mem_iff.mp (show p[i]∈p.toList by simp);exact KB.mp this
 ·have e:p.getD i 0=0:=by simp[Array.getD,hi]
  rw[e];exact h0
theorem Ord.perm {N:Nat} {p q:Array Nat} (h:Ord N p) (e:q.Perm p):Ord N q:=(Array.perm_iff_toList_perm.mp e).trans h
theorem Ord.rev {N:Nat} {p:Array Nat} (h:Ord N p) (i j:Nat):Ord N (kas_rev p i j):=h.perm (mirror_perm _ _ _ _)
theorem Ord.HE {N:Nat} {p:Array Nat} (h:Ord N p) (i j:Nat):Ord N (bubble p i j):=h.perm (bubble_perm _ _ _)
variable {cmp:Nat->Nat->(Bool->Shared->Prop)->Shared->Prop} {s:Shared} {N:Nat}
noncomputable def Tells (O:KeyOrd) (key:Nat->O.α) (cmp:Nat->Nat->(Bool->Shared->Prop)->Shared->Prop) (N:Nat) (s:Shared):Prop:=
 ∀i j,i < N->j < N->∀C:Bool->Shared->Prop,C (O.blt (key i) (key j)) s->cmp i j C s
theorem Tells.at (T:Tells O key cmp N s) {p:Array Nat} (hp:Ord N p) (h0:0 < N) (i j:Nat) {C:Bool->Shared->Prop} (h:C (O.blt (bN key p i) (bN key p j)) s):cmp (p.getD i 0) (p.getD j 0) C s:=
 T _ _ (hp.lt i h0) (hp.lt j h0) C h
theorem Up.succ {p:Array Nat} {n:Nat} (h:Up key p n) (h1:1<=n) (h2:O.kle (bN key p (n - 1)) (bN key p n)):Up key p (n + 1):=λi j hij hj=>by
 by_cases e:j=n
 ·subst e;by_cases e2:i=j
  ·subst e2;exact KeyOrd.kle_refl _
  ·exact Ki (h i (j - 1) (by lia) (by lia)) h2
 ·exact h i j hij (by lia)
theorem Dn.succ {p:Array Nat} {n:Nat} (h:Dn key p n) (h1:1<=n) (h2:O.kle (bN key p n) (bN key p (n - 1))):Dn key p (n + 1):=λi j hij hj=>by
 by_cases e:j=n
 ·subst e;by_cases e2:i=j
  ·subst e2;exact KeyOrd.kle_refl _
  ·exact Ki h2 (h i (j - 1) (by lia) (by lia))
 ·exact h i j hij (by lia)
theorem nF (T:Tells O key cmp N s) {p:Array Nat} (hp:Ord N p) {Q:Nat->Shared->Prop}:∀(f n:Nat),1<=n->n + f<=N->Up key p n->
  (∀m,n<=m->m<=n + f->Up key p m->(m < n + f->O.blt (bN key p m) (bN key p (m - 1))=true)->Q m s)->(kas_asc p f n).kasWp cmp Q s
 | 0,n,h1,hn,hu,h=>h n (JW _) (JW _) hu (λz=>absurd z (by lia))
 | f + 1,n,h1,hn,hu,h=>by
  refine T.at hp (by lia) n (n - 1) ?_;cases hb:O.blt (bN key p n) (bN key p (n - 1)) with
  | true=>show (if true=true then KasT.ret n else kas_asc p f (n + 1)).kasWp cmp Q s;rw[if_pos rfl];exact h n (JW _) (by lia) hu λ_=>hb
  | false=>show (if false=true then KasT.ret n else kas_asc p f (n + 1)).kasWp cmp Q s;rw[if_neg (by simp)];exact nF T hp f (n + 1) (by lia) (by lia) (hu.succ h1 hb) λm a b c d=>h m (by lia) (by lia) c λz=>d (by lia)
theorem gi {p:Array Nat} {a n:Nat} (hn:n<=p.size) (he:∀k,a<=k->k < n->bN key p k=bN key p (n - 1)) (k:Nat):bN key (kas_rev p a n) k=bN key p k:=by
 rw[k5 hn];split
 ·rename_i h;rw[he (a + n - 1 - k) (by lia) (by lia),he k h.1 h.2]
 ·rfl
theorem Dn.of {p q:Array Nat} {n:Nat} (e:∀k,bN key q k=bN key p k) (h:Dn key p n):Dn key q n:=λi j a b=>by rw[e,e];exact h i j a b
theorem gZ (T:Tells O key cmp N s) {Q:Array Nat×Nat×Nat->Shared->Prop}:∀(f:Nat) (p:Array Nat) (n q:Nat),Ord N p->1<=n->q + 1<=n->n + f<=N->Dn key p n->(∀k,n - (q + 1)<=k->k < n->bN key p k=bN key p (n - 1))->
  (∀(p':Array Nat) (m q':Nat),Ord N p'->1<=m->q' + 1<=m->m<=n + f->Dn key p' m->(∀k,m - (q' + 1)<=k->k < m->bN key p' k=bN key p' (m - 1))->Q (p',m,q') s)->(kas_desc f p n q).kasWp cmp Q s
 | 0,p,n,q,hp,h1,hq,hn,hd,he,h=>h p n q hp h1 hq (JW _) hd he
 | f + 1,p,n,q,hp,h1,hq,hn,hd,he,h=>by
  have hz:=hp.size;refine T.at hp (by lia) n (n - 1) ?_;cases hb:O.blt (bN key p n) (bN key p (n - 1)) with
  | true=>
   show (if true=true then(if q > 0 then kas_desc f (kas_rev p (n - (q + 1)) n) (n + 1) 0 else kas_desc f p (n + 1) 0) else _).kasWp cmp Q s;rw[if_pos rfl];have oh:Dn key p (n + 1):=hd.succ h1 (KeyOrd.kle_of_klt hb);by_cases hq0:q > 0
   ·rw[if_pos hq0];have e:=gi (key:=key) (p:=p) (a:=n - (q + 1)) (n:=n) (by lia) he;exact gZ T f _ (n + 1) 0 (hp.rev _ _) (by lia) (by lia) (by lia) (Dn.of e oh) (λk a b=>by rw[show k=n + 1 - 1 by lia]) λp' m q' a b c d=>h p' m q' a b c (by lia)
   ·rw[if_neg hq0];exact gZ T f _ (n + 1) 0 hp (by lia) (by lia) (by lia) oh (λk a b=>by rw[show k=n + 1 - 1 by lia]) λp' m q' a b c d=>h p' m q' a b c (by lia)
  | false=>
   show (if false=true then _ else KasT.ask (p.getD (n - 1) 0) (p.getD n 0) λd=>if d=true then .ret (p,n,q) else kas_desc f p (n + 1) (q + 1)).kasWp cmp Q s;rw[if_neg (by simp)];refine T.at hp (by lia) (n - 1) n ?_;cases hc:O.blt (bN key p (n - 1)) (bN key p n) with
   | true=>show (if true=true then KasT.ret (p,n,q) else _).kasWp cmp Q s;rw[if_pos rfl];exact h p n q hp h1 hq (by lia) hd he
   | false=>
    show (if false=true then KasT.ret (p,n,q) else kas_desc f p (n + 1) (q + 1)).kasWp cmp Q s;rw[if_neg (by simp)];have heq:bN key p n=bN key p (n - 1):=O.total _ _ hb hc;refine gZ T f p (n + 1) (q + 1) hp (by lia) (by lia) (by lia) (hd.succ h1 (by rw[heq];exact KeyOrd.kle_refl _)) (λk a b=>?_) λp' m q' a b c d=>h p' m q' a b c (by lia)
    by_cases e:k=n
    ·rw[show n + 1 - 1=n by lia,e]
    ·rw[he k (by lia) (by lia),show n + 1 - 1=n by lia,heq]
noncomputable def EB (key:Nat->O.α) (N:Nat) (r:Nat×Array Nat):Prop:=Ord N r.2/\1<=r.1/\r.1<=N/\Up key r.2 r.1
theorem Bc {p:Array Nat} {n:Nat} (hn:n<=p.size) (h:Dn key p n):Up key (kas_rev p 0 n) n:=λi j hij hj=>by rw[k5 hn,k5 hn,if_pos (by lia),if_pos (by lia)];exact h _ _ (by lia) (by lia)
theorem mY (T:Tells O key cmp N s) {p:Array Nat} {n:Nat} {Q:Nat×Array Nat->Shared->Prop} (hp:Ord N p) (h1:1<=n) (hn:n<=N) (hd:Dn key p n) (h:∀r,EB key N r->Q r s):(kas_tail3 n N p).kasWp cmp Q s:=by
 unfold kas_tail3;rw[KasT.kasWp_bind];refine nF T (hp.rev 0 n) (N - n) n h1 (by lia) (Bc (by rw[hp.size];exact hn) hd) λm a b c _=>?_
 exact h (m,kas_rev p 0 n) ⟨hp.rev 0 n,(show 1<=m by lia),(show m<=N by lia),c⟩
theorem gD (T:Tells O key cmp N s) {p:Array Nat} {n:Nat} {Q:Nat×Array Nat->Shared->Prop} (hp:Ord N p) (h1:1<=n) (hn:n + 1<=N) (hd:Dn key p (n + 1)) (h:∀r,EB key N r->Q r s):(kas_descPart n N p).kasWp cmp Q s:=by
 unfold kas_descPart;rw[KasT.kasWp_bind];refine gZ T (N - (n + 1)) p (n + 1) 0 hp (by lia) (by lia) (by lia) hd (λk a b=>by rw[show k=n + 1 - 1 by lia]) λp' m q' a b c d e g=>?_
 show (if q' > 0 then kas_tail3 m N (kas_rev p' (m - (q' + 1)) m) else kas_tail3 m N p').kasWp cmp Q s;by_cases hq:q' > 0
 ·rw[if_pos hq];exact mY T (a.rev _ _) b (by lia) (Dn.of (gi (by rw[a.size];lia) g) e) h
 ·rw[if_neg hq];exact mY T a b (by lia) e h
theorem sQ (T:Tells O key cmp N s) {p:Array Nat} {Q:Nat×Array Nat->Shared->Prop} (hp:Ord N p) (h1:1<=N) (h:∀r,EB key N r->Q r s):(kas_count N p).kasWp cmp Q s:=by
 unfold kas_count;rw[KasT.kasWp_bind];refine nF T hp (N - 1) 1 (JW _) (by lia) (λi j a b=>by rw[show i=j by lia];exact KeyOrd.kle_refl _) λn a b c d=>?_
 by_cases e:n=N
 ·subst e;show (if (n==n)=true then KasT.ret (n,p) else _).kasWp cmp Q s;rw[if_pos (by simp)];exact h (n,p) ⟨hp,a,JW _,c⟩
 ·show (if (n==N)=true then KasT.ret (n,p) else if n > 1 then .ask (p.getD 0 0) (p.getD (n - 1) 0) λc=>if c=true then .ret (n,p) else kas_descPart n N (kas_rev p 0 n) else kas_descPart n N p).kasWp cmp Q s;rw[if_neg (by simpa using e)];have bZ:=d (by lia);by_cases hn:n > 1
  ·rw[if_pos hn];refine T.at hp (by lia) 0 (n - 1) ?_;cases hb:O.blt (bN key p 0) (bN key p (n - 1)) with
   | true=>show (if true=true then KasT.ret (n,p) else _).kasWp cmp Q s;rw[if_pos rfl];exact h (n,p) ⟨hp,a,(show n<=N by lia),c⟩
   | false=>
    show (if false=true then KasT.ret (n,p) else kas_descPart n N (kas_rev p 0 n)).kasWp cmp Q s;rw[if_neg (by simp)];have hz:=hp.size;have all:∀k,0<=k->k < n->bN key p k=bN key p (n - 1):=λk _ hk=>by refine KeyOrd.kle_antisymm (c k (n - 1) (by lia) (by lia)) (Ki (show O.kle (bN key p (n - 1)) (bN key p 0) from hb) (c 0 k (by lia) hk))
    have er:=gi (key:=key) (p:=p) (a:=0) (n:=n) (by lia) all;refine gD T (hp.rev 0 n) a (by lia) (Dn.of er (Dn.succ (λi j hij hj=>?_) a (KeyOrd.kle_of_klt bZ))) h;rw[all i (by lia) (by lia),all j (by lia) hj];exact KeyOrd.kle_refl _
  ·rw[if_neg hn];have e1:n=1:=by lia
   subst e1;refine gD T hp a (by lia) (Dn.succ (λi j hij hj=>?_) a (KeyOrd.kle_of_klt bZ)) h;rw[show i=j by lia];exact KeyOrd.kle_refl _
theorem i8 (T:Tells O key cmp N s) {p:Array Nat} {k:Nat} {Q:Nat->Shared->Prop} (hp:Ord N p) (hk:k < N) (hu:Up key p k):∀(f l r:Nat),l<=r->r<=k->r - l<=f->(∀i,i < l->O.kle (bN key p i) (bN key p k))->(∀i,r<=i->i < k->O.klt (bN key p k) (bN key p i))->
  (∀l,l<=k->(∀i,i < l->O.kle (bN key p i) (bN key p k))->(∀i,l<=i->i < k->O.klt (bN key p k) (bN key p i))->Q l s)->(kas_place p k f l r).kasWp cmp Q s
 | 0,l,r,ID,Eb,hf,h1,h2,h=>by
  have e:l=r:=by lia
  subst e;exact h l Eb h1 h2
 | f + 1,l,r,ID,Eb,hf,h1,h2,h=>by
  show (if l>=r then KasT.ret l else .ask (p.getD k 0) (p.getD ((l + r) / 2) 0) λc=>if c=true then kas_place p k f l ((l + r) / 2) else kas_place p k f ((l + r) / 2 + 1) r).kasWp cmp Q s;by_cases jB:l>=r
  ·rw[if_pos jB];have e:l=r:=by lia
   subst e;exact h l Eb h1 h2
  ·rw[if_neg jB];refine T.at hp (by lia) k ((l + r) / 2) ?_;cases hb:O.blt (bN key p k) (bN key p ((l + r) / 2)) with
   | true=>show (if true=true then kas_place p k f l ((l + r) / 2) else _).kasWp cmp Q s;rw[if_pos rfl];exact i8 T hp hk hu f l ((l + r) / 2) (by lia) (by lia) (by lia) h1 (λi a b=>KeyOrd.klt_of_klt_of_kle hb (hu _ _ a b)) h
   | false=>show (if false=true then kas_place p k f l ((l + r) / 2) else kas_place p k f ((l + r) / 2 + 1) r).kasWp cmp Q s;rw[if_neg (by simp)];exact i8 T hp hk hu f ((l + r) / 2 + 1) r (by lia) Eb (by lia) (λi a=>Ki (hu i ((l + r) / 2) (by lia) (by lia)) hb) h2 h
theorem sE (T:Tells O key cmp N s) {Q:Array Nat->Shared->Prop}:∀(f:Nat) (p:Array Nat) (k:Nat),Ord N p->k + f=N->Up key p k->(∀p',Ord N p'->Up key p' N->Q p' s)->(kas_bin f p k).kasWp cmp Q s
 | 0,p,k,hp,hk,hu,h=>h p hp (by rw[<-hk];exact hu)
 | f + 1,p,k,hp,hk,hu,h=>by
  show ((kas_place p k k 0 k).bind λl=>kas_bin f (bubble p k (k - l)) (k + 1)).kasWp cmp Q s;rw[KasT.kasWp_bind];refine i8 T hp (by lia) hu k 0 k (by lia) (JW _) (by lia) (λi a=>absurd a (by lia)) (λi a b=>absurd a (by lia)) λl hl lo hi=>?_
  refine sE T f _ (k + 1) (hp.HE _ _) (by lia) (λi j hij hj=>?_) h;have hz:=hp.size;rw[pZ (by lia) (by lia),pZ (by lia) (by lia),show k - (k - l)=l by lia]
  repeat' split
  all_goals first
   | (exfalso;lia)
   | exact KeyOrd.kle_refl _
   | exact lo _ (by lia)
   | exact KeyOrd.kle_of_klt (hi _ (by lia) (by lia))
   | exact hu _ _ (by lia) (by lia)
theorem xJ (T:Tells O key cmp N s) {Q:Array Nat->Shared->Prop} (h1:1<=N) (h:∀p',Ord N p'->Up key p' N->Q p' s):(kas_sort N).kasWp cmp Q s:=by
 unfold kas_sort;rw[KasT.kasWp_bind];refine sQ T (show Ord N (List.toArray (List.range N)) from by unfold Ord;simp) h1 λr hr=>?_
 obtain⟨a,b,c,d⟩:=hr;by_cases bZ:r.1 < N
 ·rw[if_pos bZ];have e:max r.1 1=r.1:=by lia
  rw[e];exact sE T _ _ _ a (by lia) d h
 ·rw[if_neg bZ];have e:r.1=N:=by lia
  exact h r.2 a (by rw[<-e];exact d)
end
end MxSort
end
section
namespace Mx
open PySem PySem.Spec PyProof.Rows L2 PySem.SeqAt
mutual
noncomputable def D.dep:D->Nat
 | .int _=>0
 | .str _=>0
 | .tup ds=>D.bp ds + 1
noncomputable def D.bp:List D->Nat
 | []=>0
 | d::ds=>max (D.dep d) (D.bp ds)
end
mutual
noncomputable def DV (H:Hp):V->D->Prop
 | x,.int i=>x= .int i
 | x,.str z=>x= .str z
 | x,.tup ds=>∃a xs,x= .ref a/\H a=some (.tup xs)/\aC H xs ds
noncomputable def aC (H:Hp):List V->List D->Prop
 | [],[]=>True
 | x::xs,d::ds=>DV H x d/\aC H xs ds
 | [],_::_=>False
 | _::_,[]=>False
end
theorem aC.nil {H:Hp}:aC H [] []:=by unfold aC;trivial
theorem aC.cons {H:Hp} {x:V} {xs:List V} {d:D} {ds:List D} (h:DV H x d) (t:aC H xs ds):aC H (x::xs) (d::ds):=by unfold aC;exact⟨h,t⟩
theorem DV.int {H:Hp} {i:Int}:DV H (.int i) (.int i):=by unfold DV;rfl
theorem DV.str {H:Hp} {x:Str}:DV H (.str x) (.str x):=by unfold DV;rfl
theorem DV.tup {H:Hp} {a:Addr} {xs:List V} {ds:List D} (h:H a=some (.tup xs)) (t:aC H xs ds):DV H (.ref a) (.tup ds):=by unfold DV;exact⟨a,xs,rfl,h,t⟩
theorem DV.ae {H:Hp} {x:V} {ds:List D} (h:DV H x (.tup ds)):∃a xs,x= .ref a/\H a=some (.tup xs)/\aC H xs ds:=by unfold DV at h;exact h
theorem DV.int_inv {H:Hp} {x:V} {i:Int} (h:DV H x (.int i)):x= .int i:=by unfold DV at h;exact h
theorem DV.str_inv {H:Hp} {x:V} {i:Str} (h:DV H x (.str i)):x= .str i:=by unfold DV at h;exact h
theorem aC.nil_inv {H:Hp} {xs:List V} (h:aC H xs []):xs=[]:=by
 cases xs with
 | nil=>rfl
 | cons=>unfold aC at h;exact h.elim
theorem aC.cons_inv {H:Hp} {xs:List V} {d:D} {ds:List D} (h:aC H xs (d::ds)):∃x r,xs=x::r/\DV H x d/\aC H r ds:=by
 cases xs with
 | nil=>unfold aC at h;exact h.elim
 | cons x r=>unfold aC at h;exact⟨x,r,rfl,h⟩
theorem aC.length {H:Hp}:∀{xs:List V} {ds:List D},aC H xs ds->xs.length=ds.length
 | [],[],_=>rfl
 | [],_::_,h=>by unfold aC at h;exact h.elim
 | _::_,[],h=>by unfold aC at h;exact h.elim
 | _::xs,_::ds,h=>by unfold aC at h;simp[aC.length h.2]
theorem aC.get {H:Hp}:∀{xs:List V} {ds:List D} {i:Nat} {x:V},aC H xs ds->xs[i]?=some x->∃d,ds[i]?=some d/\DV H x d
 | [],_,_,_,_,e=>by simp at e
 | _::_,[],_,_,h,_=>by unfold aC at h;exact h.elim
 | _::_,_::_,0,_,h,e=>by unfold aC at h;simp at e;subst e;exact⟨_,rfl,h.1⟩
 | _::xs,_::ds,i + 1,x,h,e=>by unfold aC at h;obtain⟨d,e1,e2⟩:=aC.get (i:=i) h.2 (by simpa using e);exact⟨d,by simpa using e1,e2⟩
theorem aC.getD {H:Hp}:∀{xs:List V} {ds:List D} {i:Nat} {d:D},aC H xs ds->ds[i]?=some d->∃x,xs[i]?=some x/\DV H x d
 | _,[],_,_,_,e=>by simp at e
 | [],_::_,_,_,h,_=>by unfold aC at h;exact h.elim
 | _::_,_::_,0,_,h,e=>by unfold aC at h;simp at e;subst e;exact⟨_,rfl,h.1⟩
 | _::xs,_::ds,i + 1,x,h,e=>by unfold aC at h;obtain⟨d,e1,e2⟩:=aC.getD (i:=i) h.2 (by simpa using e);exact⟨d,by simpa using e1,e2⟩
theorem aC.append {H:Hp}:∀{xs ys:List V} {ds es:List D},aC H xs ds->aC H ys es->aC H (xs++ys) (ds++es)
 | [],_,[],_,_,h=>h
 | [],_,_::_,_,h,_=>by unfold aC at h;exact h.elim
 | _::_,_,[],_,h,_=>by unfold aC at h;exact h.elim
 | _::xs,ys,_::ds,es,h,h'=>by unfold aC at h;exact aC.cons h.1 (aC.append h.2 h')
noncomputable def nB (H H':Hp):Prop:=∀a xs,H a=some (.tup xs)->H' a=some (.tup xs)
mutual
theorem DV.mono {H H':Hp} (t:nB H H'):∀{x:V} {d:D},DV H x d->DV H' x d
 | x,.int i,h=>by unfold DV at h ⊢;exact h
 | x,.str z,h=>by unfold DV at h ⊢;exact h
 | x,.tup ds,h=>by obtain⟨a,xs,e,e1,e2⟩:=h.ae;subst e;exact DV.tup (t a xs e1) (aC.mono t e2)
theorem aC.mono {H H':Hp} (t:nB H H'):∀{xs:List V} {ds:List D},aC H xs ds->aC H' xs ds
 | [],[],_=>aC.nil
 | [],_::_,h=>by unfold aC at h;exact h.elim
 | _::_,[],h=>by unfold aC at h;exact h.elim
 | _::xs,_::ds,h=>by unfold aC at h;exact aC.cons (DV.mono t h.1) (aC.mono t h.2)
end
mutual
theorem DV.inj {H:Hp}:∀{x:V} {d e:D},DV H x d->DV H x e->d=e
 | x,.int i,e,h1,h2=>by
  have:=h1.int_inv;subst this;cases e with
  | int j=>have:=h2.int_inv;injection this with q;rw[q]
  | str j=>have:=h2.str_inv;cases this
  | tup j=>obtain⟨_,_,q,_⟩:=h2.ae;cases q
 | x,.str i,e,h1,h2=>by
  have:=h1.str_inv;subst this;cases e with
  | int j=>have:=h2.int_inv;cases this
  | str j=>have:=h2.str_inv;injection this with q;rw[q]
  | tup j=>obtain⟨_,_,q,_⟩:=h2.ae;cases q
 | x,.tup ds,e,h1,h2=>by
  obtain⟨a,xs,q,e1,e2⟩:=h1.ae;subst q;cases e with
  | int j=>have:=h2.int_inv;cases this
  | str j=>have:=h2.str_inv;cases this
  | tup j=>obtain⟨b,ys,q,f1,f2⟩:=h2.ae;cases q;rw[e1] at f1;cases f1;rw[aC.inj e2 f2]
theorem aC.inj {H:Hp}:∀{xs:List V} {ds es:List D},aC H xs ds->aC H xs es->ds=es
 | [],[],[],_,_=>rfl
 | [],[],_::_,_,h=>by unfold aC at h;exact h.elim
 | [],_::_,_,h,_=>by unfold aC at h;exact h.elim
 | _::_,[],_,h,_=>by unfold aC at h;exact h.elim
 | _::_,_::_,[],_,h=>by unfold aC at h;exact h.elim
 | _::xs,_::ds,_::es,h1,h2=>by unfold aC at h1 h2;rw[DV.inj h1.1 h2.1,aC.inj h1.2 h2.2]
end
noncomputable def D4 (ds es:List D) (j:Nat):Bool:=match ds[j]?,es[j]? with
 | some d,some e=>D.eJ d e
 | _,_=>true
theorem ph:∀ds es:List D,((List.range (min ds.length es.length)).all (D4 ds es)&&ds.length==es.length)=D.eqs ds es
 | [],[]=>by simp[D.eqs]
 | [],_::_=>by simp[D.eqs]
 | _::_,[]=>by simp[D.eqs]
 | d::ds,e::es=>by
  have ih:=ph ds es;have hm:min (d::ds).length (e::es).length=min ds.length es.length + 1:=by simp only[J9];lia
  have e1:((d::ds).length==(e::es).length)=(ds.length==es.length):=by rw[Bool.eq_iff_iff];simp
  rw[hm,List.range_succ_eq_map,List.all_cons,List.all_map,e1,D.eqs,<-ih,Bool.and_assoc];rfl
theorem kL {d:D}:∀{ds:List D} {j:Nat},ds[j]?=some d->D.dep d<=D.bp ds
 | [],_,h=>by simp at h
 | d'::ds,0,h=>by simp at h;subst h;unfold D.bp;lia
 | d'::ds,j + 1,h=>by have:=kL (ds:=ds) (j:=j) (by simpa using h);unfold D.bp;lia
section
variable {P:Program} {w:World} {H:Hp} {s:Shared}
theorem au (hok:cG P w H s.heap) {a:Addr} {xs:List V} (h:H a=some (.tup xs)):∃its:List Value,aq xs its/\s.heap.IsTuple a its.toArray:=by obtain⟨_,its,r,t⟩:=hok a _ h;exact⟨its,r,t⟩
theorem eq_data (hok:cG P w H s.heap):∀(n:Nat) (d e:D) (x y:V) (u v:Value) (A:Around),D.dep d<=n->A.units + n < cLine->DV H x d->DV H y e->RelV x u->RelV y v->EqAt A s u v (D.eJ d e):=by
 intro n
 induction n with
 | zero=>
  intro d e x y u v A hd hu hx hy rx ry;cases d with
  | int i=>
   have:=hx.int_inv;subst this;obtain⟨t,rfl⟩:=rx;cases e with
   | int j=>have:=hy.int_inv;subst this;obtain⟨t',rfl⟩:=ry;exact EqAt.int_int i t j t'
   | str j=>have:=hy.str_inv;subst this;obtain⟨t',rfl⟩:=ry;exact EqAt.int_str i t j t'
   | tup j=>obtain⟨b,ys,q,f1,f2⟩:=hy.ae;subst q;cases ry;obtain⟨its,_,ht⟩:=au hok f1;exact EqAt.int_tuple i t ht (by lia)
  | str i=>
   have:=hx.str_inv;subst this;obtain⟨t,rfl⟩:=rx;cases e with
   | int j=>have:=hy.int_inv;subst this;obtain⟨t',rfl⟩:=ry;exact EqAt.str_int i t j t'
   | str j=>have:=hy.str_inv;subst this;obtain⟨t',rfl⟩:=ry;exact EqAt.str_str i t j t'
   | tup j=>obtain⟨b,ys,q,f1,f2⟩:=hy.ae;subst q;cases ry;obtain⟨its,_,ht⟩:=au hok f1;exact EqAt.str_tuple i t ht (by lia)
  | tup ds=>unfold D.dep at hd;lia
 | succ n ih=>
  intro d e x y u v A hd hu hx hy rx ry;cases d with
  | int i=>exact ih (.int i) e x y u v A (by unfold D.dep;lia) (by lia) hx hy rx ry
  | str i=>exact ih (.str i) e x y u v A (by unfold D.dep;lia) (by lia) hx hy rx ry
  | tup ds=>
   obtain⟨a,xs,q,e1,e2⟩:=hx.ae;subst q;cases rx;obtain⟨its,r1,ht⟩:=au hok e1;cases e with
   | int j=>have:=hy.int_inv;subst this;obtain⟨t',rfl⟩:=ry;exact EqAt.tuple_int j t' ht (by lia)
   | str j=>have:=hy.str_inv;subst this;obtain⟨t',rfl⟩:=ry;exact EqAt.tuple_str j t' ht (by lia)
   | tup es=>
    obtain⟨b,ys,q,f1,f2⟩:=hy.ae;subst q;cases ry;obtain⟨aB,r2,bF⟩:=au hok f1;by_cases gN:a=b
    ·subst gN;rw[e1] at f1;cases f1;have:=aC.inj e2 f2;subst this;have q:D.eJ (.tup ds) (.tup ds)=true:=(D.bQ _ _).mpr rfl;rw[q];exact EqAt.same _
    ·have l1:its.toArray.size=ds.length:=by rw[JS,<-r1.length,e2.length]
     have l2:aB.toArray.size=es.length:=by rw[JS,<-r2.length,f2.length]
     have key:=RcAt.tuples (A:=A) (e:=D4 ds es) ht bF (by lia) (λj h1 h2=>?_)
     ·have q:=ph ds es;rw[<-l1,<-l2] at q;rw[q] at key;exact EqAt.of_refs gN key
     ·have gG:j < xs.length:=by rw[e2.length,<-l1];exact h1
      have iS:j < ys.length:=by rw[f2.length,<-l2];exact h2
      obtain⟨d,g1,g2⟩:=e2.get (i:=j) (x:=xs[j]) (by simp[gG]);obtain⟨e,k1,k2⟩:=f2.get (i:=j) (x:=ys[j]) (by simp[iS]);obtain⟨u,pQ,ru⟩:=r1.get (i:=j) (x:=xs[j]) (by simp[gG]);obtain⟨v,tU,rv⟩:=r2.get (i:=j) (x:=ys[j]) (by simp[iS]);have eu:its.toArray[j]=u:=by have:its[j]?=some u:=pQ;simp only[List.getElem_toArray];have q:=JU.mp this;exact q.2
      have ev:aB.toArray[j]=v:=by have:aB[j]?=some v:=tU;simp only[List.getElem_toArray];have q:=JU.mp this;exact q.2
      rw[eu,ev];have ee:D4 ds es j=D.eJ d e:=by unfold D4;rw[g1,k1]
      rw[ee];refine ih d e xs[j] ys[j] u v A.in1 ?_ (by show A.units + 1 + n < cLine;lia) g2 k2 ru rv;have:=kL g1;unfold D.dep at hd
      lia
end
mutual
noncomputable def D.dH:D->D->Prop
 | .int _,.int _=>True
 | .str _,.str _=>True
 | .tup a,.tup b=>D.eK a b
 | _,_=>False
noncomputable def D.eK:List D->List D->Prop
 | x::xs,y::ys=>D.dH x y/\D.eK xs ys
 | _,_=>True
end
noncomputable def yM (A:Around) (s:Shared) (u v:Value) (b:Bool):Prop:=
 ∀(prog:Program) (w:World) (E:Value->Shared->Prop) (Q:Value->Shared->Prop),Q (.bool b) s->wpAny (model prog w) A (richCompare .Lt u v) Q E s
inductive Zp (A:Around) (s:Shared):List Value->List Value->List D->List D->Prop
 | nil {ws:List Value} {es:List D}:ws.length=es.length->Zp A s [] ws [] es
 | wX {vs:List Value} {ds:List D}:vs.length=ds.length->Zp A s vs [] ds []
 | cons {v w:Value} {d e:D} {vs ws:List Value} {ds es:List D}:EqAt A s v w (D.eJ d e)->(d≠e->yM A s v w (D.lt d e))->Zp A s vs ws ds es->Zp A s (v::vs) (w::ws) (d::ds) (e::es)
section
open PySem.AutoSeq1 (wpAny_loadPart')
open PySem.MeetsSeq PySem.MeetsSeq2 PySem.MeetsSeq3
theorem jF (l b:Addr) (items dY:Array Value) (n n2:Nat) (dd vp:Option Addr) (sl se:Array (Option Value)) (ds es:List D) (z1:items.size=ds.length) (z2:dY.size=es.length):
  Meets (Builtin.«tuple.__lt__» ⟨[.ref l,.ref b],[]⟩)
   (λA R s=>s.heap.get? l=some {cls:= .type "tuple",dict:=dd,data:= .seq items n,slots:=sl}/\s.heap.get? b=some {cls:= .type "tuple",dict:=vp,data:= .seq dY n2,slots:=se}/\
    Zp A.in1 s items.toList dY.toList ds es/\R (.ok (.ret (.bool (D.dP ds es)))) s):=
 .of_wp λprog w A R s h=>by
  obtain⟨hp,g,d,tk,os⟩:=s;obtain⟨hl,hb,IW,h⟩:=h;have f2:=AutoSeq1.sub_tuple_tuple
  wp_walk using wpAny_loadPart' hl,wpAny_loadPart' hb,wpAny_forIn_list _ (λrest b s'=>b.1=none/\s'=⟨hp,g,d,tk,os⟩/\∃(vs ws:List Value) (qP cc:List D),rest=vs.zip ws/\
   Zp A.in1 ⟨hp,g,d,tk,os⟩ vs ws qP cc/\qP.length + dY.size=cc.length + items.size/\R (.ok (.ret (.bool (D.dP qP cc)))) ⟨hp,g,d,tk,os⟩) _
  case turn=>
   rintro⟨y,x⟩ rest b s' ⟨ye,rfl,vs,ws,qP,cc,hz,FJ,hlen,hR⟩;cases FJ with
   | nil _=>rw[List.zip_nil_left] at hz;cases hz
   | wX _=>rw[List.zip_nil_right] at hz;cases hz
   | cons he hl Cw=>
    rename_i v wv d0 e0 kn ws' ds'' es'';rw[List.zip_cons_cons] at hz;injection hz with hyx Cm;injection hyx with hy hx;subst hy hx;rw[D.c7] at hR;simp only[J9] at hlen;refine JN (he prog w _ _ ?_);by_cases hde:d0=e0
    ·rw[if_pos hde] at hR;rw[(D.bQ d0 e0).mpr hde]
     wp_walk
     exact⟨rfl,rfl,_,_,_,_,Cm,Cw,by lia,hR⟩
    ·rw[if_neg hde] at hR;have HH:D.eJ d0 e0=false:=by rw[D.fy];exact Kg hde
     rw[HH];have II:=hl hde prog w
     wp_walk using II
     exact⟨_,rfl,by simpa using hR⟩
  case fin=>
   rintro⟨b1,b2⟩ s' ⟨ye,rfl,vs,ws,qP,cc,hz,FJ,hlen,hR⟩;simp only at ye;subst ye;have hv:D.dP qP cc=decide (items.size < dY.size):=by
    cases FJ with
    | nil _=>
     cases cc with
     | nil=>simp only[List.length_nil] at hlen;rw[D.dP];exact(Kg (by lia)).symm
     | cons c u=>simp only[List.length_nil,J9] at hlen;rw[D.dP];exact(Kk (by lia)).symm
    | wX _=>
     cases qP with
     | nil=>simp only[List.length_nil] at hlen;rw[D.dP];exact(Kg (by lia)).symm
     | cons c u=>simp only[List.length_nil,J9] at hlen;rw[D.dP];exact(Kg (by lia)).symm
    | cons he hl Cw=>rw[List.zip_cons_cons] at hz;cases hz
   rw[hv] at hR
   wp_walk
   exact⟨_,rfl,by simpa [Builtin.Tuple.tupleCompareSizes] using hR⟩
  case h=>exact⟨rfl,rfl,items.toList,dY.toList,ds,es,rfl,IW,by lia,h⟩
end
section
variable {P:Program} {w:World} {H:Hp} {s:Shared}
theorem vo (hok:cG P w H s.heap) {A:Around} {n:Nat} (hu:A.units + n < cLine) (ih:∀(d e:D) (x y:V) (u v:Value),D.dep d<=n->D.dH d e->DV H x d->DV H y e->RelV x u->RelV y v->yM A s u v (D.lt d e)):
  ∀{xs ys:List V} {us vs:List Value} {ds es:List D},D.bp ds<=n->D.eK ds es->aC H xs ds->aC H ys es->aq xs us->aq ys vs->Zp A s us vs ds es
 | [],ys,us,vs,[],es,_,_,_,h2,r1,r2=>by cases r1;exact .nil (by rw[<-r2.length,h2.length])
 | x::xs,[],us,vs,ds,[],_,_,h1,_,r1,r2=>by cases r2;exact .wX (by rw[<-r1.length,h1.length])
 | [],_,_,_,_::_,_,_,_,h,_,_,_=>by unfold aC at h;exact h.elim
 | _::_,_,_,_,[],_,_,_,h,_,_,_=>by unfold aC at h;exact h.elim
 | _::_,[],_,_,_::_,_::_,_,_,_,h,_,_=>by unfold aC at h;exact h.elim
 | _::_,_::_,_,_,_::_,[],_,_,_,h,_,_=>by unfold aC at h;exact h.elim
 | x::xs,y::ys,us,vs,d::ds,e::es,hd,hl,h1,h2,r1,r2=>by
  unfold aC at h1 h2;unfold D.eK at hl;unfold D.bp at hd;cases r1 with
  | cons r1 t1=>
   cases r2 with
   | cons r2 t2=>exact .cons (eq_data hok n d e x y _ _ A (by lia) hu h1.1 h2.1 r1 r2) (λ_=>ih d e x y _ _ (by lia) hl.1 h1.1 h2.1 r1 r2) (vo hok hu ih (by lia) hl.2 h1.2 h2.2 t1 t2)
theorem wO (hok:cG P w H s.heap):∀(n:Nat) (d e:D) (x y:V) (u v:Value) (A:Around),D.dep d<=n->A.units + n < cLine->D.dH d e->DV H x d->DV H y e->RelV x u->RelV y v->yM A s u v (D.lt d e):=by
 intro n
 induction n with
 | zero=>
  intro d e x y u v A hd hu hl hx hy rx ry;cases d with
  | int i=>
   have:=hx.int_inv;subst this;obtain⟨t,rfl⟩:=rx;cases e with
   | int j=>have:=hy.int_inv;subst this;obtain⟨t',rfl⟩:=ry;intro prog wd E Q q;exact(PyProof.Rows.lt_int q:wpAny (model prog wd) A (compareOp .Lt (.int i t) (.int j t')) Q E s)
   | str j=>unfold D.dH at hl;exact hl.elim
   | tup j=>unfold D.dH at hl;exact hl.elim
  | str i=>
   have:=hx.str_inv;subst this;obtain⟨t,rfl⟩:=rx;cases e with
   | int j=>unfold D.dH at hl;exact hl.elim
   | str j=>have:=hy.str_inv;subst this;obtain⟨t',rfl⟩:=ry;intro prog wd E Q q;exact(PySem.P.lt_str q:wpAny (model prog wd) A (compareOp .Lt (.str i t) (.str j t')) Q E s)
   | tup j=>unfold D.dH at hl;exact hl.elim
  | tup ds=>unfold D.dep at hd;lia
 | succ n ih=>
  intro d e x y u v A hd hu hl hx hy rx ry;cases d with
  | int i=>exact ih (.int i) e x y u v A (by unfold D.dep;lia) (by lia) hl hx hy rx ry
  | str i=>exact ih (.str i) e x y u v A (by unfold D.dep;lia) (by lia) hl hx hy rx ry
  | tup ds=>
   obtain⟨a,xs,q,e1,e2⟩:=hx.ae;subst q;cases rx;cases e with
   | int j=>unfold D.dH at hl;exact hl.elim
   | str j=>unfold D.dH at hl;exact hl.elim
   | tup es=>
    obtain⟨b,ys,q,f1,f2⟩:=hy.ae;subst q;cases ry;obtain⟨its,r1,ht⟩:=au hok e1;obtain⟨aB,r2,bF⟩:=au hok f1;have l1:its.toArray.size=ds.length:=by rw[JS,<-r1.length,e2.length]
    have l2:aB.toArray.size=es.length:=by rw[JS,<-r2.length,f2.length]
    have oh:D.bp ds<=n:=by unfold D.dep at hd;lia
    have vC:D.eK ds es:=by unfold D.dH at hl;exact hl
    have zz:Zp A.in1 s its aB ds es:=vo hok (n:=n) (by show A.units + 1 + n < cLine;lia) (λd e x y u v hd2 eZ Cu hy2 rx2 ry2=>ih d e x y u v A.in1 hd2 (by show A.units + 1 + n < cLine;lia) eZ Cu hy2 rx2 ry2) oh vC e2 f2 r1 r2;intro prog wd E Q q;obtain⟨⟨cls,dd,data,sl⟩,ho,hc,k,qW⟩:=id ht;obtain⟨⟨BR,vp,data2,se⟩,pO,qU,k2,oj⟩:=id bF;simp only at hc qW qU oj;subst hc qW qU oj;have q':Q (.bool (D.dP ds es)) s:=by have z:=q;unfold D.lt at z;exact z
    exact richCompare_meets_room (op:= .Lt) ⟨_,ho,rfl⟩ ⟨_,pO,rfl⟩ PySem.F.slot_tuple_lt PySem.F.entry_tuple_lt (PySem.F.args_tuple_lt_2 _ _) (jF a b its.toArray aB.toArray k k2 dd vp sl se ds es l1 l2)
     ⟨ho,pO,zz,show Value.bool (D.dP ds es)≠Value.notImplemented/\Q (.bool (D.dP ds es)) s from⟨(λx=>nomatch x),q'⟩⟩ (by lia)
end
end Mx
end
section
namespace Mx
open PySem PySem.W PySem.Spec PyProof.Rows L2 PySem.SeqAt MxSort
section
variable {prog:Program} {w:World} {A:Around} {E:Value->Shared->Prop} {s:Shared}
theorem xI {a:Addr} {vs:List Value} {n:Nat} {P:PySem.Fin->Shared->Prop} (ho:s.heap.get? a=some (seqObj "list" vs.toArray n)) (HW:vs.length < 64) {O:KeyOrd} {key:Nat->O.α}
  (hk:2<=vs.length->∀h',(∀b o,b≠a->s.heap.get? b=some o->h'.get? b=some o)->∃κ:SortKind,(∀(Q:SortKind->Shared->Prop) (E:Value->Shared->Prop),Q κ {s with heap:=h'}->wpAny (model prog w) A (keyKind' vs.toArray) Q E {s with heap:=h'})/\
   Tells O key (kas_ask prog w A κ vs) vs.length {s with heap:=h'})
  (h:∀(p:Array Nat) (h':Heap) (e:Nat),Ord vs.length p->Up key p vs.length->(∀b o,b≠a->s.heap.get? b=some o->h'.get? b=some o)->h'.get? a=some (seqObj "list" (p.toList.map λi=>vs.getD i Value.none).toArray e)->
   P (.done (.ret .none)) {s with heap:=h'}):wpAny (model prog w) A (Builtin.«list.sort» ⟨[.ref a],[]⟩) P E s:=by
 have ha:a < s.heap.objs.size:=J0 ho;have zO:vs.length<=sizeLine:=by rw[sizeLine_eq];lia
 rw[list_sort_plain];refine JN (listItems_at ho rfl (JN (listUpdate_at ho rfl ?_ (by rw[JS];exact zO) (Nat.zero_le _))));obtain⟨e1,Hc⟩:∃e1,(s.heap.update a (Obj.mapSeq λ_=>(#[]:Array Value))).get? a=some (seqObj "list" #[] e1):=⟨_,get?_update_seq ho λ_=>#[]⟩;refine JN (seqEpoch_at Hc rfl (JN (wpAny_newTuple ?_ zO)));refine JN (wpAny_newList (wpAny_holding ?_) (Nat.zero_le _));show wpAny (model prog w) A _ P E {s with heap:=((s.heap.update a (Obj.mapSeq λ_=>(#[]:Array Value))).push (seqObj "tuple" vs.toArray 0)).push (seqObj "list" #[] 0)};generalize hh:((s.heap.update a (Obj.mapSeq λ_=>(#[]:Array Value))).push (seqObj "tuple" vs.toArray 0)).push (seqObj "list" #[] 0)=h1;have k1:∀b o,b≠a->s.heap.get? b=some o->h1.get? b=some o:=λb o hb e=>by rw[<-hh];exact JP _ (JP _ ((Kj s.heap _ (Ne.symm hb)).trans e))
 have Fs:h1.get? a=some (seqObj "list" #[] e1):=by rw[<-hh];exact JP _ (JP _ Hc)
 dsimp only;have fin:∀(jt:SortSt) (p:Array Nat),Ord vs.length p->Up key p vs.length->(arrOf jt).map (·.2)=(p.toList.map λi=>vs.getD i Value.none).toArray->failedOf jt=none->
   wpAny (model prog w) A (do
    let touched:=(<-seqEpoch a) != e1
    Builtin.List.listUpdate (.ref a) λ_=>(arrOf jt).map (·.2)
    if let some e:=failedOf jt then rule "list.sort.comparison-raised";throw e
    if touched then rule "list.sort.modified";raiseError "ValueError" "list modified during sort"
    ret .none) P E {s with heap:=h1}:=λjt p hp hu zL hf=>by
  refine JN (seqEpoch_at (s:={s with heap:=h1}) Fs rfl ?_);have jW:(p.toList.map λi=>vs.getD i Value.none).toArray.size=vs.length:=by rw[JS,JZ,Kb,hp.size]
  rw[zL];refine JN (listUpdate_at (s:={s with heap:=h1}) Fs rfl ?_ (Nat.zero_le _) (by rw[jW];lia));rw[hf];simp only[bne_self_eq_false,Bool.false_eq_true,if_false];obtain⟨c2,qU⟩:∃c2,(h1.update a (Obj.mapSeq λ_=>(p.toList.map λi=>vs.getD i Value.none).toArray)).get? a=some (seqObj "list" (p.toList.map λi=>vs.getD i Value.none).toArray c2):=⟨_,get?_update_seq Fs λ_=>_⟩;exact JQ (h p _ c2 hp hu (λb o hb e=>(Kj h1 _ (Ne.symm hb)).trans (k1 b o hb e)) qU)
 by_cases h2:2<=vs.length
 ·have zI:¬vs.toArray.size < 2:=by rw[JS];lia
  rw[if_neg zI,if_neg zI];obtain⟨κ,Iy,T⟩:=hk h2 h1 k1;refine JN (Iy _ _ ?_);refine JN (wpAny_mono (kat_run (s:={s with heap:=h1}) (G:=λp s'=>s'={s with heap:=h1}/\Ord vs.length p/\Up key p vs.length)
   (Q:=λjt s'=>s'={s with heap:=h1}/\∃p:Array Nat,Ord vs.length p/\Up key p vs.length/\(arrOf jt).map (·.2)=(p.toList.map λi=>vs.getD i Value.none).toArray/\failedOf jt=none) rfl h2 HW
   (λp jt s' z1 z2 z3 z4=>⟨z4.1,p,z4.2.1,z4.2.2,kat_snds rfl z2,z3⟩) (xJ T (by lia) λp' hp hu=>⟨rfl,hp,hu⟩)) ?_ λ_ _ e=>e)
  rintro⟨⟨⟩,jt⟩ s' ⟨rfl,p,hp,hu,zL,hf⟩;exact fin jt p hp hu zL hf
 ·have zI:vs.toArray.size < 2:=by rw[JS];lia
  rw[if_pos zI,if_pos zI];refine JN (JQ ?_);rw[StateT.run_pure];refine JN (JQ ?_);refine fin (SortSt.mk' general' (vs.toArray.zip vs.toArray) #[] 7 none) (List.range vs.length).toArray (by unfold MxSort.Ord;simp) (λi j hij hj=>?_) ?_ rfl
  ·rw[show i=j by lia];exact KeyOrd.kle_refl _
  ·apply Array.toList_inj.mp;show (((vs.toArray.zip vs.toArray)).map (·.2)).toList=_
   match vs,h2 with
   | [],_=>simp
   | [v],_=>simp
   | _::_::_,h2=>exact absurd (by simp) h2
end
section
variable {P:Program} {w:World} {H:Hp} {prog:Program} {s:Shared} {A:Around}
theorem wI {b:Bool} {n m:Nat} {Q:Bool->Shared->Prop} {us vs:List Value} {ds es:List D} (z:Zp A s us vs ds es):∀(i:Nat),1<=i->ds.length + m=es.length + n->Q (D.dP ds es) s->KatLex prog w A b (decide (n < m)) Q (us.zip vs) i s:=by
 induction z with
 | nil hl=>
  intro i hi hlen q;rw[List.zip_nil_left];refine kat_nil ?_;rename_i ws es;cases es with
  | nil=>simp only[List.length_nil] at hlen;rw[D.dP] at q;rw[Kg (by lia)];exact q
  | cons c u=>simp only[List.length_nil,J9] at hlen;rw[D.dP] at q;rw[Kk (by lia)];exact q
 | wX hl=>
  intro i hi hlen q;rw[List.zip_nil_right];refine kat_nil ?_;rename_i vs ds;cases ds with
  | nil=>simp only[List.length_nil] at hlen;rw[D.dP] at q;rw[Kg (by lia)];exact q
  | cons c u=>simp only[List.length_nil,J9] at hlen;rw[D.dP] at q;rw[Kg (by lia)];exact q
 | cons he hl z' ih=>
  intro i hi hlen q;rename_i v wv d e kn ws' qP cc;rw[List.zip_cons_cons];simp only[J9] at hlen;rw[D.c7] at q;refine kat_cons (he prog w _ _ ?_);by_cases hde:d=e
  ·rw[(D.bQ d e).mpr hde];rw[if_pos hde] at q;exact kat_yes (ih (i + 1) (by lia) (by lia) q)
  ·rw[show D.eJ d e=false by rw[D.fy];exact Kg hde];rw[if_neg hde] at q;refine kat_no ?_;rw[show (b&&i==0)=false by rw[show (i==0)=false by simp;lia];simp];exact kat_one v wv (hl hde prog w _ _ q)
end
noncomputable def fj (ds es:List D):Prop:=es.Perm ds/\es.Pairwise λa b=>D.lt b a=false
theorem aC.map {H:Hp} {xs:List V} {ds:List D} (h:aC H xs ds):∀{p:List Nat},(∀i∈p,i < xs.length)->aC H (p.map λi=>xs.getD i .ba) (p.map λi=>ds.getD i (.int 0))
 | [],_=>aC.nil
 | i::p,hp=>by have hi:=hp i JX;obtain⟨d,e1,e2⟩:=h.get (i:=i) (x:=xs[i]) (by simp[hi]);refine aC.cons ?_ (aC.map h λj hj=>hp j (JV _ hj));dsimp only;rw[show xs.getD i .ba=xs[i] by simp[hi],show ds.getD i (.int 0)=d by simp[e1]];exact e2
theorem ng {xs:List V} {us:List Value} (h:aq xs us):∀{p:List Nat},(∀i∈p,i < xs.length)->aq (p.map λi=>xs.getD i .ba) (p.map λi=>us.getD i .none)
 | [],_=> .nil
 | i::p,hp=>by have hi:=hp i JX;obtain⟨u,e1,e2⟩:=h.get (i:=i) (x:=xs[i]) (by simp[hi]);refine .cons ?_ (ng h λj hj=>hp j (JV _ hj));dsimp only;rw[show xs.getD i .ba=xs[i] by simp[hi],show us.getD i .none=u by simp[e1]];exact e2
theorem iY {α:Type} (l:List α) (d:α):(List.range l.length).map (λi=>l.getD i d)=l:=by
 refine List.ext_getElem (by simp) λi h1 h2=>?_
 simp at h1;simp[h1]
end Mx
end
section
namespace L2
open PySem PySem.Spec PyProof.Rows
noncomputable def kG (env:Env):List (Str×NameKind)->List (Str×Addr)->List (Str×Addr)
 | [],cs=>cs
 | (n,k)::r,cs=>kG env r (if k== .free then(n,(env.cells.lookup n).getD 0)::cs else cs)
noncomputable def dE (scope:Scope) (env:Env):List (Str×Addr):=kG env scope.names []
theorem iQ {env:Env}:∀(l:List (Str×NameKind)) (cs:List (Str×Addr)),(∀y∈l,y.2= .free->∃c,env.cells.lookup y.1=some c)->
  (forIn l cs (λx r=>do
   if x.2==NameKind.free then do let a<-cellOf env x.1;pure (ForInStep.yield ((x.1,a)::r)) else pure (ForInStep.yield r)):Sem (List (Str×Addr)))=pure (kG env l cs)
 | [],cs,_=>rfl
 | (n,k)::r,cs,h=>by
  rw[List.forIn_cons];have ih:=λcs=>iQ r cs λy hy=>h y (JV _ hy)
  cases hk:(k==NameKind.free) with
  | false=>simp only[hk,Bool.false_eq_true,if_false,kG,pure_bind];exact ih cs
  | true=>
   obtain⟨c,hc⟩:=h (n,k) JX (by simpa using hk);have kR:env.cells.lookup n=some c:=hc;have e:cellOf env n=pure c:=by unfold cellOf;rw[kR]
   simp only[hk,if_true,kG,e,pure_bind,kR,Option.getD_some];exact ih _
theorem eI {scope:Scope} {env:Env} (h:∀y∈scope.names,y.2= .free->∃c,env.cells.lookup y.1=some c):closureFor scope env=pure (dE scope env):=by have q:=iQ (env:=env) scope.names [] h;unfold closureFor dE;rw[<-q];simp only[bind_pure]
theorem gA {env:Env} {x:Str} {c:Addr}:∀(l:List (Str×NameKind)) (cs:List (Str×Addr)),(∀y∈l,y.2= .free->∃c,env.cells.lookup y.1=some c)->
  (∀c,cs.lookup x=some c->env.cells.lookup x=some c)->(kG env l cs).lookup x=some c->env.cells.lookup x=some c
 | [],cs,_,h2,h=>h2 c h
 | (n,k)::r,cs,h1,h2,h=>by
  refine gA r _ (λy hy=>h1 y (JV _ hy)) (λc' kR=>?_) h;by_cases hk:(k==NameKind.free)=true
  ·rw[if_pos hk] at kR;rw[Kh] at kR;by_cases hx:(x==n)=true
   ·rw[hx] at kR;have q9:x=n:=by simpa using hx
    subst q9;obtain⟨c₁,e⟩:=h1 (x,k) JX (by simpa using hk);have e':env.cells.lookup x=some c₁:=e;rw[e'] at kR ⊢;simpa using kR
   ·rw[Bool.not_eq_true] at hx;rw[hx] at kR;exact h2 c' kR
  ·rw[if_neg hk] at kR;exact h2 c' kR
theorem iC {env:Env} {x:Str}:∀(l:List (Str×NameKind)) (cs:List (Str×Addr)),(((x,NameKind.free)∈l)\/∃c,cs.lookup x=some c)->∃c,(kG env l cs).lookup x=some c
 | [],cs,h=>by
  rcases h with h | h
  ·cases h
  ·exact h
 | (n,k)::r,cs,h=>by
  refine iC r _ ?_;by_cases hk:(k==NameKind.free)=true
  ·rw[if_pos hk];by_cases hx:(x==n)=true
   ·exact .inr ⟨_,by rw[Kh,hx]⟩
   ·rw[Bool.not_eq_true] at hx;rcases h with h | h
    ·rcases J3.mp h with e | h
     ·injection e with e1 e2;subst e1;simp at hx
     ·exact .inl h
    ·exact .inr (by obtain⟨c,e⟩:=h;exact⟨c,by rw[Kh,hx];exact e⟩)
  ·rw[if_neg hk];rcases h with h | h
   ·rcases J3.mp h with e | h
    ·injection e with e1 e2;subst e2;exact absurd rfl hk
    ·exact .inl h
   ·exact .inr h
theorem aK {env:Env} {x:Str}:∀{names:List (Str×NameKind)} {k:NameKind},names.lookup x=some k->
  (names.map λ(n,k)=>if (k==NameKind.free&&env.scope.kind== .function&&env.kindOf n==some .cell) then(n,NameKind.cell) else(n,k)).lookup x=
   some (if (k==NameKind.free&&env.scope.kind== .function&&env.kindOf x==some .cell) then NameKind.cell else k)
 | [],_,h=>by simp at h
 | (n,k')::r,k,h=>by
  have ih:=@aK env x r k;show List.lookup x ((if (k'==NameKind.free&&env.scope.kind== .function&&env.kindOf n==some .cell)=true then(n,NameKind.cell) else(n,k'))::_)=_;cases hx:x==n with
  | true=>
   have q9:x=n:=by simpa using hx
   subst q9;simp only[Kh,hx] at h;cases h;by_cases hc:(k'==NameKind.free&&env.scope.kind== .function&&env.kindOf x==some .cell)=true
   ·simp only[hc,if_true,Kh,hx]
   ·rw[if_neg hc,if_neg hc];simp only[Kh,hx]
  | false=>
   simp only[Kh,hx] at h;by_cases hc:(k'==NameKind.free&&env.scope.kind== .function&&env.kindOf n==some .cell)=true
   ·rw[if_pos hc];simp only[Kh,hx];exact ih h
   ·rw[if_neg hc];simp only[Kh,hx];exact ih h
theorem bx {env:Env} {x:Str}:∀{names:List (Str×NameKind)},names.lookup x=none->
  (names.map λ(n,k)=>if (k==NameKind.free&&env.scope.kind== .function&&env.kindOf n==some .cell) then(n,NameKind.cell) else(n,k)).lookup x=none
 | [],h=>rfl
 | (n,k')::r,h=>by
  show List.lookup x ((if (k'==NameKind.free&&env.scope.kind== .function&&env.kindOf n==some .cell)=true then(n,NameKind.cell) else(n,k'))::_)=_;cases hx:x==n with
  | true=>simp only[Kh,hx] at h;cases h
  | false=>
   simp only[Kh,hx] at h;by_cases hc:(k'==NameKind.free&&env.scope.kind== .function&&env.kindOf n==some .cell)=true
   ·rw[if_pos hc];simp only[Kh,hx];exact bx h
   ·rw[if_neg hc];simp only[Kh,hx];exact bx h
noncomputable def bT (cap:List (Option Nat)) (σ:St):St:=cap.map λo=>o.bind λi=>(σ[i]?).join
noncomputable def xV (X:Cx) (ifs:List Expr) (t:TT):Prop:=
 ∀(pins:List (Addr×Obj)) (s:Shared) (σ:St) (H:Hp) (Q:Bool->Hp->Prop),Inv X pins σ H s->t σ H Q->
  wpAny (model X.prog X.w) X.A (forIn ifs true λc r=>if r=true then do let ok<-isTrue c X.env (eval c X.env);pure (ForInStep.yield ok) else pure (ForInStep.yield r)) (TP X pins σ Q) X.xe s
noncomputable def GB:TT:=λ_ H Q=>Q true H
theorem xw {X:Cx}:xV X [] GB:=λ_ _ _ H _ I h=>wpAny_tests_nil ⟨H,I,h⟩
theorem xx {X:Cx} {c:Expr} {t:TT} (h:PT X c t):xV X [c] t:=λpins s σ H Q I hw=>wpAny_tests_one (h pins s σ H Q I hw)
noncomputable def BD (J:It) (g:TG) (tt:TT) (te:TE) (σ0:St) (D:Addr) (F:Hp->Prop) (H1:Hp):Prop:=
 ∃W:Nat->Nat->List V->Hp->Prop,(∃m,W 0 m [] (upd H1 D (.lst [])))/\∀i m acc H,W i m acc H->
  (J.stop i H/\F H)\/(J.go i H/\∀x H',J.yld i H x H'->g x σ0 H' λσ2 H2=>tt σ2 H2 λb H3=>if b=true then te σ2 H3 λv H4=>∃br,H4 D=some (.lst br)/\br.length < sizeLine/\
   ∃m',m' < m/\W (i + 1) m' (br++[v]) (upd H4 D (.lst (br++[v]))) else∃m',m' < m/\W (i + 1) m' acc H3)
end L2
end
section
namespace Mx
open PySem PySem.W PySem.Spec PyProof.Rows L2 PySem.SeqAt
section
variable {X:Cx}
noncomputable def Ge:V->Option Int->Option Int->Hp->VK->Prop:=λx lo hi H Q=>∃z,x= .str z/\z.length<=sizeLine/\Q (.str (PySem.Txt.slice z lo hi)) H
theorem A4:Bn X Ge:=by
 intro pins s σ H x v vl vu lo hi sl Q I rx hs pl pu h;obtain⟨z,rfl,hz,q⟩:=h;obtain⟨t,rfl⟩:=rx;refine⟨"str",_,PySem.F.slot_str_getitem.lookup,typeIs_str _ _ _,?_⟩;have fin:∀(t':Tok) (k:Nat),EP X pins σ Q (.str (PySem.Txt.slice z lo hi) t') {s with toks:=k}:=λt' k=>⟨.str _,H,I.tok k,⟨t',rfl⟩,q⟩
 have hlen:=J1 (PySem.Txt.slice_le z lo hi) hz;obtain⟨o,ho,hc,hd⟩:=hs;cases pl with
 | none=>
  cases pu with
  | none=>exact wpAny_getItem_str_slice (l:=none) (u:=none) (st:=none) ⟨o,ho,hc,hd⟩ rfl (post_val_or_str ⟨hlen,fin⟩)
  | int j tj=>exact wpAny_getItem_str_slice (l:=none) (u:=some (j,tj)) (st:=none) ⟨o,ho,hc,hd⟩ rfl (post_val_or_str ⟨hlen,fin⟩)
 | int i ti=>
  cases pu with
  | none=>exact wpAny_getItem_str_slice (l:=some (i,ti)) (u:=none) (st:=none) ⟨o,ho,hc,hd⟩ rfl (post_val_or_str ⟨hlen,fin⟩)
  | int j tj=>exact wpAny_getItem_str_slice (l:=some (i,ti)) (u:=some (j,tj)) (st:=none) ⟨o,ho,hc,hd⟩ rfl (post_val_or_str ⟨hlen,fin⟩)
noncomputable def F7 (K:PySem.W.Frag):List V->Hp->VK->Prop:=λxs H Q=>∃x T t b,xs=[x,.ty T]/\fm K H x t/\PySem.W.kitOne K t (.type T)=some b/\Q (.bl b) H
theorem sH:eE X (.builtin "isinstance") (F7 X.K):=by intro pins s σ H xs us Q I r h;obtain⟨x,T,t,b,rfl,ty,hk,q⟩:=h;obtain⟨u,v,rfl,r1,r2⟩:=r.two;cases r2;exact rg I r1 ty hk λtk=>⟨.bl b,H,I.tok tk,rfl,q⟩
end
end Mx
end
section
namespace Mx
open PySem PySem.W PySem.Spec PyProof.Rows L2
structure jH (z TI TO i1 i2:Addr):Prop where
 TIz:TI≠z
 TOz:TO≠z
 i1z:i1≠z
 i2z:i2≠z
 TITO:TI≠TO
 TIi1:TI≠i1
 TIi2:TI≠i2
 TOi1:TO≠i1
 TOi2:TO≠i2
 i12:i1≠i2
theorem bu {H:Hp} {p:Addr} (h:H p=none) (o:HO):a8 H (upd H p o):=λb u q=>by rw[ah (ak q h)];exact q
theorem ka {H H':Hp} (h:a8 H H'):nB H H':=λa xs q=>h a _ q
theorem uQ {H1 H:Hp} {D:Addr} {o:HO} (h:a8 H1 H) (hD:H1 D=none):a8 H1 (upd H D o):=λb u q=>by rw[ah (ak q hD)];exact h b u q
theorem jl {H:Hp} {D:Addr} {xs ys:List V} (hD:H D=some (.lst xs)):nB H (upd H D (.lst ys)):=λb zs q=>by
 by_cases e:b=D
 ·subst e;rw[hD] at q;cases q
 ·rw[ah e];exact q
section
variable {K:PySem.W.Frag} {g:TG} {tt:TT} {te:TE} {σ0:L2.St} {D:Addr} {F:Hp->Prop} {H1:Hp}
theorem lU {J:It} {n:Nat} (hD:H1 D=none) (E:Nat->List Mx.D) (hE:E 0=[]) (hn:n < sizeLine) (go:∀i H,i < n->a8 H1 H->J.go i H) (stop:∀H,a8 H1 H->J.stop n H)
  (hs:∀i x H H',i < n->a8 H1 H->J.yld i H x H'->a8 H H'/\∀(N:V->Hp->Prop) (M:Hp->Prop),(∀v H4 e,a8 H' H4->DV H4 v e->E (i + 1)=E i++[e]->N v H4)->(∀H3,a8 H' H3->E (i + 1)=E i->M H3)->
   g x σ0 H' λσ2 H2=>tt σ2 H2 λb H3=>if b=true then te σ2 H3 N else M H3)
  (hd:∀H acc,a8 H1 H->H D=some (.lst acc)->aC H acc (E n)->F H):BD J g tt te σ0 D F H1:=by
 refine⟨λi m acc H=>m=n - i/\i<=n/\a8 H1 H/\H D=some (.lst acc)/\aC H acc (E i)/\acc.length<=i,⟨n,by simp,Nat.zero_le _,bu hD _,ar,by rw[hE];exact aC.nil,JW _⟩,?_⟩;rintro i m acc H ⟨rfl,hi,hS,Fk,jA,IA⟩;by_cases bZ:i < n
 ·refine .inr ⟨go i H bZ hS,λx H' y=>?_⟩;obtain⟨s1,st⟩:=hs i x H H' bZ hS y;refine st _ _ (λv H4 e s4 he e4=>?_) (λH3 s3 e3=>?_)
  ·have Gi:=s1.trans s4;have B0:=Gi _ _ Fk;refine⟨acc,B0,by lia,n - (i + 1),by lia,rfl,bZ,uQ (hS.trans Gi) hD,ar,?_,by simp;lia⟩;rw[e4];exact(aC.append (jA.mono (ka Gi)) (aC.cons he aC.nil)).mono (jl B0)
  ·have Gh:=s1.trans s3;exact⟨n - (i + 1),by lia,rfl,bZ,hS.trans Gh,Gh _ _ Fk,by rw[e3];exact jA.mono (ka Gh),by lia⟩
 ·have e:i=n:=by lia
  subst e;exact .inl ⟨stop H hS,hd H acc hS Fk jA⟩
end
noncomputable def aT:Bool->Heap->Addr->Addr->Nat->Prop
 | false,h,i,l,k=>h.IsListIter i l k
 | true,h,i,l,k=>h.IsTupleIter i l k
noncomputable def cj:Bool->Heap->Addr->Array Value->Prop
 | false,h,l,xs=>h.IsList l xs
 | true,h,l,xs=>h.IsTuple l xs
theorem aT.at:∀{b:Bool} {h h':Heap} {i l:Addr} {k:Nat},aT b h i l k->(∀o,h.get? i=some o->h'.get? i=some o)->aT b h' i l k
 | false,_,_,_,_,_,x,e=>Heap.IsListIter.at x e
 | true,_,_,_,_,_,x,e=>Heap.IsTupleIter.at x e
theorem cj.at:∀{b:Bool} {h h':Heap} {l:Addr} {xs:Array Value},cj b h l xs->(∀o,h.get? l=some o->h'.get? l=some o)->cj b h' l xs
 | false,_,_,_,_,x,e=>let ⟨o,ho,r⟩:=x;⟨o,e o ho,r⟩
 | true,_,_,_,_,x,e=>let ⟨o,ho,r⟩:=x;⟨o,e o ho,r⟩
theorem aT.obj:∀{b:Bool} {h:Heap} {i l:Addr} {k:Nat},aT b h i l k->∃o,h.get? i=some o/\∀v,o.data≠ .cell v
 | false,_,_,_,_,x=>by obtain⟨o,e,c,d⟩:=x;exact⟨o,e,λv q=>by rw[d] at q;cases q⟩
 | true,_,_,_,_,x=>by obtain⟨o,e,c,d⟩:=x;exact⟨o,e,λv q=>by rw[d] at q;cases q⟩
section
variable {prog:Program} {w:World} {A:Around} {E:Value->Shared->Prop} {s:Shared}
theorem oY {it t:Addr} {i:Nat} {items:Array Value} {x:Value} {Q:Value->Shared->Prop} (hit:s.heap.IsTupleIter it t i) (ht:s.heap.IsTuple t items) (hx:items[i]?=some x)
  (hQ:∀h',h'.IsTupleIter it t (i + 1)->Heap.SameBut it s.heap h'->Q x {s with heap:=h'}):wpAny (model prog w) A (Builtin.SmallTypes.nextOf (.ref it)) Q E s:=by
 obtain⟨o,ho,hc,hd⟩:=id hit;obtain⟨ol,FF,_,nl,Cf⟩:=ht;unfold Builtin.SmallTypes.nextOf;refine JN (wpAny_callSpecial?_slot (name:=Str.ofString "__next__") hit.typeIs F.slot_tuple_iterator_next (wpAny_call_entry F.slot_tuple_iterator_next hit.typeIs F.entry_tuple_iterator_next (show wpAny _ _ (field (.ref it) 0 >>=_) _ _ s from JN (wpAny_field ho hd (x:= .ref t) rfl ?_)) (F.args_tuple_iterator_next_1 _)));show wpAny _ _ (if (Value.ref t==Value.none)=true then _ else _) _ _ s;rw[if_neg (show¬((Value.ref t==Value.none)=true) from Bool.false_ne_true)];refine(show wpAny _ _ (field (.ref it) 1 >>=_) _ _ s from JN (wpAny_field ho hd (x:= .int i 0) rfl (show wpAny _ _ (seqItems? (.ref t) >>=_) _ _ s from JN (wpAny_seqItems FF Cf ?_))));simp only[Int.toNat_natCast,hx];refine JN (wpAny_setField ho hd (by simp) (JQ ⟨x,rfl,JQ (hQ _ ⟨_,Heap.get?_update_self _ ho (Obj.isFreed_of_fields (Obj.data_mapFields hd _)),(Obj.cls_mapFields ..).trans hc,?_⟩ (Heap.SameBut.update ..))⟩));rw[Obj.data_mapFields hd];simp[rawInt]
theorem rJ {it t:Addr} {i:Nat} {items:Array Value} {Q:Value->Shared->Prop} (hh:A.handled=none) (hit:s.heap.IsTupleIter it t i) (ht:s.heap.IsTuple t items) (hx:items[i]?=none)
  (hE:∀h' e,Heap.ExtBut it s.heap h'->(∃o,h'.get? e=some o/\o.cls= .type "StopIteration")->E (.ref e) {s with heap:=h'}):wpAny (model prog w) A (Builtin.SmallTypes.nextOf (.ref it)) Q E s:=by
 obtain⟨o,ho,hc,hd⟩:=id hit;obtain⟨ol,FF,_,nl,Cf⟩:=ht;unfold Builtin.SmallTypes.nextOf;refine JN (wpAny_callSpecial?_slot (name:=Str.ofString "__next__") hit.typeIs F.slot_tuple_iterator_next (wpAny_call_entry F.slot_tuple_iterator_next hit.typeIs F.entry_tuple_iterator_next (show wpAny _ _ (field (.ref it) 0 >>=_) _ _ s from JN (wpAny_field ho hd (x:= .ref t) rfl ?_)) (F.args_tuple_iterator_next_1 _)));show wpAny _ _ (if (Value.ref t==Value.none)=true then _ else _) _ _ s;rw[if_neg (show¬((Value.ref t==Value.none)=true) from Bool.false_ne_true)];refine(show wpAny _ _ (field (.ref it) 1 >>=_) _ _ s from JN (wpAny_field ho hd (x:= .int i 0) rfl (show wpAny _ _ (seqItems? (.ref t) >>=_) _ _ s from JN (wpAny_seqItems FF Cf ?_))));simp only[Int.toNat_natCast,hx];refine JN (wpAny_rule (JN (wpAny_setField ho hd (by simp) (show wpAny _ _ (newExc (.type "StopIteration") [] >>=_) _ _ _ from JN ?_))));simp only[newExc,newTuple];refine JN (wpAny_newObj_type (JN (m:=firstArgMember _ _) (wpAny_of_eq (a:=Value.none) (by first | rfl | (simp only[firstArgMember];rfl)) (wpAny_newObj_type ?_ (by size_fits)))) (by size_fits));simp only[raiseNew];refine JN (wpAny_handled ?_)
 first | rw[show A.in1.handled=none from hh] | rw[hh]
 exact JN (JQ (wpAny_throw (hE _ _ (((Heap.SameBut.update ..).extBut.push _).push _) ⟨_,JY _ rfl,rfl⟩)))
theorem bL {b:Bool} {it l:Addr} {i:Nat} {items:Array Value} {x:Value} {Q:Value->Shared->Prop} (hit:aT b s.heap it l i) (hl:cj b s.heap l items) (hx:items[i]?=some x)
  (hQ:∀h',aT b h' it l (i + 1)->Heap.SameBut it s.heap h'->Q x {s with heap:=h'}):wpAny (model prog w) A (Builtin.SmallTypes.nextOf (.ref it)) Q E s:=by
 cases b with
 | false=>exact wpAny_nextOf_list_item hit hl hx hQ
 | true=>exact oY hit hl hx hQ
theorem ej {b:Bool} {it l:Addr} {i:Nat} {items:Array Value} {Q:Value->Shared->Prop} (hh:A.handled=none) (hit:aT b s.heap it l i) (hl:cj b s.heap l items) (hx:items[i]?=none)
  (hE:∀h' e,Heap.ExtBut it s.heap h'->(∃o,h'.get? e=some o/\o.cls= .type "StopIteration")->E (.ref e) {s with heap:=h'}):wpAny (model prog w) A (Builtin.SmallTypes.nextOf (.ref it)) Q E s:=by
 cases b with
 | false=>exact wpAny_nextOf_list_end hh hit hl hx hE
 | true=>exact rJ hh hit hl hx hE
end
structure cM (z TO i1 i2 l:Addr):Prop where
 z:l≠z
 o:l≠TO
 a:l≠i1
 b:l≠i2
section
variable {prog:Program} {w:World} {A:Around} {E:Value->Shared->Prop} {s:Shared}
theorem rO {b1 b2:Bool} {z TI TO i1 i2 l1 l2:Addr} {k1 k2:Nat} {xs ys:Array Value} {x y a b:Value} {Q:Option Value->Shared->Prop} (D:jH z TI TO i1 i2) (O1:cM z TO i1 i2 l1) (O2:cM z TO i1 i2 l2)
  (hz:IsZip s.heap z TI TO .none) (wj:IsPair s.heap TI (.ref i1) (.ref i2)) (zy:IsPair s.heap TO a b) (h1:aT b1 s.heap i1 l1 k1) (h2:aT b2 s.heap i2 l2 k2) (cP:cj b1 s.heap l1 xs) (eZ:cj b2 s.heap l2 ys) (hx:xs[k1]?=some x) (hy:ys[k2]?=some y)
  (hQ:∀h',IsZip h' z TI TO (rawInt s.heap.objs.size)->IsPair h' TO x y->aT b1 h' i1 l1 (k1 + 1)->aT b2 h' i2 l2 (k2 + 1)->IsPair h' s.heap.objs.size x y->
   (∀c o,c≠z->c≠TO->c≠i1->c≠i2->s.heap.get? c=some o->h'.get? c=some o)->Q (some (.ref s.heap.objs.size)) {s with heap:=h'}):wpAny (model prog w) A (pyNext (.ref z)) Q E s:=by
 have hT:s.TypeIs (.ref z) "zip":=⟨_,hz,rfl⟩;unfold pyNext;refine JN (wpAny_attempt (wpAny_callSpecial?_slot (name:=Str.ofString "__next__") hT F.slot_zip_next (wpAny_call_entry F.slot_zip_next hT F.entry_zip_next ?_ (F.args_zip_next_1 _))));refine(show wpAny _ _ (field (.ref z) 2 >>=_) _ _ _ from JN (wpAny_field hz rfl (x:= .bool false) rfl (show wpAny _ _ (field (.ref z) 3 >>=_) _ _ _ from JN (wpAny_field hz rfl (x:= .ref TI) rfl (JN (wpAny_seqItems wj rfl (show wpAny _ _ (Builtin.SmallTypes.ownedTupleIsFree (.ref z) >>=_) _ _ _ from JN ?_)))))));unfold Builtin.SmallTypes.ownedTupleIsFree;refine JN (wpAny_field hz rfl (x:= .none) rfl (JQ ?_));simp only[if_true];refine JN (wpAny_rule (JN (wpAny_field hz rfl (x:= .ref TO) rfl (JN (Ko hz (by simp) λg1 z1 e1=>JN ?_)))))
 replace z1:IsZip g1 z TI TO .ellipsis:=z1
 simp only[List.zipIdx_cons,List.zipIdx_nil,List.forIn_cons,List.forIn_nil];refine JN (JN (wpAny_onRaise (show wpAny _ _ (Builtin.SmallTypes.nextOf (.ref i1) >>=_) _ _ _ from JN (bL (h1.at λo q=>e1.extBut _ o D.i1z q) (cP.at λo q=>e1.extBut _ o O1.z q) hx λg2 j1 e2=>JQ ?_))));have t2:IsPair g2 TO a b:=e2.extBut _ _ D.TOi1 (e1.extBut _ _ D.TOz zy);refine JN (wpAny_seqItems t2 rfl (JN (wpAny_updateSeq_pair t2 λg3 t3 e3=>JN (wpAny_letGo (JQ ?_)))))
 replace t3:IsPair g3 TO x b:=t3
 refine JN (JN (wpAny_onRaise (show wpAny _ _ (Builtin.SmallTypes.nextOf (.ref i2) >>=_) _ _ _ from JN (bL (h2.at λo q=>e3.extBut _ o D.TOi2.symm (e2.extBut _ o D.i12.symm (e1.extBut _ o D.i2z q))) (eZ.at λo q=>e3.extBut _ o O2.o (e2.extBut _ o O2.a (e1.extBut _ o O2.z q))) hy λg4 j2 e4=>JQ ?_))));have t4:IsPair g4 TO x b:=e4.extBut _ _ D.TOi2 t3;refine JN (wpAny_seqItems t4 rfl (JN (wpAny_updateSeq_pair t4 λg5 t5 e5=>JN (wpAny_letGo (JQ (JQ ?_))))))
 replace t5:IsPair g5 TO x y:=t5
 refine JN (wpAny_seqItems t5 rfl (JN (wpAny_newTuple ?_)));have sz:g5.objs.size=s.heap.objs.size:=by rw[e5.1,e4.1,e3.1,e2.1,e1.1]
 have z5:IsZip g5 z TI TO .ellipsis:=e5.extBut _ _ D.TOz.symm (e4.extBut _ _ D.i2z.symm (e3.extBut _ _ D.TOz.symm (e2.extBut _ _ D.i1z.symm z1)));have old:∀c o,c≠z->c≠TO->c≠i1->c≠i2->s.heap.get? c=some o->g5.get? c=some o:=λc o c1 c2 c3 c4 q=>e5.extBut _ _ c2 (e4.extBut _ _ c4 (e3.extBut _ _ c2 (e2.extBut _ _ c3 (e1.extBut _ _ c1 q))))
 have n1:aT b1 g5 i1 l1 (k1 + 1):=j1.at λo q=>e5.extBut _ o D.TOi1.symm (e4.extBut _ o D.i12 (e3.extBut _ o D.TOi1.symm q))
 have n2:aT b2 g5 i2 l2 (k2 + 1):=j2.at λo q=>e5.extBut _ o D.TOi2.symm q
 have DS:z < g5.objs.size:=J0 z5;refine(show wpAny _ _ (Builtin.SmallTypes.ownedTupleHandOut (.ref z) (.ref g5.objs.size) >>=_) _ _ _ from JN ?_);unfold Builtin.SmallTypes.ownedTupleHandOut;have z6:IsZip (g5.push {cls:= .type "tuple",data:= .seq #[x,y]}) z TI TO .ellipsis:=JP _ z5;refine JN (Ko z6 (by simp) λg7 z7 e7=>?_)
 replace z7:IsZip g7 z TI TO (rawInt g5.objs.size):=z7
 refine Ko z7 (by simp) λg8 z8 e8=>?_
 replace z8:IsZip g8 z TI TO (rawInt g5.objs.size):=z8
 have up:∀c o,c≠z->g5.get? c=some o->g8.get? c=some o:=λc o c1 q=>e8.extBut _ _ c1 (e7.extBut _ _ c1 (JP _ q))
 have t8:IsPair g8 g5.objs.size x y:=e8.extBut _ _ (Nat.ne_of_gt DS) (e7.extBut _ _ (Nat.ne_of_gt DS) (JY _ rfl));rw[sz] at z8 t8;refine JQ ⟨_,rfl,JQ ?_⟩;show Q (some (.ref g5.objs.size)) _;rw[sz];exact hQ g8 z8 (up _ _ D.TOz t5) (n1.at λo q=>up _ o D.i1z q) (n2.at λo q=>up _ o D.i2z q) t8 λc o c1 c2 c3 c4 q=>up c o c1 (old c o c1 c2 c3 c4 q)
theorem vj {b1 b2:Bool} {z TI TO i1 i2 l1 l2:Addr} {k1 k2:Nat} {xs ys:Array Value} {a b:Value} {Q:Option Value->Shared->Prop} (hh:A.handled=none) (D:jH z TI TO i1 i2) (O1:cM z TO i1 i2 l1) (O2:cM z TO i1 i2 l2)
  (hz:IsZip s.heap z TI TO .none) (wj:IsPair s.heap TI (.ref i1) (.ref i2)) (zy:IsPair s.heap TO a b) (h1:aT b1 s.heap i1 l1 k1) (h2:aT b2 s.heap i2 l2 k2) (cP:cj b1 s.heap l1 xs) (eZ:cj b2 s.heap l2 ys) (qX:xs[k1]?=none\/ys[k2]?=none)
  (hQ:∀h',(∀c o,c≠z->c≠TO->c≠i1->c≠i2->s.heap.get? c=some o->h'.get? c=some o)->Q none {s with heap:=h'}):wpAny (model prog w) A (pyNext (.ref z)) Q E s:=by
 have hT:s.TypeIs (.ref z) "zip":=⟨_,hz,rfl⟩;unfold pyNext;refine JN (wpAny_attempt (wpAny_callSpecial?_slot (name:=Str.ofString "__next__") hT F.slot_zip_next (wpAny_call_entry F.slot_zip_next hT F.entry_zip_next ?_ (F.args_zip_next_1 _))));have stop:∀(h':Heap) (e:Addr),(∀c o,c≠z->c≠TO->c≠i1->c≠i2->s.heap.get? c=some o->h'.get? c=some o)->(∃o,h'.get? e=some o/\o.cls= .type "StopIteration")->wpAny (model prog w) A (isInstance (.ref e) (.type "StopIteration")) (λr s'=>r=true/\Q none s') E {s with heap:=h'}:=λh' e kk he=>by obtain⟨o,ho,hc⟩:=he;exact wpAny_isInstance (T:="StopIteration") (b:=true) ⟨o,ho,hc⟩ isSubtype_stop ⟨rfl,hQ _ kk⟩
 refine(show wpAny _ _ (field (.ref z) 2 >>=_) _ _ _ from JN (wpAny_field hz rfl (x:= .bool false) rfl (show wpAny _ _ (field (.ref z) 3 >>=_) _ _ _ from JN (wpAny_field hz rfl (x:= .ref TI) rfl (JN (wpAny_seqItems wj rfl (show wpAny _ _ (Builtin.SmallTypes.ownedTupleIsFree (.ref z) >>=_) _ _ _ from JN ?_)))))));unfold Builtin.SmallTypes.ownedTupleIsFree;refine JN (wpAny_field hz rfl (x:= .none) rfl (JQ ?_));simp only[if_true];refine JN (wpAny_rule (JN (wpAny_field hz rfl (x:= .ref TO) rfl (JN (Ko hz (by simp) λg1 z1 e1=>JN ?_)))))
 replace z1:IsZip g1 z TI TO .ellipsis:=z1
 simp only[List.zipIdx_cons,List.zipIdx_nil,List.forIn_cons,List.forIn_nil];refine JN (JN (wpAny_onRaise ?_));show wpAny _ _ (Builtin.SmallTypes.nextOf (.ref i1) >>=_) _ _ _;cases hx:xs[k1]? with
 | none=>
  refine JN (ej hh (h1.at λo q=>e1.extBut _ o D.i1z q) (cP.at λo q=>e1.extBut _ o O1.z q) hx λg2 e e2 he=>?_);obtain⟨oe,om,tL⟩:=he;have z2:IsZip g2 z TI TO .ellipsis:=e2 _ _ D.i1z.symm z1;have zD:e≠z:=λx=>by subst x;rw[z2] at om;cases om;simp at tL
  refine Ko z2 (by simp) λg3 _ e3=>?_
  refine JN (wpAny_mono (stop g3 e (λc o c1 _ c3 _ x=>e3.extBut _ _ c1 (e2 _ _ c3 (e1.extBut _ _ c1 x))) ⟨oe,e3.extBut _ _ zD om,tL⟩) (λr s' q=>?_) λ_ _ q=>q);obtain⟨rfl,q⟩:=q;exact JQ q
 | some x=>
  have hy:ys[k2]?=none:=by rcases qX with h | h;rw[hx] at h;cases h;exact h
  refine JN (bL (h1.at λo q=>e1.extBut _ o D.i1z q) (cP.at λo q=>e1.extBut _ o O1.z q) hx λg2 j1 e2=>JQ ?_);have t2:IsPair g2 TO a b:=e2.extBut _ _ D.TOi1 (e1.extBut _ _ D.TOz zy);refine JN (wpAny_seqItems t2 rfl (JN (wpAny_updateSeq_pair t2 λg3 t3 e3=>JN (wpAny_letGo (JQ ?_)))));refine JN (JN (wpAny_onRaise (show wpAny _ _ (Builtin.SmallTypes.nextOf (.ref i2) >>=_) _ _ _ from JN (ej hh (h2.at λo q=>e3.extBut _ o D.TOi2.symm (e2.extBut _ o D.i12.symm (e1.extBut _ o D.i2z q))) (eZ.at λo q=>e3.extBut _ o O2.o (e2.extBut _ o O2.a (e1.extBut _ o O2.z q))) hy λg4 e e4 he=>?_))));obtain⟨oe,om,tL⟩:=he;have z4:IsZip g4 z TI TO .ellipsis:=e4 _ _ D.i2z.symm (e3.extBut _ _ D.TOz.symm (e2.extBut _ _ D.i1z.symm z1));have zD:e≠z:=λx=>by subst x;rw[z4] at om;cases om;simp at tL
  refine Ko z4 (by simp) λg5 _ e5=>?_
  refine JN (wpAny_mono (stop g5 e (λc o c1 c2 c3 c4 x=>e5.extBut _ _ c1 (e4 _ _ c4 (e3.extBut _ _ c2 (e2.extBut _ _ c3 (e1.extBut _ _ c1 x))))) ⟨oe,e5.extBut _ _ zD om,tL⟩) (λr s' q=>?_) λ_ _ q=>q);obtain⟨rfl,q⟩:=q;exact JQ q
end
noncomputable def dy:Bool->Addr->Obj
 | false,l=>{cls:= .type "list_iterator",data:= .fields #[.ref l,.int 0 0]}
 | true,l=>{cls:= .type "tuple_iterator",data:= .fields #[.ref l,.int 0 0]}
theorem fI:∀{b:Bool} {h:Heap} {i l:Addr},h.get? i=some (dy b l)->aT b h i l 0
 | false,_,_,_,e=>⟨_,e,rfl,rfl⟩
 | true,_,_,_,e=>⟨_,e,rfl,rfl⟩
theorem ei (b:Bool) (l:Addr):(dy b l).isFreed=false:=by cases b <;> rfl
noncomputable abbrev Et (h:Heap) (b1:Bool) (l1:Addr):Heap:=h.push (dy b1 l1)
noncomputable abbrev Eu (h:Heap) (b1 b2:Bool) (l1 l2:Addr):Heap:=(Et h b1 l1).push (dy b2 l2)
noncomputable abbrev Ew (h:Heap) (b1 b2:Bool) (l1 l2:Addr):Heap:=(Eu h b1 b2 l1 l2).push {cls:= .type "tuple",data:= .seq #[.ref h.objs.size,.ref (Et h b1 l1).objs.size]}
noncomputable abbrev Ex (h:Heap) (b1 b2:Bool) (l1 l2:Addr):Heap:=(Ew h b1 b2 l1 l2).push {cls:= .type "tuple",data:= .seq #[.none,.none]}
noncomputable abbrev BC (h:Heap) (b1 b2:Bool) (l1 l2:Addr):Heap:=(Ex h b1 b2 l1 l2).push {cls:= .type "zip",data:= .fields #[.none,.bool false,.bool false,.ref (Eu h b1 b2 l1 l2).objs.size,.ref (Ew h b1 b2 l1 l2).objs.size]}
theorem cj.push {b:Bool} {h:Heap} {l:Addr} {xs:Array Value} (x:cj b h l xs) (o:Obj):cj b (h.push o) l xs:=x.at λ_ e=>JP _ e
theorem vk (b1 b2:Bool) (l1 l2:Addr) (xs ys:Array Value):
  Meets (Builtin.«zip.__new__» ⟨[.type "zip",.ref l1,.ref l2],[]⟩) (λ_ R s=>cj b1 s.heap l1 xs/\cj b2 s.heap l2 ys/\R (.ok (.ret (.ref (Ex s.heap b1 b2 l1 l2).objs.size))) {s with heap:=BC s.heap b1 b2 l1 l2}):=
 .of_wp λprog w A R s h=>by
  obtain⟨hp,g,d,tk,os⟩:=s;obtain⟨cP,eZ,h⟩:=h;have zP:=sub_zip;have zv:=eZ.push (dy b1 l1);cases b1 <;> cases b2
  ·have k1:Heap.IsList (Shared.heap ⟨hp,g,d,tk,os⟩) l1 xs:=cP;have k2:Heap.IsList (Shared.heap ⟨hp.push {cls:= .type "list_iterator",data:= .fields #[.ref l1,.int 0 0]},g,d,tk,os⟩) l2 ys:=zv
   wp_walk using wpAny_pyIter_list k1,wpAny_pyIter_list k2
   exact⟨_,rfl,h⟩
  ·have k1:Heap.IsList (Shared.heap ⟨hp,g,d,tk,os⟩) l1 xs:=cP;have k2:Heap.IsTuple (Shared.heap ⟨hp.push {cls:= .type "list_iterator",data:= .fields #[.ref l1,.int 0 0]},g,d,tk,os⟩) l2 ys:=zv
   wp_walk using wpAny_pyIter_list k1,wpAny_pyIter_tuple k2
   exact⟨_,rfl,h⟩
  ·have k1:Heap.IsTuple (Shared.heap ⟨hp,g,d,tk,os⟩) l1 xs:=cP;have k2:Heap.IsList (Shared.heap ⟨hp.push {cls:= .type "tuple_iterator",data:= .fields #[.ref l1,.int 0 0]},g,d,tk,os⟩) l2 ys:=zv
   wp_walk using wpAny_pyIter_tuple k1,wpAny_pyIter_list k2
   exact⟨_,rfl,h⟩
  ·have k1:Heap.IsTuple (Shared.heap ⟨hp,g,d,tk,os⟩) l1 xs:=cP;have k2:Heap.IsTuple (Shared.heap ⟨hp.push {cls:= .type "tuple_iterator",data:= .fields #[.ref l1,.int 0 0]},g,d,tk,os⟩) l2 ys:=zv
   wp_walk using wpAny_pyIter_tuple k1,wpAny_pyIter_tuple k2
   exact⟨_,rfl,h⟩
section
variable {prog:Program} {w:World} {A:Around} {E:Value->Shared->Prop} {s:Shared}
theorem qK {b1 b2:Bool} {l1 l2:Addr} {xs ys:Array Value} {Q:Value->Shared->Prop} (cP:cj b1 s.heap l1 xs) (eZ:cj b2 s.heap l2 ys)
  (h:∀h',IsZip h' (s.heap.objs.size + 4) (s.heap.objs.size + 2) (s.heap.objs.size + 3) .none->IsPair h' (s.heap.objs.size + 2) (.ref s.heap.objs.size) (.ref (s.heap.objs.size + 1))->IsPair h' (s.heap.objs.size + 3) .none .none->
   aT b1 h' s.heap.objs.size l1 0->aT b2 h' (s.heap.objs.size + 1) l2 0->(∀c o,s.heap.get? c=some o->h'.get? c=some o)->Q (.ref (s.heap.objs.size + 4)) {s with heap:=h'}):wpAny (model prog w) A (call (.type "zip") [.ref l1,.ref l2]) Q E s:=by
 refine callType_new F.called_zip (by decide) (F.typeCall_zip_2 _ _) (F.newCall_zip_2 _ _) (λobj=>F.args_object_init_3 obj _ _) F.entry_zip_new (vk b1 b2 l1 l2 xs ys) ⟨cP,eZ,?_⟩;have y1:(Et s.heap b1 l1).objs.size=s.heap.objs.size + 1:=Kl ..;have y2:(Eu s.heap b1 b2 l1 l2).objs.size=s.heap.objs.size + 2:=by rw[Kl,y1]
 have y3:(Ew s.heap b1 b2 l1 l2).objs.size=s.heap.objs.size + 3:=by rw[Kl,y2]
 have y4:(Ex s.heap b1 b2 l1 l2).objs.size=s.heap.objs.size + 4:=by rw[Kl,y3]
 have g5:(BC s.heap b1 b2 l1 l2).get? (Ex s.heap b1 b2 l1 l2).objs.size=some _:=JY _ rfl;have g4:(BC s.heap b1 b2 l1 l2).get? (Ew s.heap b1 b2 l1 l2).objs.size=some _:=JP _ (JY _ rfl);have g3:(BC s.heap b1 b2 l1 l2).get? (Eu s.heap b1 b2 l1 l2).objs.size=some _:=JP _ (JP _ (JY _ rfl));have g2:(BC s.heap b1 b2 l1 l2).get? (Et s.heap b1 l1).objs.size=some _:=JP _ (JP _ (JP _ (JY _ (ei b2 l2))));have g1:(BC s.heap b1 b2 l1 l2).get? s.heap.objs.size=some _:=JP _ (JP _ (JP _ (JP _ (JY _ (ei b1 l1)))));show _/\_;rw[y2,y3,y4] at g5;rw[y1,y2] at g3;rw[y3] at g4;rw[y1] at g2;rw[y4];exact⟨⟨_,g5,rfl⟩,h _ g5 g3 g4 (fI g1) (fI g2) λc o x=>JP _ (JP _ (JP _ (JP _ (JP _ x))))⟩
end
noncomputable def f6:Bool->List V->HO
 | false,xs=> .lst xs
 | true,xs=> .tup xs
theorem hU {b:Bool} {xs ys:List V} (h:f6 b xs=f6 b ys):xs=ys:=by
 cases b with
 | false=>injection h
 | true=>injection h
noncomputable def EF (b1 b2:Bool) (l1 l2:Addr):It where
 go:=λi H=>∃xs ys x y,H l1=some (f6 b1 xs)/\H l2=some (f6 b2 ys)/\xs[i]?=some x/\ys[i]?=some y
 yld:=λi H v H'=>∃p x y,v= .ref p/\H p=none/\H'=upd H p (.tup [x,y])/\∀xs ys,H l1=some (f6 b1 xs)->H l2=some (f6 b2 ys)->xs[i]?=some x/\ys[i]?=some y
 stop:=λi H=>∃xs ys,H l1=some (f6 b1 xs)/\H l2=some (f6 b2 ys)/\(xs.length<=i\/ys.length<=i)
theorem bB {X:Cx} {pins:List (Addr×Obj)} {s:Shared} {σ:L2.St} {H:Hp} (I:Inv X pins σ H s) {b:Bool} {l:Addr} {xs:List V} (h:H l=some (f6 b xs)):∃its:List Value,aq xs its/\cj b s.heap l its.toArray:=by
 cases b with
 | false=>obtain⟨its,r,p,_⟩:=I.list (.inl (.inl h));exact⟨its,r,p.isList⟩
 | true=>obtain⟨its,r,p,_⟩:=I.tuple (.inl (.inl h));exact⟨its,r,p⟩
noncomputable def Ju (b1 b2:Bool) (z TI TO i1 i2 l1 l2:Addr) (i:Nat) (h:Heap):Prop:=IsZip h z TI TO .none/\IsPair h TI (.ref i1) (.ref i2)/\(∃a b,IsPair h TO a b)/\aT b1 h i1 l1 i/\aT b2 h i2 l2 i
theorem rM {P:Program} {w:World} {K:PySem.W.Frag} {es:List Expr} {k:Nat} {tp:Pos} {b1 b2:Bool} {z TI TO i1 i2 l1 l2:Addr} (ap:jH z TI TO i1 i2):
  Turn P w K (.Tuple es k tp) (EF b1 b2 l1 l2) [z,TI,TO,i1,i2] z (Ju b1 b2 z TI TO i1 i2 l1 l2) where
 mem:=by simp
 obj:=λi h st b hb=>by
  obtain⟨s1,s2,⟨a,b',s3⟩,s4,s5⟩:=st;simp only[J3,J4,or_false] at hb;rcases hb with rfl | rfl | rfl | rfl | rfl
  ·exact⟨_,s1,λv q=>by cases q⟩
  ·exact⟨_,s2,λv q=>by cases q⟩
  ·exact⟨_,s3,λv q=>by cases q⟩
  ·exact s4.obj
  ·exact s5.obj
 keep:=λi h h' st kk=>by obtain⟨s1,s2,⟨a,b',s3⟩,s4,s5⟩:=st;exact⟨kk z (by simp) _ s1,kk TI (by simp) _ s2,⟨a,b',kk TO (by simp) _ s3⟩,s4.at λo e=>kk i1 (by simp) o e,s5.at λo e=>kk i2 (by simp) o e⟩
 item:=by
  intro X hP hw hK hc i pins s σ H E I hf st hg;subst hP hw hK;obtain⟨xs,ys,x,y,cP,eZ,hx,hy⟩:=hg;obtain⟨s1,s2,⟨a,b',s3⟩,s4,s5⟩:=st;obtain⟨bM,r1,p1⟩:=bB I cP;obtain⟨aB,r2,p2⟩:=bB I eZ;obtain⟨u1,pQ,C9⟩:=r1.get hx;obtain⟨u2,IP,Jg⟩:=r2.get hy;have ne:∀{l:Addr} {o:HO},H l=some o->∀b∈[z,TI,TO,i1,i2],l≠b:=λ {l o} hl b hb e=>by subst e;rw[(hf l hb).1] at hl;cases hl
  have off:∀{l:Addr} {o:HO},H l=some o->cM z TO i1 i2 l:=λ {l o} hl=>⟨ne hl z (by simp),ne hl TO (by simp),ne hl i1 (by simp),ne hl i2 (by simp)⟩
  refine rO ap (off cP) (off eZ) s1 s2 s3 s4 s5 p1 p2 (by simpa using pQ) (by simpa using IP) λh' a1 a2 a3 a4 a5 a7=>⟨_,rfl,?_⟩
  refine wpAny_letOwnedTupleGo_zip (s:={s with heap:=h'}) a1 λh2 c1 c2=>?_
  have B7:s.heap.objs.size≠z:=λe=>by have:=J0 s1;rw[<-e] at this;exact Nat.lt_irrefl _ this
  have zx:IsPair h2 TI (.ref i1) (.ref i2):=(c2.2 TI ap.TIz).trans (a7 TI _ ap.TIz ap.TITO ap.TIi1 ap.TIi2 s2);have B5:h2.get? s.heap.objs.size=some {cls:= .type "tuple",data:= .seq #[u1,u2]}:=(c2.2 _ B7).trans a5;have kk:∀b o,b∉[z,TI,TO,i1,i2]->s.heap.get? b=some o->h2.get? b=some o:=λb o hb e=>by simp only[J3,J4,or_false,not_or] at hb;exact(c2.2 b hb.1).trans (a7 b o hb.1 hb.2.2.1 hb.2.2.2.1 hb.2.2.2.2 e)
  have lt:∀{b:Addr} {o:Obj},s.heap.get? b=some o->b≠s.heap.objs.size:=λe=>Km (J0 e)
  have gS:∀b u,H b=some u->b∉[z,TI,TO,i1,i2]:=λb u e hb=>by rw[(hf b hb).1] at e;cases e
  have gf:H s.heap.objs.size=none:=I.fresh;have I2:Inv X pins σ (upd H s.heap.objs.size (.tup [x,y])) {s with heap:=h2,toks:=s.toks}:=by
   refine I.step (g':=s.gens) (d':=s.drawn) (ch:=[z,TI,TO,i1,i2]) (λb hb=>⟨(hf b hb).2.2.2.1,(hf b hb).2.1,(hf b hb).2.2.2.2.1,(hf b hb).2.2.2.2.2⟩) (λb o _ _ hb e _=>kk b o hb e) (λb o _ _ hb e _=>⟨o.slots,kk b o hb e⟩)
    (λb o hb e n=>by rw[ah (lt e)];exact n) (λb o hb e=>⟨o,kk b o hb e⟩) (λb zs e=>by rw[ah (ak e gf)];exact e) (λb o u e=>by rw[ah (ak e gf)];exact e)
    (λb ps e=>⟨#[],by rw[ah (ak e gf),e];simp⟩) (λm hm=>?_) (λb u e=>?_) I.bare
   ·obtain⟨o,cc,ep,ho,rr⟩:=hm;exact⟨o,cc,ep,kk _ o (λhb=>(hf _ hb).2.1 rfl) ho,rr⟩
   ·by_cases hb:b=s.heap.objs.size
    ·subst hb;rw[ar] at e;cases e;exact⟨by show 2<=sizeLine;decide,[u1,u2],.cons C9 (.cons Jg .nil),_,B5,rfl,0,rfl⟩
    ·rw[ah hb] at e;refine(I.hok b u e).fX (λc v hc q=>kk c v ?_ q) (λc q=>by rw[ah (ak q gf)];exact q) λc zs q=>by rw[ah (ak q gf)];exact q
     rcases hc with rfl | hc
     ·exact gS c u e
     ·exact gS c _ hc
  refine⟨.ref s.heap.objs.size,_,I2,rfl,⟨s.heap.objs.size,x,y,rfl,gf,rfl,λez Es q1 q2=>?_⟩,⟨c1,zx,⟨u1,u2,(c2.2 TO ap.TOz).trans a2⟩,a3.at λo e=>(c2.2 i1 ap.i1z).trans e,a4.at λo e=>(c2.2 i2 ap.i2z).trans e⟩,λb hb=>?_⟩
  ·rw[cP] at q1;rw[eZ] at q2;rw[hU (Option.some.inj q1).symm,hU (Option.some.inj q2).symm];exact⟨hx,hy⟩
  ·rw[ah (λe=>?_)]
   ·exact(hf b hb).1
   ·have q:∃o,s.heap.get? b=some o:=by
     simp only[J3,J4,or_false] at hb;rcases hb with rfl | rfl | rfl | rfl | rfl
     ·exact⟨_,s1⟩
     ·exact⟨_,s2⟩
     ·exact⟨_,s3⟩
     ·obtain⟨o,e,_⟩:=s4.obj;exact⟨o,e⟩
     ·obtain⟨o,e,_⟩:=s5.obj;exact⟨o,e⟩
    obtain⟨o,q⟩:=q;exact lt q e
 done:=by
  intro X hP hw hK hc i pins s σ H E I hf st hg;subst hP hw hK;obtain⟨xs,ys,cP,eZ,qX⟩:=hg;obtain⟨s1,s2,⟨a,b',s3⟩,s4,s5⟩:=st;obtain⟨bM,r1,p1⟩:=bB I cP;obtain⟨aB,r2,p2⟩:=bB I eZ;have ne:∀{l:Addr} {o:HO},H l=some o->∀b∈[z,TI,TO,i1,i2],l≠b:=λ {l o} hl b hb e=>by subst e;rw[(hf l hb).1] at hl;cases hl
  have off:∀{l:Addr} {o:HO},H l=some o->cM z TO i1 i2 l:=λ {l o} hl=>⟨ne hl z (by simp),ne hl TO (by simp),ne hl i1 (by simp),ne hl i2 (by simp)⟩
  have e1:=r1.length;have e2:=r2.length;refine vj (I.ok.hd hc) ap (off cP) (off eZ) s1 s2 s3 s4 s5 p1 p2 (by simp;lia) λh' kk=>⟨rfl,?_⟩
  have gS:∀b u,H b=some u->b∉[z,TI,TO,i1,i2]:=λb u e hb=>by rw[(hf b hb).1] at e;cases e
  have gQ:∀b o,b∉[z,TI,TO,i1,i2]->s.heap.get? b=some o->h'.get? b=some o:=λb o hb e=>by simp only[J3,J4,or_false,not_or] at hb;exact kk b o hb.1 hb.2.2.1 hb.2.2.2.1 hb.2.2.2.2 e
  refine I.step (g':=s.gens) (d':=s.drawn) (t':=s.toks) (h':=h') (ch:=[z,TI,TO,i1,i2]) (λb hb=>⟨(hf b hb).2.2.2.1,(hf b hb).2.1,(hf b hb).2.2.2.2.1,(hf b hb).2.2.2.2.2⟩) (λb o _ _ hb e _=>gQ b o hb e) (λb o _ _ hb e _=>⟨o.slots,gQ b o hb e⟩)
   (λb o hb e n=>n) (λb o hb e=>⟨o,gQ b o hb e⟩) (λb zs e=>e) (λb o u e=>e) (λb ps e=>⟨#[],by rw[e];simp⟩) (λm hm=>?_) (λb u e=>?_) I.bare
  ·obtain⟨o,cc,ep,ho,rr⟩:=hm;exact⟨o,cc,ep,gQ _ o (λhb=>(hf _ hb).2.1 rfl) ho,rr⟩
  ·refine(I.hok b u e).fX (λc v hc q=>gQ c v ?_ q) (λc q=>q) λc zs q=>q
   rcases hc with rfl | hc
   ·exact gS c u e
   ·exact gS c _ hc
 self:=λ_ _ _ _ _ st h=>wpAny_pyIter_zip st.1 h
noncomputable def Cz (ta:TA):TI:=λσ H R=>ta σ H λvs H1=>∃b1 b2 l1 l2 xs ys,vs=[.ref l1,.ref l2]/\H1 l1=some (f6 b1 xs)/\H1 l2=some (f6 b2 ys)/\R (EF b1 b2 l1 l2) H1
theorem xl {X:Cx} {es:List Expr} {k:Nat} {tp:Pos} {a b:Expr} {ta:TA} {p pos:Pos} (hg:Gl X "zip") (hm:X.mg "zip"=none) (ha:PA X [a,b] ta) (hs:starEach [a,b] X.env=[(false,eval a X.env),(false,eval b X.env)]:=by rfl) (gO:starEach [b] X.env=[(false,eval b X.env)]:=by rfl):
  PI X (.Tuple es k tp) (.Call (.Name "zip" p) [a,b] [] pos) (Cz ta):=by
 intro pins s σ H R I h;refine Call_ (b7 I hg hm boot_zip (PyProof.Rows.callWith_type1 (bo (ha pos pins s σ H _ I h) λus s1 ⟨vs,H1,I1,r1,q1⟩=>?_) (by rw[hs,gO]) (by rw[gO];rfl)));obtain⟨b1,b2,l1,l2,xs,ys,e,e1,e2,q⟩:=q1;subst e;obtain⟨u,v,rfl,ru,rv⟩:=r1.two;cases ru;cases rv;obtain⟨bM,_,p1⟩:=bB I1 e1;obtain⟨aB,_,p2⟩:=bB I1 e2;refine qK p1 p2 λh' g1 g2 g3 g4 g5 kk=>?_
 refine wpAny_pyIter_zip (s:={s1 with heap:=h'}) g1 ?_;have I2:Inv X pins σ H1 {s1 with heap:=h'}:=I1.kept (t':=s1.toks) kk;refine⟨s1.heap.objs.size + 4,[s1.heap.objs.size + 4,s1.heap.objs.size + 2,s1.heap.objs.size + 3,s1.heap.objs.size,s1.heap.objs.size + 1],_,_,H1,rfl,I2,rM (l1:=l1) (l2:=l2) ⟨?_,?_,?_,?_,?_,?_,?_,?_,?_,?_⟩,⟨g1,g2,⟨_,_,g3⟩,g4,g5⟩,λb hb=>?_,q⟩
 iterate 10 (first | (apply Km;lia) | (apply Nat.ne_of_gt;lia))
 have jB:s1.heap.objs.size<=b:=by simp only[J3,J4,or_false] at hb;rcases hb with h | h | h | h | h <;> (rw[h];first | exact Nat.le_add_right _ _ | exact JW _)
 exact I1.kQ jB (I1.hok.fresh jB)
end Mx
end
section
namespace Mx
open PySem PySem.Spec PyProof.Rows L2 PySem.SeqAt
noncomputable def kz (h:Heap):Hp:=λa=>open Classical in
 if hx:∃xs:List V,∃its:List Value,xs.length<=sizeLine/\aq xs its/\h.IsTuple a its.toArray then some (.tup hx.choose) else none
theorem jI {h:Heap} {a:Addr} {o:HO} (e:kz h a=some o):∃xs its,o= .tup xs/\xs.length<=sizeLine/\aq xs its/\h.IsTuple a its.toArray:=by
 unfold kz at e;split at e
 ·rename_i hx;cases e;obtain⟨its,h1⟩:=hx.choose_spec;exact⟨_,its,rfl,h1⟩
 ·cases e
theorem pf {h:Heap} {a:Addr} {xs:List V} {its:List Value} (h1:xs.length<=sizeLine) (h2:aq xs its) (h3:h.IsTuple a its.toArray):kz h a=some (.tup xs):=by
 have hx:∃xs:List V,∃its:List Value,xs.length<=sizeLine/\aq xs its/\h.IsTuple a its.toArray:=⟨xs,its,h1,h2,h3⟩;unfold kz;rw[dif_pos hx];obtain⟨its',g1,g2,g3⟩:=hx.choose_spec;obtain⟨o,e1,_,n,e2⟩:=h3;obtain⟨o',f1,_,n',f2⟩:=g3;rw[e1] at f1;cases f1;rw[e2] at f2;injection f2 with f3 _;have:its=its':=by simpa using f3
 subst this;rw[aq.inj g2 h2]
section
variable {P:Program} {w:World} {H:Hp} {s:Shared}
theorem kA (h:Heap):cG P w (kz h) h:=λa o e=>by obtain⟨xs,its,rfl,h1,h2,h3⟩:=jI e;exact⟨h1,its,h2,h3⟩
theorem f9 {h:Heap} (hok:cG P w H h):nB H (kz h):=λa xs e=>by obtain⟨h1,its,h2,h3⟩:=hok a _ e;exact pf h1 h2 h3
theorem qH {h h':Heap} (hk:∀a its,h.IsTuple a its->h'.IsTuple a its):nB (kz h) (kz h'):=λa xs e=>by obtain⟨_,its,q,h1,h2,h3⟩:=jI e;cases q;exact pf h1 h2 (hk _ _ h3)
end
theorem ite_no {M:Model} {A:Around} {E:Value->Shared->Prop} {s:Shared} {α:Type} {c:Prop} [Decidable c] {a b:Sem α} {Q:α->Shared->Prop} (hc:¬c) (h:wpAny M A b Q E s):wpAny M A (if c then a else b) Q E s:=by rw[if_neg hc];exact h
theorem ite_yes {M:Model} {A:Around} {E:Value->Shared->Prop} {s:Shared} {α:Type} {c:Prop} [Decidable c] {a b:Sem α} {Q:α->Shared->Prop} (hc:c) (h:wpAny M A a Q E s):wpAny M A (if c then a else b) Q E s:=by rw[if_pos hc];exact h
mutual
noncomputable def hD (w:World):D->Int
 | .int i=>zY w (.inl i)
 | .str x=>zY w (.inr x)
 | .tup ds=>reduceHash (Builtin.Tuple.tupleHashOf (zu w ds))
noncomputable def zu (w:World):List D->List Int
 | []=>[]
 | d::ds=>hD w d::zu w ds
end
mutual
noncomputable def D3:D->Nat
 | .int _=>1
 | .str _=>1
 | .tup ds=>kM ds + 1
noncomputable def kM:List D->Nat
 | []=>0
 | d::ds=>D3 d + kM ds
end
theorem iT (w:World):∀a b:List D,zu w (a++b)=zu w a++zu w b
 | [],_=>rfl
 | d::a,b=>by simp[zu,iT w a b]
theorem gE:∀a b:List D,kM (a++b)=kM a + kM b
 | [],b=>by simp[kM]
 | d::a,b=>by simp[kM,gE a b,Nat.add_assoc]
theorem gC:∀a b:List D,D.bp (a++b)=max (D.bp a) (D.bp b)
 | [],b=>by simp[D.bp]
 | d::a,b=>by simp[D.bp,gC a b,Nat.max_assoc]
section
variable {prog:Program} {w:World} {H:Hp}
theorem tK {a:Addr} {its:List Value} {A:Around} {E:Value->Shared->Prop} {s:Shared} {Q:Int->Shared->Prop} (hu:A.units < cLine) (ht:s.heap.IsTuple a its.toArray) (J:List Value->List Int->Shared->Prop) (h0:J its [] s)
  (step:∀{E:Value->Shared->Prop} v rest out s1 (R:Int->Shared->Prop),J (v::rest) out s1->(∀k s2,J rest (out++[k]) s2->R k s2)->wpAny (model prog w) A.in1 (pyHash v) R E s1)
  (last:∀out s1,J [] out s1->Q (reduceHash (Builtin.Tuple.tupleHashOf out)) {s1 with toks:=s1.toks + 1}):wpAny (model prog w) A (pyHash (.ref a)) Q E s:=by
 obtain⟨o,ho,hc,n',qW⟩:=ht;have ty:s.TypeIs (.ref a) "tuple":=⟨o,ho,hc⟩;have look:=PySem.F.slot_tuple_hash.lookup;unfold pyHash pyHashByItsType;refine JN (wpAny_cRoomFor_or (.inr hu) (JN (wpAny_specialOf ty look ?_)));have ne:¬(some (Value.builtin "tuple.__hash__")==some Value.none)=true:=λz=>by rw[beq_builtin_none] at z;cases z
 refine ite_no ne (JN (wpAny_specialOf ty look (JN (wpAny_callSpecialIfBoundUnlessNone?_slot ty PySem.F.slot_tuple_hash (wpAny_call_entry PySem.F.slot_tuple_hash ty PySem.F.entry_tuple_hash ?_ (PySem.F.args_tuple_hash_1 _))))));refine JN (m:=Builtin.Tuple.tupleItemsOf (.ref a)) (wpAny_tupleItemsOf ho qW (JN ?_));rw[<-Array.forIn_toList];refine wpAny_forIn_list _ (λrest (b:Array Int) s'=>J rest b.toList s') _ (λv rest b s1 j=>?_) (λb s1 j=>?_) _ _ h0
 ·refine JN (step v rest _ s1 _ j λk s2 j2=>?_);have j3:J rest (b.push k).toList s2:=by rw[Array.toList_push];exact j2
  first | exact JQ j3 | exact JN (JQ (JQ j3))
 ·have q:=last _ _ j;unfold reduceHash at q;refine wpAny_ret_mkInt ?_;by_cases hr:(decide (-(2:Int) ^ 63<=Builtin.Tuple.tupleHashOf b.toList)&&decide (Builtin.Tuple.tupleHashOf b.toList < 2 ^ 63))=true
  ·rw[if_pos hr] at q;exact ite_yes hr (JQ q)
  ·rw[if_neg hr] at q;exact ite_no hr (JN (wpAny_rule (JQ q)))
theorem qT:∀(n:Nat) {d:D} {x:V} {u:Value} {A:Around} {E:Value->Shared->Prop} {s:Shared} {Q:Int->Shared->Prop},D.dep d<=n->A.units + n < cLine->cG prog w H s.heap->DV H x d->RelV x u->
  Q (hD w d) {s with toks:=s.toks + D3 d}->wpAny (model prog w) A (pyHash u) Q E s:=by
 intro n
 induction n with
 | zero=>
  intro d x u A E s Q hd hu hok hx rx h;cases d with
  | int i=>have:=hx.int_inv;subst this;obtain⟨t,rfl⟩:=rx;exact(dq prog w).pyHash (mz prog w i t) h
  | str i=>have:=hx.str_inv;subst this;obtain⟨t,rfl⟩:=rx;exact(dq prog w).pyHash (mB prog w i t) h
  | tup ds=>unfold D.dep at hd;lia
 | succ n ih=>
  intro d x u A E s Q hd hu hok hx rx h;cases d with
  | int i=>exact ih (d:= .int i) (by unfold D.dep;lia) (by lia) hok hx rx h
  | str i=>exact ih (d:= .str i) (by unfold D.dep;lia) (by lia) hok hx rx h
  | tup ds=>
   obtain⟨a,xs,q,e1,e2⟩:=hx.ae;subst q;cases rx;obtain⟨its,r1,ht⟩:=au hok e1;have kT:D.bp ds<=n:=by unfold D.dep at hd;lia
   refine tK (by lia) ht (λrest out s'=>∃done left ys,ds=done++left/\aC H ys left/\aq ys rest/\out=zu w done/\s'={s with toks:=s.toks + kM done}) ⟨[],ds,xs,rfl,e2,r1,rfl,rfl⟩ ?_ ?_
   ·rintro E' v rest out s1 R ⟨done,left,ys,rfl,hl,hr,rfl,rfl⟩ k;cases hr with
    | @cons y1 _ GJ _ r2 t2=>
     cases left with
     | nil=>cases hl.nil_inv
     | cons d1 left=>
      obtain⟨_,_,q,g1,g2⟩:=hl.cons_inv;cases q;have hm:max (D.bp done) (max (D.dep d1) (D.bp left))<=n:=by rw[gC] at kT;exact kT
      exact ih (d:=d1) (by lia) (show A.units + 1 + n < cLine by lia) hok g1 r2
       (k _ _ ⟨done++[d1],left,GJ,by rw[J5];rfl,g2,t2,by rw[iT];rfl,by rw[gE];simp[kM,Nat.add_assoc]⟩)
   ·rintro out s1 ⟨done,left,ys,rfl,hl,hr,rfl,rfl⟩;cases hr;cases left with
    | cons d1 left=>obtain⟨_,_,q,_⟩:=hl.cons_inv;cases q
    | nil=>rw[Ku,hD,D3] at h;simpa [Nat.add_assoc] using h
theorem oQ:∀(n:Nat) {d:D} {x:V} {u:Value} {A:Around} {E:Value->Shared->Prop} {s:Shared} {Q:Bool->Shared->Prop},D.dep d<=n->cG prog w H s.heap->DV H x d->RelV x u->
  Q true s->wpAny (model prog w) A (eqIsQuiet n u) Q E s:=by
 intro n
 induction n with
 | zero=>
  intro d x u A E s Q hd hok hx rx h;cases d with
  | int i=>have:=hx.int_inv;subst this;obtain⟨t,rfl⟩:=rx;rw[eqIsQuiet_byValue _ rfl];exact JQ h
  | str i=>have:=hx.str_inv;subst this;obtain⟨t,rfl⟩:=rx;rw[eqIsQuiet_byValue _ rfl];exact JQ h
  | tup ds=>unfold D.dep at hd;lia
 | succ n ih=>
  intro d x u A E s Q hd hok hx rx h;cases d with
  | int i=>have:=hx.int_inv;subst this;obtain⟨t,rfl⟩:=rx;rw[eqIsQuiet_byValue _ rfl];exact JQ h
  | str i=>have:=hx.str_inv;subst this;obtain⟨t,rfl⟩:=rx;rw[eqIsQuiet_byValue _ rfl];exact JQ h
  | tup ds=>
   obtain⟨a,xs,q,e1,e2⟩:=hx.ae;subst q;cases rx;obtain⟨its,r1,o,ho,hc,n',qW⟩:=au hok e1;have ty:s.TypeIs (.ref a) "tuple":=⟨o,ho,hc⟩;have kT:D.bp ds<=n:=by unfold D.dep at hd;lia
   have nf:¬((!true)=true):=λz=>by cases z
   unfold eqIsQuiet;refine JN (wpAny_specialOf ty PySem.F.slot_tuple_eq.lookup (JN (m:=isInstance (.ref a) (.type "tuple")) (wpAny_isInstance ty isSubtype_tuple_tuple (ite_no nf (JN (wpAny_seqItems ho qW (JN ?_)))))));show wpAny _ _ (forIn its.toArray _ _) _ _ s;rw[<-Array.forIn_toList];refine wpAny_forIn_list _ (λrest r s'=>r.1=none/\s'=s/\∃left ys,D.bp left<=n/\aC H ys left/\aq ys rest) _ ?_ (λr s' j=>?_) _ _ ⟨rfl,rfl,ds,xs,kT,e2,r1⟩
   ·rintro v rest r s' ⟨hr,rfl,left,ys,hl,Fv,hv⟩;cases hv with
    | @cons y1 _ GJ _ r2 t2=>
     cases left with
     | nil=>cases Fv.nil_inv
     | cons d1 left=>obtain⟨_,_,q,g1,g2⟩:=Fv.cons_inv;cases q;have vC:max (D.dep d1) (D.bp left)<=n:=hl;exact JN (ih (d:=d1) (by lia) hok g1 r2 (ite_no nf (JQ ⟨rfl,rfl,left,GJ,by lia,g2,t2⟩)))
   ·obtain⟨jn,rfl,_⟩:=j;obtain⟨ra,rb⟩:=r;cases (show ra=none from jn);exact JQ h
end
noncomputable def cq (prog:Program) (w:World):HeapKind prog w D where
 is:=λh d a=>DV (kz h) (.ref a) d/\D.dep d<=8
 hash:=hD w
 draws:=D3
 room:=λA=>A.units + 8 < cLine
 inj:=λhx hy=>hx.1.inj hy.1
 keeps:=λ {h h' k a d o es ep} x ho hd hs=>⟨x.1.mono (qH λb its hb=>by
  obtain⟨ob,e1,e2,n,e3⟩:=hb;have nr:b≠d:=by rintro rfl;rw[ho] at e1;cases e1;rw[hd] at e3;cases e3
  exact⟨ob,(hs.2 b nr).trans e1,e2,n,e3⟩),x.2⟩
 pyHash:=λhu hk h=>qT 8 hk.2 hu (kA _) hk.1 rfl h
 eqBool:=λhu hx hy h=>by have:=eq_data (kA (P:=prog) (w:=w) _) 8 _ _ _ _ _ _ _ hx.2 hu hx.1 hy.1 rfl rfl;rw[D.fy] at this;exact this _ _ _ _ h
 quiet:=λhk h=>oQ 8 hk.2 (kA _) hk.1 rfl h
noncomputable abbrev Ent:=List (D×Addr×V)
noncomputable def bX:Ent->List (D×Addr×Value)->Prop:=Paired λp q=>p.1=q.1/\p.2.1=q.2.1/\RelV p.2.2 q.2.2
noncomputable def EZ (P:Program) (w:World) (a:Addr) (xs:Ent) (h:Heap):Prop:=
 (a==sysModules)=false/\∃ys,bX xs ys/\∃o es ep,h.get? a=some o/\o.ExactDict/\o.data= .dict es ep/\es.toList=ys.map (entryOfKey (cq P w))
noncomputable def cL (P:Program) (w:World) (a:Addr) (xs:Ent):HO:= .ext (EZ P w a xs)
structure cX (H:Hp) (xs:Ent):Prop where
 key:∀x∈xs,DV H (.ref x.2.1) x.1/\D.dep x.1<=8
 nd:(xs.map (·.1)).Nodup
 len:xs.length<=sizeLine
noncomputable def rT (xs:Ent) (d:D):Option V:=(xs.find? λx=>decide (x.1=d)).map (·.2.2)
noncomputable def mO (xs:Ent) (d:D) (a:Addr) (v:V):Ent:=if (rT xs d).isSome then xs.map λx=>if x.1=d then(x.1,x.2.1,v) else x else xs++[(d,a,v)]
theorem bX.keys {xs:Ent} {ys:List (D×Addr×Value)} (r:bX xs ys):xs.map (·.1)=ys.map (·.1)/\xs.map (·.2.1)=ys.map (·.2.1):=by
 unfold bX at r
 induction r with
 | nil=>exact⟨rfl,rfl⟩
 | cons h _ ih=>simp only[Ky,h.1,h.2.1,ih.1,ih.2];exact⟨trivial,trivial⟩
theorem bX.length {xs:Ent} {ys:List (D×Addr×Value)} (r:bX xs ys):xs.length=ys.length:=Paired.length r
theorem bX.key {xs:Ent} {ys:List (D×Addr×Value)} (r:bX xs ys):∀y∈ys,∃x∈xs,x.1=y.1/\x.2.1=y.2.1:=by
 unfold bX at r
 induction r with
 | nil=>intro y hy;cases hy
 | cons h _ ih=>
  intro y hy;rcases J3.mp hy with rfl | hy
  ·exact⟨_,JX,h.1,h.2.1⟩
  ·obtain⟨x,h1,h2⟩:=ih y hy;exact⟨x,JV _ h1,h2⟩
theorem bX.at {xs:Ent} {ys:List (D×Addr×Value)} (r:bX xs ys) (d:D):vK (rT xs d) ((atKey ys d).map (·.2)):=by
 unfold bX at r;unfold rT atKey
 induction r with
 | nil=>exact trivial
 | @cons p q _ _ h _ ih=>
  rw[List.find?_cons,List.find?_cons,h.1];cases e:decide (q.1=d) with
  | true=>exact h.2.2
  | false=>exact ih
theorem bX.uU {xs:Ent} {ys:List (D×Addr×Value)} (r:bX xs ys) (d:D):(rT xs d).isSome=(atKey ys d).isSome:=by have:=r.at d;cases h1:rT xs d <;> cases h2:atKey ys d <;> rw[h1,h2] at this <;> first | rfl | exact this.elim
theorem bX.put {xs:Ent} {ys:List (D×Addr×Value)} (r:bX xs ys) (d:D) (a:Addr) {v:V} {u:Value} (rv:RelV v u):bX (mO xs d a v) (storedH ys d a u):=by
 unfold mO storedH;rw[r.uU d];by_cases hs:(atKey ys d).isSome=true
 ·rw[if_pos hs,if_pos hs];clear hs;unfold bX at r ⊢
  induction r with
  | nil=>exact .nil
  | @cons p q _ _ h _ ih=>
   refine .cons ?_ ih;unfold putAt;by_cases e:q.1=d
   ·rw[if_pos e];dsimp only;rw[if_pos (h.1.trans e)];exact⟨h.1,h.2.1,rv⟩
   ·rw[if_neg e];dsimp only;rw[if_neg λz=>e (h.1.symm.trans z)];exact h
 ·rw[if_neg hs,if_neg hs];clear hs;unfold bX at r ⊢
  induction r with
  | nil=>exact .cons ⟨rfl,rfl,rv⟩ .nil
  | cons h _ ih=>exact .cons h ih
section
variable {P:Program} {w:World} {H:Hp} {h:Heap} {a:Addr} {xs:Ent}
theorem sS (hok:cG P w H h) (e:H a=some (cL P w a xs)) (k:cX H xs):∃ys,bX xs ys/\h.DictOfH (cq P w) a ys/\(a==sysModules)=false:=by obtain⟨⟨sm,ys,r,o,es,ep,h1,h2,h3,h4⟩,_⟩:=hok a _ e;refine⟨ys,r,⟨o,es,ep,h1,h2,h3,h4,λy hy=>?_,r.keys.1▸k.nd⟩,sm⟩;obtain⟨x,m,e1,e2⟩:=r.key y hy;obtain⟨k1,k2⟩:=k.key x m;rw[<-e1,<-e2];exact⟨k1.mono (f9 hok),k2⟩
theorem sU {ys:List (D×Addr×Value)} (r:bX xs ys) (hm:h.DictOfH (cq P w) a ys) (sm:(a==sysModules)=false):bq P w H h a (cL P w a xs):=by obtain⟨o,es,ep,h1,h2,h3,h4,_⟩:=hm;refine⟨⟨sm,ys,r,o,es,ep,h1,h2,h3,h4⟩,⟨o,h1⟩,?_⟩;rintro g1 g2 ⟨sm,ys,r,o,es,ep,e1,e2⟩ kk;exact⟨sm,ys,r,o,es,ep,kk _ e1,e2⟩
end
section
variable {X:Cx}
noncomputable def yC (P:Program) (w:World):TE:=λ_ H Q=>∀p,H p=none->Q (.ref p) (upd H p (cL P w p []))
theorem xg {pos:Pos}:PE X (.Dict [] [] pos) (yC X.prog X.w):=λpins s σ H Q I h=>by have hb:(s.heap.objs.size==sysModules)=false:=beq_eq_false_iff_ne.mpr (Ne.symm (Km (Nat.lt_trans (by decide) (I.mod.glob.keeps I.bk).lt)));exact wpAny_Dict_empty ⟨.ref s.heap.objs.size,_,I.laid (a:=s.heap.objs.size) (o:=cL X.prog X.w s.heap.objs.size []) (t':=s.toks) (λ_ _ q=>JP _ q) (JW _) (sU .nil (Heap.DictOfH.new _) hb),rfl,h _ (I.hok.fresh (JW _))⟩
noncomputable def yw (P:Program) (w:World):V->V->V->Hp->(Hp->Prop)->Prop:=λo i v H Q=>∃p xs d a,o= .ref p/\i= .ref a/\H p=some (cL P w p xs)/\cX H xs/\DV H (.ref a) d/\D.dep d<=8/\Q (upd H p (cL P w p (mO xs d a v)))
theorem xE (hu:X.A.units + 20 < cLine):yQ X (yw X.prog X.w):=by intro pins s σ H o i v ov iv u Q I ro ri rv h;obtain⟨p,xs,d,a,rfl,rfl,hp,hk,hd,nq,q⟩:=h;cases ro;cases ri;obtain⟨ys,r,hm,sm⟩:=sS I.hok hp hk;refine wpAny_setItem_heap (knd:=cq X.prog X.w) (show X.A.units + 1 + 8 < cLine by lia) (k:=d) ⟨hd.mono (f9 I.hok),nq⟩ hm (λh' hm' hs=>?_) (by rw[<-r.length];exact hk.len);refine⟨_,I.write (x:=p) (e:=p) (o:=cL X.prog X.w p (mO xs d a v)) (by rw[hp];trivial) (.inl rfl) (λb ob hb e=>(hs.2 b hb).trans e) ?_ (sU (r.put d a rv) hm' sm),q⟩;obtain⟨ob,_,_,e,_⟩:=hm';exact⟨ob,e⟩
noncomputable def C6 (P:Program) (w:World):V->List V->Hp->VK->Prop:=λx vs H Q=>∃p xs d a v,x= .ref p/\vs=[.ref a,v]/\H p=some (cL P w p xs)/\cX H xs/\DV H (.ref a) d/\D.dep d<=8/\Q ((rT xs d).getD v) H
theorem wR (hu:X.A.units + 20 < cLine):D0 X "dict.get" (C6 X.prog X.w):=by
 intro pins s σ H x vs v us Q I rx rv h;obtain⟨p,xs,d,a,y,rfl,rfl,hp,hk,hd,nq,q⟩:=h;cases rx;obtain⟨u1,u2,rfl,r1,r2⟩:=rv.two;cases r1;obtain⟨ys,r,hm,sm⟩:=sS I.hok hp hk;refine call_meetsIn PySem.F.slot_dict_get hm.typeIs PySem.F.entry_dict_get (PySem.F.args_dict_get_3 _ _ _) (meetsH_dict_get_default (cq X.prog X.w) p a sm u2)
  ⟨show X.A.units + 1 + 8 < cLine by lia,d,ys,⟨hd.mono (f9 I.hok),nq⟩,hm,?_⟩
 refine⟨(rT xs d).getD y,H,I.kept (λ_ _ e=>e),?_,q⟩;have z:=r.at d;cases h1:rT xs d with
 | none=>
  rw[h1] at z;cases h2:(atKey ys d).map (·.2) with
  | none=>exact r2
  | some _=>rw[h2] at z;exact z.elim
 | some v1=>
  rw[h1] at z;cases h2:(atKey ys d).map (·.2) with
  | none=>rw[h2] at z;exact z.elim
  | some _=>rw[h2] at z;exact z
end
end Mx
end
section
namespace Mx
open PySem PySem.W PySem.Spec PyProof.Rows L2
noncomputable abbrev yK (h:Heap) (it d:Addr) (i n ep:Nat) (x0 x1 k v:Value):Prop:=
 h.get? it=some {cls:= .type "dict_itemiterator",dict:=none,data:= .fields #[x0,x1,.ref d,.int i 0,.int n 0,.int ep 0,k,v],slots:=#[]}
noncomputable def zc (S it d:Addr) (i n ep:Nat) (h:Heap):Prop:=
 yK h it d i n ep .none (.bool false) .none .none\/∃(a:Addr) (f:Bool) (k v:Value) (o:Obj),yK h it d i n ep (rawInt (a:Nat)) (.bool f) k v/\h.get? a=some o/\a≠it/\a≠S
section
variable {prog:Program} {w:World} {A:Around} {E:Value->Shared->Prop} {s:Shared}
theorem vW {S it d:Addr} {i ep:Nat} {es:Array DictEntry} {od oS:Obj} {e:DictEntry} {Q:Option Value->Shared->Prop} (st:zc S it d i es.size ep s.heap) (hS:s.heap.get? S=some oS) (me:s.heap.get? d=some od) (kT:od.data= .dict es ep) (hx:es[i]?=some e)
  (hQ:∀h',zc S it d (i + 1) es.size ep h'->h'.get? s.heap.objs.size=some {cls:= .type "tuple",data:= .seq #[e.key,e.val]}->(∀b o,b≠it->s.heap.get? b=some o->h'.get? b=some o)->Q (some (.ref s.heap.objs.size)) {s with heap:=h'}):
  wpAny (model prog w) A (pyNext (.ref it)) Q E s:=by
 obtain⟨x0,x1,k0,v0,hit⟩:∃x0 x1 k v,yK s.heap it d i es.size ep x0 x1 k v:=by
  rcases st with h | ⟨a,f,k,v,o,h,_⟩
  ·exact⟨_,_,_,_,h⟩
  ·exact⟨_,_,_,_,h⟩
 have ty:∀{g:Heap} {x0 x1 k v:Value} {j:Nat},yK g it d j es.size ep x0 x1 k v->Shared.TypeIs {s with heap:=g} (.ref it) "dict_itemiterator":=λh=>⟨_,h,rfl⟩
 have bZ:it < s.heap.objs.size:=J0 hit;unfold pyNext;refine JN (wpAny_attempt (wpAny_callSpecial?_slot (name:=Str.ofString "__next__") (ty hit) PySem.F.slot_dict_itemiterator_next (wpAny_call_entry PySem.F.slot_dict_itemiterator_next (ty hit) PySem.F.entry_dict_itemiterator_next ?_ (PySem.F.args_dict_itemiterator_next_1 _))));refine JN (JQ (JN (JN (JN (wpAny_typeNameOfWhole_itemiter (ty hit) (JQ ?_))))));refine JN (wpAny_fieldsOf hit rfl ?_);have ow:Builtin.Dict_items.ownsTuple "dict_itemiterator"=true:=by decide
 simp only[ow,if_true];refine ite_no (c:=(Value.ref d==Value.none)=true) (λz=>by cases z) ?_;refine JN (JQ (JN (wpAny_dictEntries me kT ?_)));refine ite_no (by simp) (JN (JQ (JN (wpAny_dictEpoch me kT ?_))));refine ite_no (by simp) (JQ ?_);have Fy:(if (i:Int) < 0 then none else es[(i:Int).toNat]?)=some e:=by rw[if_neg (by lia),Int.toNat_natCast,hx]
 dsimp only;rw[Fy];refine JN (JN (wpAny_typeNameOfWhole_itemiter (ty hit) (JQ (JN (wpAny_isOneOf_itemiter (ty hit) ?_)))));refine JN (Ko (k:=3) (x:=rawInt ((i:Int) + 1)) hit (by simp) λg1 i1 e1=>?_)
 replace i1:yK g1 it d (i + 1) es.size ep x0 x1 k0 v0:=i1
 refine JN (wpAny_holding (JN (wpAny_isOneOf_itemiter (ty i1) ?_)));refine ite_no (by decide) (JN (wpAny_isOneOf_itemiter (ty i1) ?_));refine ite_no (by decide) ?_;unfold Builtin.Dict_items.pairFromOwner Builtin.Dict_items.ownedTupleIsFree;refine JN (wpAny_newTuple ?_);have sz:g1.objs.size=s.heap.objs.size:=e1.1;generalize jV:g1.push {cls:= .type "tuple",data:= .seq [e.key,e.val].toArray}=g2;have k2:∀b o,g1.get? b=some o->g2.get? b=some o:=λb o q=>by rw[<-jV];exact JP _ q
 have t2:g2.get? s.heap.objs.size=some {cls:= .type "tuple",data:= .seq #[e.key,e.val]}:=by rw[<-jV,<-sz];exact JY _ rfl
 have Bv:∀b o,b≠it->s.heap.get? b=some o->g2.get? b=some o:=λb o hb q=>k2 b o (e1.extBut b o hb q)
 have i2:=k2 _ _ i1;have sd:s.heap.objs.size≠it:=Nat.ne_of_gt bZ;have nS:s.heap.objs.size≠S:=Nat.ne_of_gt (J0 hS);rcases st with h | ⟨a,f,k,v,o,h,ha,na,Hn⟩
 ·cases Eq.trans (Eq.symm hit) h;refine JN (JN (wpAny_field i2 rfl (x:= .none) rfl (JQ (ite_yes rfl ?_))));dsimp only;refine JN (wpAny_field i2 rfl (x:= .none) rfl (JN (wpAny_field i2 rfl (x:= .none) rfl ?_)));refine JN (Ko (k:=6) i2 (by simp) λg3 i3 e3=>JN (Ko (k:=7) i3 (by simp) λg4 i4 e4=>JN (Ko (k:=0) i4 (by simp) λg5 i5 e5=>JN (Ko (k:=1) i5 (by simp) λg6 i6 e6=>?_))));refine JN (wpAny_letGo (JQ (JQ ⟨_,rfl,JQ ?_⟩)));have up:∀b o,b≠it->g2.get? b=some o->g6.get? b=some o:=λb o hb q=>e6.extBut b o hb (e5.extBut b o hb (e4.extBut b o hb (e3.extBut b o hb q)))
  have:=hQ g6 (.inr ⟨s.heap.objs.size,false,e.key,e.val,_,?_,up _ _ sd t2,sd,nS⟩) (up _ _ sd t2) λb o hb q=>up b o hb (Bv b o hb q)
  ·rw[<-sz] at this;exact this
  ·rw[<-sz];exact i6
 ·cases Eq.trans (Eq.symm hit) h;refine JN (JN (wpAny_field i2 rfl (x:=rawInt (a:Nat)) rfl ?_));dsimp only[rawInt];refine JN (kdx_alive (a:=a) (Bv a o na ha) (ite_no (by simp) ?_));refine JN (wpAny_field i2 rfl (x:= .bool f) rfl ?_);cases f with
  | true=>refine ite_no (by decide) (JQ (ite_no (by decide) (JQ (JQ ⟨_,rfl,JQ ?_⟩))));have:=hQ g2 (.inr ⟨a,true,k0,v0,o,i2,Bv a o na ha,na,Hn⟩) t2 Bv;rw[<-sz] at this;exact this
  | false=>
   refine ite_yes (by decide) (JN (Ko (k:=1) i2 (by simp) λg3 i3 e3=>JQ (ite_no (by decide) (JQ (JQ ⟨_,rfl,JQ ?_⟩)))));have:=hQ g3 (.inr ⟨a,true,k0,v0,o,i3,e3.extBut _ _ na (Bv a o na ha),na,Hn⟩) (e3.extBut _ _ sd t2) λb o hb q=>e3.extBut b o hb (Bv b o hb q)
   rw[<-sz] at this;exact this
theorem jb {h1:Heap} {β:Type} {Q':β->Shared->Prop} {g:Value->Sem β} (hg:∀e,g e=raiseNew e) (hh:A.handled=none) (hE:∀e h',(∀b o,h1.get? b=some o->h'.get? b=some o)->(∃o,h'.get? e=some o/\o.cls= .type "StopIteration")->E (.ref e) {s with heap:=h'}):
  wpAny (model prog w) A (newExc (.type "StopIteration") [] >>=g) Q' E {s with heap:=h1}:=by
 unfold newExc newTuple;refine JN (JN (wpAny_newObj_type (JN (m:=firstArgMember _ _) (wpAny_of_eq (a:=Value.none) (by first | rfl | (simp only[firstArgMember];rfl)) (wpAny_newObj_type ?_ (by size_fits)))) (by size_fits)));rw[hg];unfold raiseNew;refine JN (wpAny_handled ?_);rw[hh];exact JN (JQ (wpAny_throw (hE _ _ (λb o q=>JP _ (JP _ q)) ⟨_,JY _ rfl,rfl⟩)))
theorem zd {S it d:Addr} {ep:Nat} {es:Array DictEntry} {od:Obj} {Q:Option Value->Shared->Prop} (hh:A.handled=none) (st:zc S it d es.size es.size ep s.heap) (me:s.heap.get? d=some od) (kT:od.data= .dict es ep)
  (hQ:∀h',(∀b o,b≠it->s.heap.get? b=some o->h'.get? b=some o)->Q none {s with heap:=h'}):wpAny (model prog w) A (pyNext (.ref it)) Q E s:=by
 obtain⟨x0,x1,k0,v0,hit⟩:∃x0 x1 k v,yK s.heap it d es.size es.size ep x0 x1 k v:=by
  rcases st with h | ⟨a,f,k,v,o,h,_⟩
  ·exact⟨_,_,_,_,h⟩
  ·exact⟨_,_,_,_,h⟩
 have ty:s.TypeIs (.ref it) "dict_itemiterator":=⟨_,hit,rfl⟩;unfold pyNext;refine JN (wpAny_attempt (wpAny_callSpecial?_slot (name:=Str.ofString "__next__") ty PySem.F.slot_dict_itemiterator_next (wpAny_call_entry PySem.F.slot_dict_itemiterator_next ty PySem.F.entry_dict_itemiterator_next ?_ (PySem.F.args_dict_itemiterator_next_1 _))));refine JN (JQ (JN (JN (JN (wpAny_typeNameOfWhole_itemiter ty (JQ ?_))))));refine JN (wpAny_fieldsOf hit rfl ?_);have ow:Builtin.Dict_items.ownsTuple "dict_itemiterator"=true:=by decide
 simp only[ow,if_true];refine ite_no (c:=(Value.ref d==Value.none)=true) (λz=>by cases z) ?_;refine JN (JQ (JN (wpAny_dictEntries me kT ?_)));refine ite_no (by simp) (JN (JQ (JN (wpAny_dictEpoch me kT ?_))));refine ite_no (by simp) (JQ ?_);have Fy:(if (es.size:Int) < 0 then none else es[(es.size:Int).toNat]?)=none:=by rw[if_neg (by lia),Int.toNat_natCast];simp
 dsimp only;rw[Fy];refine JN (JN (wpAny_typeNameOfWhole_itemiter ty (JQ (JN (Ko (k:=2) (x:= .none) hit (by simp) λg1 i1 e1=>?_)))));refine jb (λ_=>rfl) hh λx h' kk hx=>?_
 obtain⟨o,ho,hc⟩:=hx;exact JN (wpAny_isInstance (T:="StopIteration") (b:=true) ⟨o,ho,hc⟩ isSubtype_stop (JQ (hQ _ λb o hb q=>kk b o (e1.extBut b o hb q))))
end
section
variable {prog:Program} {w:World} {A:Around} {E:Value->Shared->Prop} {s:Shared}
theorem oR {it:Addr} {x left:Int} {Q:Value->Shared->Prop} (hit:IsRangeIter s.heap it x left 1) (hl:0 < left)
  (hQ:∀h' tk t,IsRangeIter h' it (x + 1) (left - 1) 1->Heap.SameBut it s.heap h'->Q (.int x t) {s with heap:=h',toks:=tk}):wpAny (model prog w) A (Builtin.SmallTypes.nextOf (.ref it)) Q E s:=by
 have ty:s.TypeIs (.ref it) "range_iterator":=⟨_,hit,rfl⟩;unfold Builtin.SmallTypes.nextOf;refine JN (wpAny_callSpecial?_slot (name:=Str.ofString "__next__") ty PySem.F.slot_range_iterator_next (wpAny_call_entry PySem.F.slot_range_iterator_next ty PySem.F.entry_range_iterator_next ?_ (PySem.F.args_range_iterator_next_1 _)));refine JN (JQ (JN (wpAny_field hit rfl (x:=rawInt x) rfl (JN (wpAny_field hit rfl (x:=rawInt left) rfl (JN (wpAny_field hit rfl (x:=rawInt 1) rfl ?_)))))));dsimp only[rawInt];refine ite_no (by lia) ?_;refine JN (Ko (k:=0) hit (by simp) λg1 i1 e1=>JN (Ko (k:=1) i1 (by simp) λg2 i2 e2=>?_));exact wpAny_ret_mkInt (JQ (hQ g2 _ _ i2 (e1.trans e2)))
theorem rF {it:Addr} {x left:Int} {Q:Value->Shared->Prop} (hh:A.handled=none) (hit:IsRangeIter s.heap it x left 1) (hl:left<=0)
  (hE:∀h' e,Heap.ExtBut it s.heap h'->(∃o,h'.get? e=some o/\o.cls= .type "StopIteration")->E (.ref e) {s with heap:=h'}):wpAny (model prog w) A (Builtin.SmallTypes.nextOf (.ref it)) Q E s:=by
 have ty:s.TypeIs (.ref it) "range_iterator":=⟨_,hit,rfl⟩;unfold Builtin.SmallTypes.nextOf;refine JN (wpAny_callSpecial?_slot (name:=Str.ofString "__next__") ty PySem.F.slot_range_iterator_next (wpAny_call_entry PySem.F.slot_range_iterator_next ty PySem.F.entry_range_iterator_next ?_ (PySem.F.args_range_iterator_next_1 _)));refine JN (JQ (JN (wpAny_field hit rfl (x:=rawInt x) rfl (JN (wpAny_field hit rfl (x:=rawInt left) rfl (JN (wpAny_field hit rfl (x:=rawInt 1) rfl ?_)))))));dsimp only[rawInt];refine ite_yes hl (JN (wpAny_rule (JN (jb (h1:=s.heap) (λ_=>rfl) hh λe h' kk hx=>hE h' e (λb o _ q=>kk b o q) hx))))
theorem rQ {b1:Bool} {z TI TO i1 i2 l1:Addr} {k1:Nat} {v left:Int} {xs:Array Value} {x a b:Value} {Q:Option Value->Shared->Prop} (D:jH z TI TO i1 i2) (O1:cM z TO i1 i2 l1)
  (hz:IsZip s.heap z TI TO .none) (wj:IsPair s.heap TI (.ref i1) (.ref i2)) (zy:IsPair s.heap TO a b) (h1:aT b1 s.heap i1 l1 k1) (h2:IsRangeIter s.heap i2 v left 1) (cP:cj b1 s.heap l1 xs) (hx:xs[k1]?=some x) (hy:0 < left)
  (hQ:∀h' tk t,IsZip h' z TI TO (rawInt s.heap.objs.size)->IsPair h' TO x (.int v t)->aT b1 h' i1 l1 (k1 + 1)->IsRangeIter h' i2 (v + 1) (left - 1) 1->IsPair h' s.heap.objs.size x (.int v t)->
   (∀c o,c≠z->c≠TO->c≠i1->c≠i2->s.heap.get? c=some o->h'.get? c=some o)->Q (some (.ref s.heap.objs.size)) {s with heap:=h',toks:=tk}):wpAny (model prog w) A (pyNext (.ref z)) Q E s:=by
 have hT:s.TypeIs (.ref z) "zip":=⟨_,hz,rfl⟩;unfold pyNext;refine JN (wpAny_attempt (wpAny_callSpecial?_slot (name:=Str.ofString "__next__") hT F.slot_zip_next (wpAny_call_entry F.slot_zip_next hT F.entry_zip_next ?_ (F.args_zip_next_1 _))));refine(show wpAny _ _ (field (.ref z) 2 >>=_) _ _ _ from JN (wpAny_field hz rfl (x:= .bool false) rfl (show wpAny _ _ (field (.ref z) 3 >>=_) _ _ _ from JN (wpAny_field hz rfl (x:= .ref TI) rfl (JN (wpAny_seqItems wj rfl (show wpAny _ _ (Builtin.SmallTypes.ownedTupleIsFree (.ref z) >>=_) _ _ _ from JN ?_)))))));unfold Builtin.SmallTypes.ownedTupleIsFree;refine JN (wpAny_field hz rfl (x:= .none) rfl (JQ ?_));simp only[if_true];refine JN (wpAny_rule (JN (wpAny_field hz rfl (x:= .ref TO) rfl (JN (Ko hz (by simp) λg1 z1 e1=>JN ?_)))))
 replace z1:IsZip g1 z TI TO .ellipsis:=z1
 simp only[List.zipIdx_cons,List.zipIdx_nil,List.forIn_cons,List.forIn_nil];refine JN (JN (wpAny_onRaise (show wpAny _ _ (Builtin.SmallTypes.nextOf (.ref i1) >>=_) _ _ _ from JN (bL (h1.at λo q=>e1.extBut _ o D.i1z q) (cP.at λo q=>e1.extBut _ o O1.z q) hx λg2 j1 e2=>JQ ?_))));have t2:IsPair g2 TO a b:=e2.extBut _ _ D.TOi1 (e1.extBut _ _ D.TOz zy);refine JN (wpAny_seqItems t2 rfl (JN (wpAny_updateSeq_pair t2 λg3 t3 e3=>JN (wpAny_letGo (JQ ?_)))))
 replace t3:IsPair g3 TO x b:=t3
 refine JN (JN (wpAny_onRaise (show wpAny _ _ (Builtin.SmallTypes.nextOf (.ref i2) >>=_) _ _ _ from JN (oR (e3.extBut _ _ D.TOi2.symm (e2.extBut _ _ D.i12.symm (e1.extBut _ _ D.i2z h2))) hy λg4 tk t j2 e4=>JQ ?_))));have t4:IsPair g4 TO x b:=e4.extBut _ _ D.TOi2 t3;refine JN (wpAny_seqItems t4 rfl (JN (wpAny_updateSeq_pair t4 λg5 t5 e5=>JN (wpAny_letGo (JQ (JQ ?_))))))
 replace t5:IsPair g5 TO x (.int v t):=t5
 refine JN (wpAny_seqItems t5 rfl (JN (wpAny_newTuple ?_)));have sz:g5.objs.size=s.heap.objs.size:=by rw[e5.1,e4.1,e3.1,e2.1,e1.1]
 have z5:IsZip g5 z TI TO .ellipsis:=e5.extBut _ _ D.TOz.symm (e4.extBut _ _ D.i2z.symm (e3.extBut _ _ D.TOz.symm (e2.extBut _ _ D.i1z.symm z1)));have old:∀c o,c≠z->c≠TO->c≠i1->c≠i2->s.heap.get? c=some o->g5.get? c=some o:=λc o c1 c2 c3 c4 q=>e5.extBut _ _ c2 (e4.extBut _ _ c4 (e3.extBut _ _ c2 (e2.extBut _ _ c3 (e1.extBut _ _ c1 q))))
 have n1:aT b1 g5 i1 l1 (k1 + 1):=j1.at λo q=>e5.extBut _ o D.TOi1.symm (e4.extBut _ o D.i12 (e3.extBut _ o D.TOi1.symm q))
 have n2:IsRangeIter g5 i2 (v + 1) (left - 1) 1:=e5.extBut _ _ D.TOi2.symm j2;have DS:z < g5.objs.size:=J0 z5;refine(show wpAny _ _ (Builtin.SmallTypes.ownedTupleHandOut (.ref z) (.ref g5.objs.size) >>=_) _ _ _ from JN ?_);unfold Builtin.SmallTypes.ownedTupleHandOut;have z6:IsZip (g5.push {cls:= .type "tuple",data:= .seq #[x,.int v t]}) z TI TO .ellipsis:=JP _ z5;refine JN (Ko z6 (by simp) λg7 z7 e7=>?_)
 replace z7:IsZip g7 z TI TO (rawInt g5.objs.size):=z7
 refine Ko z7 (by simp) λg8 z8 e8=>?_
 replace z8:IsZip g8 z TI TO (rawInt g5.objs.size):=z8
 have up:∀c o,c≠z->g5.get? c=some o->g8.get? c=some o:=λc o c1 q=>e8.extBut _ _ c1 (e7.extBut _ _ c1 (JP _ q))
 have t8:IsPair g8 g5.objs.size x (.int v t):=e8.extBut _ _ (Nat.ne_of_gt DS) (e7.extBut _ _ (Nat.ne_of_gt DS) (JY _ rfl));rw[sz] at z8 t8;refine JQ ⟨_,rfl,JQ ?_⟩;show Q (some (.ref g5.objs.size)) _;rw[sz];exact hQ g8 tk t z8 (up _ _ D.TOz t5) (n1.at λo q=>up _ o D.i1z q) (up _ _ D.i2z n2) t8 λc o c1 c2 c3 c4 q=>up c o c1 (old c o c1 c2 c3 c4 q)
theorem vm {b1:Bool} {z TI TO i1 i2 l1:Addr} {k1:Nat} {v left:Int} {xs:Array Value} {a b:Value} {Q:Option Value->Shared->Prop} (hh:A.handled=none) (D:jH z TI TO i1 i2) (O1:cM z TO i1 i2 l1)
  (hz:IsZip s.heap z TI TO .none) (wj:IsPair s.heap TI (.ref i1) (.ref i2)) (zy:IsPair s.heap TO a b) (h1:aT b1 s.heap i1 l1 k1) (h2:IsRangeIter s.heap i2 v left 1) (cP:cj b1 s.heap l1 xs) (qX:xs[k1]?=none\/left<=0)
  (hQ:∀h',(∀c o,c≠z->c≠TO->c≠i1->c≠i2->s.heap.get? c=some o->h'.get? c=some o)->Q none {s with heap:=h'}):wpAny (model prog w) A (pyNext (.ref z)) Q E s:=by
 have hT:s.TypeIs (.ref z) "zip":=⟨_,hz,rfl⟩;unfold pyNext;refine JN (wpAny_attempt (wpAny_callSpecial?_slot (name:=Str.ofString "__next__") hT F.slot_zip_next (wpAny_call_entry F.slot_zip_next hT F.entry_zip_next ?_ (F.args_zip_next_1 _))));have stop:∀(h':Heap) (e:Addr),(∀c o,c≠z->c≠TO->c≠i1->c≠i2->s.heap.get? c=some o->h'.get? c=some o)->(∃o,h'.get? e=some o/\o.cls= .type "StopIteration")->wpAny (model prog w) A (isInstance (.ref e) (.type "StopIteration")) (λr s'=>r=true/\Q none s') E {s with heap:=h'}:=λh' e kk he=>by obtain⟨o,ho,hc⟩:=he;exact wpAny_isInstance (T:="StopIteration") (b:=true) ⟨o,ho,hc⟩ isSubtype_stop ⟨rfl,hQ _ kk⟩
 refine(show wpAny _ _ (field (.ref z) 2 >>=_) _ _ _ from JN (wpAny_field hz rfl (x:= .bool false) rfl (show wpAny _ _ (field (.ref z) 3 >>=_) _ _ _ from JN (wpAny_field hz rfl (x:= .ref TI) rfl (JN (wpAny_seqItems wj rfl (show wpAny _ _ (Builtin.SmallTypes.ownedTupleIsFree (.ref z) >>=_) _ _ _ from JN ?_)))))));unfold Builtin.SmallTypes.ownedTupleIsFree;refine JN (wpAny_field hz rfl (x:= .none) rfl (JQ ?_));simp only[if_true];refine JN (wpAny_rule (JN (wpAny_field hz rfl (x:= .ref TO) rfl (JN (Ko hz (by simp) λg1 z1 e1=>JN ?_)))))
 replace z1:IsZip g1 z TI TO .ellipsis:=z1
 simp only[List.zipIdx_cons,List.zipIdx_nil,List.forIn_cons,List.forIn_nil];refine JN (JN (wpAny_onRaise ?_));show wpAny _ _ (Builtin.SmallTypes.nextOf (.ref i1) >>=_) _ _ _;cases hx:xs[k1]? with
 | none=>
  refine JN (ej hh (h1.at λo q=>e1.extBut _ o D.i1z q) (cP.at λo q=>e1.extBut _ o O1.z q) hx λg2 e e2 he=>?_);obtain⟨oe,om,tL⟩:=he;have z2:IsZip g2 z TI TO .ellipsis:=e2 _ _ D.i1z.symm z1;have zD:e≠z:=λx=>by subst x;rw[z2] at om;cases om;simp at tL
  refine Ko z2 (by simp) λg3 _ e3=>?_
  refine JN (wpAny_mono (stop g3 e (λc o c1 _ c3 _ x=>e3.extBut _ _ c1 (e2 _ _ c3 (e1.extBut _ _ c1 x))) ⟨oe,e3.extBut _ _ zD om,tL⟩) (λr s' q=>?_) λ_ _ q=>q);obtain⟨rfl,q⟩:=q;exact JQ q
 | some x=>
  have hy:left<=0:=by rcases qX with h | h;rw[hx] at h;cases h;exact h
  refine JN (bL (h1.at λo q=>e1.extBut _ o D.i1z q) (cP.at λo q=>e1.extBut _ o O1.z q) hx λg2 j1 e2=>JQ ?_);have t2:IsPair g2 TO a b:=e2.extBut _ _ D.TOi1 (e1.extBut _ _ D.TOz zy);refine JN (wpAny_seqItems t2 rfl (JN (wpAny_updateSeq_pair t2 λg3 t3 e3=>JN (wpAny_letGo (JQ ?_)))));refine JN (JN (wpAny_onRaise (show wpAny _ _ (Builtin.SmallTypes.nextOf (.ref i2) >>=_) _ _ _ from JN (rF hh (e3.extBut _ _ D.TOi2.symm (e2.extBut _ _ D.i12.symm (e1.extBut _ _ D.i2z h2))) hy λg4 e e4 he=>?_))));obtain⟨oe,om,tL⟩:=he;have z4:IsZip g4 z TI TO .ellipsis:=e4 _ _ D.i2z.symm (e3.extBut _ _ D.TOz.symm (e2.extBut _ _ D.i1z.symm z1));have zD:e≠z:=λx=>by subst x;rw[z4] at om;cases om;simp at tL
  refine Ko z4 (by simp) λg5 _ e5=>?_
  refine JN (wpAny_mono (stop g5 e (λc o c1 c2 c3 c4 x=>e5.extBut _ _ c1 (e4 _ _ c4 (e3.extBut _ _ c2 (e2.extBut _ _ c3 (e1.extBut _ _ c1 x))))) ⟨oe,e5.extBut _ _ zD om,tL⟩) (λr s' q=>?_) λ_ _ q=>q);obtain⟨rfl,q⟩:=q;exact JQ q
end
noncomputable def yL (b1:Bool) (l1:Addr) (n:Nat):It where
 go:=λi H=>∃xs x,H l1=some (f6 b1 xs)/\xs[i]?=some x/\i < n
 yld:=λi H v H'=>∃p x,v= .ref p/\H p=none/\H'=upd H p (.tup [x,.int i])/\∀xs,H l1=some (f6 b1 xs)->xs[i]?=some x
 stop:=λi H=>∃xs,H l1=some (f6 b1 xs)/\(xs.length<=i\/n<=i)
noncomputable def Jv (b1:Bool) (z TI TO i1 i2 l1:Addr) (n i:Nat) (h:Heap):Prop:=IsZip h z TI TO .none/\IsPair h TI (.ref i1) (.ref i2)/\(∃a b,IsPair h TO a b)/\aT b1 h i1 l1 i/\IsRangeIter h i2 (i:Nat) ((n:Int) - (i:Nat)) 1
theorem rN {P:Program} {w:World} {K:PySem.W.Frag} {es:List Expr} {k:Nat} {tp:Pos} {b1:Bool} {z TI TO i1 i2 l1:Addr} {n:Nat} (ap:jH z TI TO i1 i2):
  Turn P w K (.Tuple es k tp) (yL b1 l1 n) [z,TI,TO,i1,i2] z (Jv b1 z TI TO i1 i2 l1 n) where
 mem:=by simp
 obj:=λi h st b hb=>by
  obtain⟨s1,s2,⟨a,b',s3⟩,s4,s5⟩:=st;simp only[J3,J4,or_false] at hb;rcases hb with rfl | rfl | rfl | rfl | rfl
  ·exact⟨_,s1,λv q=>by cases q⟩
  ·exact⟨_,s2,λv q=>by cases q⟩
  ·exact⟨_,s3,λv q=>by cases q⟩
  ·exact s4.obj
  ·exact⟨_,s5,λv q=>by cases q⟩
 keep:=λi h h' st kk=>by obtain⟨s1,s2,⟨a,b',s3⟩,s4,s5⟩:=st;exact⟨kk z (by simp) _ s1,kk TI (by simp) _ s2,⟨a,b',kk TO (by simp) _ s3⟩,s4.at λo e=>kk i1 (by simp) o e,kk i2 (by simp) _ s5⟩
 item:=by
  intro X hP hw hK hc i pins s σ H E I hf st hg;subst hP hw hK;obtain⟨xs,x,cP,hx,hy⟩:=hg;obtain⟨s1,s2,⟨a,b',s3⟩,s4,s5⟩:=st;obtain⟨bM,r1,p1⟩:=bB I cP;obtain⟨u1,pQ,C9⟩:=r1.get hx;have ne:∀{l:Addr} {o:HO},H l=some o->∀b∈[z,TI,TO,i1,i2],l≠b:=λ {l o} hl b hb e=>by subst e;rw[(hf l hb).1] at hl;cases hl
  have off:∀{l:Addr} {o:HO},H l=some o->cM z TO i1 i2 l:=λ {l o} hl=>⟨ne hl z (by simp),ne hl TO (by simp),ne hl i1 (by simp),ne hl i2 (by simp)⟩
  refine rQ ap (off cP) s1 s2 s3 s4 s5 p1 (by simpa using pQ) (by lia) λh' tk t a1 a2 a3 a4 a5 a7=>⟨_,rfl,?_⟩
  refine wpAny_letOwnedTupleGo_zip (s:={s with heap:=h',toks:=tk}) a1 λh2 c1 c2=>?_
  have B7:s.heap.objs.size≠z:=λe=>by have:=J0 s1;rw[<-e] at this;exact Nat.lt_irrefl _ this
  have zx:IsPair h2 TI (.ref i1) (.ref i2):=(c2.2 TI ap.TIz).trans (a7 TI _ ap.TIz ap.TITO ap.TIi1 ap.TIi2 s2);have B5:h2.get? s.heap.objs.size=some {cls:= .type "tuple",data:= .seq #[u1,.int i t]}:=(c2.2 _ B7).trans a5;have kk:∀b o,b∉[z,TI,TO,i1,i2]->s.heap.get? b=some o->h2.get? b=some o:=λb o hb e=>by simp only[J3,J4,or_false,not_or] at hb;exact(c2.2 b hb.1).trans (a7 b o hb.1 hb.2.2.1 hb.2.2.2.1 hb.2.2.2.2 e)
  have lt:∀{b:Addr} {o:Obj},s.heap.get? b=some o->b≠s.heap.objs.size:=λe=>Km (J0 e)
  have gS:∀b u,H b=some u->b∉[z,TI,TO,i1,i2]:=λb u e hb=>by rw[(hf b hb).1] at e;cases e
  have gf:H s.heap.objs.size=none:=I.fresh;have I2:Inv X pins σ (upd H s.heap.objs.size (.tup [x,.int i])) {s with heap:=h2,toks:=tk}:=by
   refine I.step (g':=s.gens) (d':=s.drawn) (ch:=[z,TI,TO,i1,i2]) (λb hb=>⟨(hf b hb).2.2.2.1,(hf b hb).2.1,(hf b hb).2.2.2.2.1,(hf b hb).2.2.2.2.2⟩) (λb o _ _ hb e _=>kk b o hb e) (λb o _ _ hb e _=>⟨o.slots,kk b o hb e⟩)
    (λb o hb e n=>by rw[ah (lt e)];exact n) (λb o hb e=>⟨o,kk b o hb e⟩) (λb zs e=>by rw[ah (ak e gf)];exact e) (λb o u e=>by rw[ah (ak e gf)];exact e)
    (λb ps e=>⟨#[],by rw[ah (ak e gf),e];simp⟩) (λm hm=>?_) (λb u e=>?_) I.bare
   ·obtain⟨o,cc,ep,ho,rr⟩:=hm;exact⟨o,cc,ep,kk _ o (λhb=>(hf _ hb).2.1 rfl) ho,rr⟩
   ·by_cases hb:b=s.heap.objs.size
    ·subst hb;rw[ar] at e;cases e;exact⟨by show 2<=sizeLine;decide,[u1,.int i t],.cons C9 (.cons ⟨t,rfl⟩ .nil),_,B5,rfl,0,rfl⟩
    ·rw[ah hb] at e;refine(I.hok b u e).fX (λc v hc q=>kk c v ?_ q) (λc q=>by rw[ah (ak q gf)];exact q) λc zs q=>by rw[ah (ak q gf)];exact q
     rcases hc with rfl | hc
     ·exact gS c u e
     ·exact gS c _ hc
  refine⟨.ref s.heap.objs.size,_,I2,rfl,⟨s.heap.objs.size,x,rfl,gf,rfl,λez q1=>?_⟩,⟨c1,zx,⟨u1,.int i t,(c2.2 TO ap.TOz).trans a2⟩,a3.at λo e=>(c2.2 i1 ap.i1z).trans e,(c2.2 i2 ap.i2z).trans (by rw[show (((i + 1:Nat)):Int)=(i:Int) + 1 by lia,show (n:Int) - ((i:Int) + 1)=(n:Int) - i - 1 by lia];exact a4)⟩,λb hb=>?_⟩
  ·rw[cP] at q1;rw[hU (Option.some.inj q1).symm];exact hx
  ·rw[ah (λe=>?_)]
   ·exact(hf b hb).1
   ·have q:∃o,s.heap.get? b=some o:=by
     simp only[J3,J4,or_false] at hb;rcases hb with rfl | rfl | rfl | rfl | rfl
     ·exact⟨_,s1⟩
     ·exact⟨_,s2⟩
     ·exact⟨_,s3⟩
     ·obtain⟨o,e,_⟩:=s4.obj;exact⟨o,e⟩
     ·exact⟨_,s5⟩
    obtain⟨o,q⟩:=q;exact lt q e
 done:=by
  intro X hP hw hK hc i pins s σ H E I hf st hg;subst hP hw hK;obtain⟨xs,cP,qX⟩:=hg;obtain⟨s1,s2,⟨a,b',s3⟩,s4,s5⟩:=st;obtain⟨bM,r1,p1⟩:=bB I cP;have ne:∀{l:Addr} {o:HO},H l=some o->∀b∈[z,TI,TO,i1,i2],l≠b:=λ {l o} hl b hb e=>by subst e;rw[(hf l hb).1] at hl;cases hl
  have off:∀{l:Addr} {o:HO},H l=some o->cM z TO i1 i2 l:=λ {l o} hl=>⟨ne hl z (by simp),ne hl TO (by simp),ne hl i1 (by simp),ne hl i2 (by simp)⟩
  have e1:=r1.length;refine vm (I.ok.hd hc) ap (off cP) s1 s2 s3 s4 s5 p1 (by simp;lia) λh' kk=>⟨rfl,?_⟩
  have gS:∀b u,H b=some u->b∉[z,TI,TO,i1,i2]:=λb u e hb=>by rw[(hf b hb).1] at e;cases e
  have gQ:∀b o,b∉[z,TI,TO,i1,i2]->s.heap.get? b=some o->h'.get? b=some o:=λb o hb e=>by simp only[J3,J4,or_false,not_or] at hb;exact kk b o hb.1 hb.2.2.1 hb.2.2.2.1 hb.2.2.2.2 e
  refine I.step (g':=s.gens) (d':=s.drawn) (t':=s.toks) (h':=h') (ch:=[z,TI,TO,i1,i2]) (λb hb=>⟨(hf b hb).2.2.2.1,(hf b hb).2.1,(hf b hb).2.2.2.2.1,(hf b hb).2.2.2.2.2⟩) (λb o _ _ hb e _=>gQ b o hb e) (λb o _ _ hb e _=>⟨o.slots,gQ b o hb e⟩)
   (λb o hb e n=>n) (λb o hb e=>⟨o,gQ b o hb e⟩) (λb zs e=>e) (λb o u e=>e) (λb ps e=>⟨#[],by rw[e];simp⟩) (λm hm=>?_) (λb u e=>?_) I.bare
  ·obtain⟨o,cc,ep,ho,rr⟩:=hm;exact⟨o,cc,ep,gQ _ o (λhb=>(hf _ hb).2.1 rfl) ho,rr⟩
  ·refine(I.hok b u e).fX (λc v hc q=>gQ c v ?_ q) (λc q=>q) λc zs q=>q
   rcases hc with rfl | hc
   ·exact gS c u e
   ·exact gS c _ hc
 self:=λ_ _ _ _ _ st h=>wpAny_pyIter_zip st.1 h
noncomputable def Gc:List V->Hp->VK->Prop:=λvs H Q=>∃j:Int,vs=[.int j]/\∀r,H r=none->Q (.ref r) (upd H r (.AK 0 j))
theorem sI {X:Cx}:eE X (.type "range") Gc:=by intro pins s σ H vs us Q I rv h;obtain⟨j,rfl,q⟩:=h;obtain⟨u,rfl,ru⟩:=rv.one;obtain⟨t,rfl⟩:=ru;refine call_range_1 ⟨.ref s.heap.objs.size,_,I.laid (a:=s.heap.objs.size) (o:= .AK 0 j) (λb o e=>JP _ e) (JW _) ⟨_,_,_,JY _ rfl⟩,rfl,q _ (I.hok.fresh (JW _))⟩
noncomputable def C8 (j:Int):Obj:={cls:= .type "range_iterator",data:= .fields #[rawInt 0,rawInt (Builtin.Range.rangeSize 0 j 1),rawInt 1]}
noncomputable abbrev En (h:Heap) (b1:Bool) (l1:Addr):Heap:=h.push (dy b1 l1)
noncomputable abbrev Eo (h:Heap) (b1:Bool) (l1:Addr) (j:Int):Heap:=(En h b1 l1).push (C8 j)
noncomputable abbrev Ep (h:Heap) (b1:Bool) (l1:Addr) (j:Int):Heap:=(Eo h b1 l1 j).push {cls:= .type "tuple",data:= .seq #[.ref h.objs.size,.ref (En h b1 l1).objs.size]}
noncomputable abbrev Er (h:Heap) (b1:Bool) (l1:Addr) (j:Int):Heap:=(Ep h b1 l1 j).push {cls:= .type "tuple",data:= .seq #[.none,.none]}
noncomputable abbrev BB (h:Heap) (b1:Bool) (l1:Addr) (j:Int):Heap:=(Er h b1 l1 j).push {cls:= .type "zip",data:= .fields #[.none,.bool false,.bool false,.ref (Eo h b1 l1 j).objs.size,.ref (Ep h b1 l1 j).objs.size]}
theorem vn (b1:Bool) (l1 r:Addr) (xs:Array Value) (j:Int) (t u v:Tok) (jq:Builtin.Range.small 0 j 1=true):
  Meets (Builtin.«zip.__new__» ⟨[.type "zip",.ref l1,.ref r],[]⟩) (λ_ R s=>cj b1 s.heap l1 xs/\IsRange s.heap r 0 j 1 t u v/\R (.ok (.ret (.ref (Er s.heap b1 l1 j).objs.size))) {s with heap:=BB s.heap b1 l1 j}):=
 .of_wp λprog w A R s h=>by
  obtain⟨hp,g,d,tk,os⟩:=s;obtain⟨cP,eZ,h⟩:=h;have zP:=sub_zip;have zv:IsRange (hp.push (dy b1 l1)) r 0 j 1 t u v:=JP _ eZ;cases b1
  ·have k1:Heap.IsList (Shared.heap ⟨hp,g,d,tk,os⟩) l1 xs:=cP;have k2:IsRange (Shared.heap ⟨hp.push {cls:= .type "list_iterator",data:= .fields #[.ref l1,.int 0 0]},g,d,tk,os⟩) r 0 j 1 t u v:=zv
   wp_walk using wpAny_pyIter_list k1,wpAny_pyIter_range k2 jq
   exact⟨_,rfl,h⟩
  ·have k1:Heap.IsTuple (Shared.heap ⟨hp,g,d,tk,os⟩) l1 xs:=cP;have k2:IsRange (Shared.heap ⟨hp.push {cls:= .type "tuple_iterator",data:= .fields #[.ref l1,.int 0 0]},g,d,tk,os⟩) r 0 j 1 t u v:=zv
   wp_walk using wpAny_pyIter_tuple k1,wpAny_pyIter_range k2 jq
   exact⟨_,rfl,h⟩
section
variable {prog:Program} {w:World} {A:Around} {E:Value->Shared->Prop} {s:Shared}
theorem qL {b1:Bool} {l1 r:Addr} {xs:Array Value} {j:Int} {tt uu vv:Tok} {Q:Value->Shared->Prop} (jq:Builtin.Range.small 0 j 1=true) (cP:cj b1 s.heap l1 xs) (eZ:IsRange s.heap r 0 j 1 tt uu vv)
  (h:∀h',IsZip h' (s.heap.objs.size + 4) (s.heap.objs.size + 2) (s.heap.objs.size + 3) .none->IsPair h' (s.heap.objs.size + 2) (.ref s.heap.objs.size) (.ref (s.heap.objs.size + 1))->IsPair h' (s.heap.objs.size + 3) .none .none->
   aT b1 h' s.heap.objs.size l1 0->IsRangeIter h' (s.heap.objs.size + 1) 0 (Builtin.Range.rangeSize 0 j 1) 1->(∀c o,s.heap.get? c=some o->h'.get? c=some o)->Q (.ref (s.heap.objs.size + 4)) {s with heap:=h'}):wpAny (model prog w) A (call (.type "zip") [.ref l1,.ref r]) Q E s:=by
 refine callType_new F.called_zip (by decide) (F.typeCall_zip_2 _ _) (F.newCall_zip_2 _ _) (λobj=>F.args_object_init_3 obj _ _) F.entry_zip_new (vn b1 l1 r xs j tt uu vv jq) ⟨cP,eZ,?_⟩;have y1:(En s.heap b1 l1).objs.size=s.heap.objs.size + 1:=Kl ..;have y2:(Eo s.heap b1 l1 j).objs.size=s.heap.objs.size + 2:=by rw[Kl,y1]
 have y3:(Ep s.heap b1 l1 j).objs.size=s.heap.objs.size + 3:=by rw[Kl,y2]
 have y4:(Er s.heap b1 l1 j).objs.size=s.heap.objs.size + 4:=by rw[Kl,y3]
 have g5:(BB s.heap b1 l1 j).get? (Er s.heap b1 l1 j).objs.size=some _:=JY _ rfl;have g4:(BB s.heap b1 l1 j).get? (Ep s.heap b1 l1 j).objs.size=some _:=JP _ (JY _ rfl);have g3:(BB s.heap b1 l1 j).get? (Eo s.heap b1 l1 j).objs.size=some _:=JP _ (JP _ (JY _ rfl));have g2:(BB s.heap b1 l1 j).get? (En s.heap b1 l1).objs.size=some _:=JP _ (JP _ (JP _ (JY _ rfl)));have g1:(BB s.heap b1 l1 j).get? s.heap.objs.size=some _:=JP _ (JP _ (JP _ (JP _ (JY _ (ei b1 l1)))));show _/\_;rw[y2,y3,y4] at g5;rw[y1,y2] at g3;rw[y3] at g4;rw[y1] at g2;rw[y4];exact⟨⟨_,g5,rfl⟩,h _ g5 g3 g4 (fI g1) g2 λc o x=>JP _ (JP _ (JP _ (JP _ (JP _ x))))⟩
end
theorem uL {j:Int}:((j.toNat:Nat):Int) - ((0:Nat):Int)=Builtin.Range.rangeSize 0 j 1:=by rw[rangeSize_one];split <;> lia
noncomputable def CA (ta:TA):TI:=λσ H R=>ta σ H λvs H1=>∃b1 l1 r xs j,vs=[.ref l1,.ref r]/\H1 l1=some (f6 b1 xs)/\H1 r=some (.AK 0 j)/\ -(2 ^ 62)<=j/\j < 2 ^ 62/\R (yL b1 l1 j.toNat) H1
theorem xm {X:Cx} {es:List Expr} {k:Nat} {tp:Pos} {a b:Expr} {ta:TA} {p pos:Pos} (hg:Gl X "zip") (hm:X.mg "zip"=none) (ha:PA X [a,b] ta) (hs:starEach [a,b] X.env=[(false,eval a X.env),(false,eval b X.env)]:=by rfl) (gO:starEach [b] X.env=[(false,eval b X.env)]:=by rfl):
  PI X (.Tuple es k tp) (.Call (.Name "zip" p) [a,b] [] pos) (CA ta):=by
 intro pins s σ H R I h;refine Call_ (b7 I hg hm boot_zip (PyProof.Rows.callWith_type1 (bo (ha pos pins s σ H _ I h) λus s1 ⟨vs,H1,I1,r1,q1⟩=>?_) (by rw[hs,gO]) (by rw[gO];rfl)));obtain⟨b1,l1,r,xs,j,e,e1,e2,j1,j2,q⟩:=q1;subst e;obtain⟨u,v,rfl,ru,rv⟩:=r1.two;cases ru;cases rv;obtain⟨bM,_,p1⟩:=bB I1 e1;obtain⟨tt,uu,vv,p2⟩:=I1.hok r _ e2;refine qL (small_one (by lia) (by lia) j1 j2) p1 p2 λh' g1 g2 g3 g4 g5 kk=>?_
 refine wpAny_pyIter_zip (s:={s1 with heap:=h'}) g1 ?_;have I2:Inv X pins σ H1 {s1 with heap:=h'}:=I1.kept (t':=s1.toks) kk;refine⟨s1.heap.objs.size + 4,[s1.heap.objs.size + 4,s1.heap.objs.size + 2,s1.heap.objs.size + 3,s1.heap.objs.size,s1.heap.objs.size + 1],_,_,H1,rfl,I2,rN (l1:=l1) (n:=j.toNat) ⟨?_,?_,?_,?_,?_,?_,?_,?_,?_,?_⟩,⟨g1,g2,⟨_,_,g3⟩,g4,by rw[uL];exact g5⟩,λb hb=>?_,q⟩
 iterate 10 (first | (apply Km;lia) | (apply Nat.ne_of_gt;lia))
 have jB:s1.heap.objs.size<=b:=by simp only[J3,J4,or_false] at hb;rcases hb with h | h | h | h | h <;> (rw[h];first | exact Nat.le_add_right _ _ | exact JW _)
 exact I1.kQ jB (I1.hok.fresh jB)
open AutoSeq1 (wpAny_loadPart')
theorem sX {prog:Program} {w:World} {A:Around} (hh:A.handled=none) (b:Bool) (it l:Addr) (nr:l≠it) (items:Array Value):
  Draws prog w A it [it,l] items.size (λi v=>items[i]?=some v) (λi h=>aT b h it l i/\cj b h l items) where
 live:=λ_ _ st=>let ⟨o,ho,_⟩:=st.1.obj;⟨o,ho⟩
 frame:=λ_ _ _ st hk=>⟨st.1.at λo e=>hk it (by simp) o e,st.2.at λo e=>hk l (by simp) o e⟩
 item:=λi s Q E hi st hQ=>by
  refine bL st.1 st.2 (x:=items[i]) (by simp[hi]) λh' Fz hs'=>?_
  exact hQ _ h' s.toks (by simp[hi]) ⟨Fz,st.2.at λo e=>hs'.extBut _ o nr e⟩ hs'
 done:=λs Q E st hE=>ej hh st.1 st.2 (by simp) hE
theorem qQ (b:Bool) (l:Addr) (xs:Array Value):
  Meets (Builtin.«enumerate.__new__» ⟨[.type "enumerate",.ref l],[]⟩) (λ_ R s=>cj b s.heap l xs/\
   R (.ok (.ret (.ref (s.heap.push (dy b l)).objs.size)))
    {s with heap:=(s.heap.push (dy b l)).push {cls:= .type "enumerate",data:= .fields #[.none,.bool false,.ref s.heap.objs.size,rawInt 0,.none,.none]}}):=
 .of_wp λprog w A R s h=>by
  obtain⟨hp,g,d,tk,os⟩:=s;obtain⟨hl,h⟩:=h;have zP:=sub_enumerate;cases b
  ·have hL:Heap.IsList (Shared.heap ⟨hp,g,d,tk,os⟩) l xs:=hl
   wp_walk
   refine wpAny_stack_any λst=>JQ ?_
   split
   ·rename_i c _ _ _ _ _;cases (c==Value.type "enumerate")
    ·wp_walk using wpAny_pyIter_list hL
     exact⟨_,rfl,h⟩
    ·wp_walk using wpAny_pyIter_list hL
     exact⟨_,rfl,h⟩
   ·wp_walk using wpAny_pyIter_list hL
    exact⟨_,rfl,h⟩
  ·have hL:Heap.IsTuple (Shared.heap ⟨hp,g,d,tk,os⟩) l xs:=hl
   wp_walk
   refine wpAny_stack_any λst=>JQ ?_
   split
   ·rename_i c _ _ _ _ _;cases (c==Value.type "enumerate")
    ·wp_walk using wpAny_pyIter_tuple hL
     exact⟨_,rfl,h⟩
    ·wp_walk using wpAny_pyIter_tuple hL
     exact⟨_,rfl,h⟩
   ·wp_walk using wpAny_pyIter_tuple hL
    exact⟨_,rfl,h⟩
section
variable {prog:Program} {w:World} {A:Around} {E:Value->Shared->Prop} {s:Shared}
theorem nO {b:Bool} {l:Addr} {xs:Array Value} {Q:Value->Shared->Prop} (hl:cj b s.heap l xs)
  (h:∀h',IsEnum h' (s.heap.objs.size + 1) s.heap.objs.size 0 .none->aT b h' s.heap.objs.size l 0->(∀c o,s.heap.get? c=some o->h'.get? c=some o)->Q (.ref (s.heap.objs.size + 1)) {s with heap:=h'}):
  wpAny (model prog w) A (call (.type "enumerate") [.ref l]) Q E s:=by
 refine callType_new F.called_enumerate (by decide) (F.typeCall_enumerate_1 _) (F.newCall_enumerate_1 _) (λobj=>F.args_object_init_2 obj _) F.entry_enumerate_new
  (qQ b l xs) ⟨hl,?_⟩
 have hz:(s.heap.push (dy b l)).objs.size=s.heap.objs.size + 1:=Kl ..;have he:IsEnum ((s.heap.push (dy b l)).push {cls:= .type "enumerate",data:= .fields #[.none,.bool false,.ref s.heap.objs.size,rawInt 0,.none,.none]}) (s.heap.push (dy b l)).objs.size s.heap.objs.size 0 .none:=JY _ rfl;have g1:=JP {cls:= .type "enumerate",data:= .fields #[.none,.bool false,.ref s.heap.objs.size,rawInt 0,.none,.none]} (JY s.heap (ei b l));show _/\_;rw[hz] at he;rw[hz];exact⟨⟨_,he,rfl⟩,h _ he (fI g1) λc o x=>JP _ (JP _ x)⟩
end
noncomputable def ED (b:Bool) (l:Addr):It where
 go:=λi H=>∃xs x,H l=some (f6 b xs)/\xs[i]?=some x
 yld:=λi H v H'=>∃p x,v= .ref p/\H p=none/\H'=upd H p (.tup [.int i,x])/\∀xs,H l=some (f6 b xs)->xs[i]?=some x
 stop:=λi H=>∃xs,H l=some (f6 b xs)/\xs.length=i
noncomputable def eT (b:Bool) (e it l:Addr) (i:Nat) (h:Heap):Prop:=(∃old,IsEnum h e it i old)/\aT b h it l i
theorem oZ {P:Program} {w:World} {K:PySem.W.Frag} {es:List Expr} {k:Nat} {tp:Pos} {b:Bool} {e it l:Addr} (ap:e≠it):
  Turn P w K (.Tuple es k tp) (ED b l) [e,it] e (eT b e it l) where
 mem:=by simp
 obj:=λi h st c hb=>by
  obtain⟨⟨old,s1⟩,s4⟩:=st;simp only[J3,J4,or_false] at hb;rcases hb with rfl | rfl
  ·exact⟨_,s1,λv q=>by cases q⟩
  ·exact s4.obj
 keep:=λi h h' st kk=>by obtain⟨⟨old,s1⟩,s4⟩:=st;exact⟨⟨old,kk e (by simp) _ s1⟩,s4.at λo q=>kk it (by simp) o q⟩
 item:=by
  intro X hP hw hK hc i pins s σ H E I hf st hg;subst hP hw hK;obtain⟨xs,x,cP,hx⟩:=hg;obtain⟨⟨old,s1⟩,s4⟩:=st;obtain⟨bM,r1,p1⟩:=bB I cP;obtain⟨u1,pQ,C9⟩:=r1.get hx;have ne:∀{l:Addr} {o:HO},H l=some o->∀c∈[e,it],l≠c:=λ {l o} hl c hb q=>by subst q;rw[(hf l hb).1] at hl;cases hl
  have bZ:i < bM.toArray.size:=by have:=(JU.mp pQ).1;simpa using this
  refine wpAny_pyNext_enum_itemD (sX (A:=X.A.in1) (I.ok.hd hc) b it l (ne cP it (by simp)) bM.toArray) s1 ⟨s4,p1⟩ bZ ap (λhm=>?_) λy h' tk hy a1 a2 a3 a4 a5=>⟨_,rfl,?_⟩
  ·rcases J3.mp hm with q | hm
   ·exact ap q
   ·exact ne cP e (by simp) (Kp.mp hm).symm
  have IV:y=u1:=by
   have q:bM.toArray[i]?=some u1:=by simpa using pQ
   rw[q] at hy;exact(Option.some.inj hy).symm
  subst IV;refine wpAny_letOwnedTupleGo_enum (s:={s with heap:=h',toks:=tk + 1}) a1 λh2 c1 c2=>?_
  have B7:s.heap.objs.size≠e:=λq=>by have:=J0 s1;rw[<-q] at this;exact Nat.lt_irrefl _ this
  have B5:h2.get? s.heap.objs.size=some {cls:= .type "tuple",data:= .seq #[.int i tk,y]}:=(c2.2 _ B7).trans a3;have kk:∀b o,b∉[e,it]->s.heap.get? b=some o->h2.get? b=some o:=λb o hb q=>by simp only[J3,J4,or_false,not_or] at hb;exact(c2.2 b hb.1).trans (a5 b o hb.1 hb.2 q)
  have lt:∀{b:Addr} {o:Obj},s.heap.get? b=some o->b≠s.heap.objs.size:=λe=>Km (J0 e)
  have gS:∀b u,H b=some u->b∉[e,it]:=λb u q hb=>by rw[(hf b hb).1] at q;cases q
  have gf:H s.heap.objs.size=none:=I.fresh;have I2:Inv X pins σ (upd H s.heap.objs.size (.tup [.int i,x])) {s with heap:=h2,toks:=tk + 1}:=by
   refine I.step (g':=s.gens) (d':=s.drawn) (ch:=[e,it]) (λb hb=>⟨(hf b hb).2.2.2.1,(hf b hb).2.1,(hf b hb).2.2.2.2.1,(hf b hb).2.2.2.2.2⟩) (λb o _ _ hb e _=>kk b o hb e) (λb o _ _ hb e _=>⟨o.slots,kk b o hb e⟩)
    (λb o hb e n=>by rw[ah (lt e)];exact n) (λb o hb e=>⟨o,kk b o hb e⟩) (λb zs e=>by rw[ah (ak e gf)];exact e) (λb o u e=>by rw[ah (ak e gf)];exact e)
    (λb ps e=>⟨#[],by rw[ah (ak e gf),e];simp⟩) (λm hm=>?_) (λb u q=>?_) I.bare
   ·obtain⟨o,cc,ep,ho,rr⟩:=hm;exact⟨o,cc,ep,kk _ o (λhb=>(hf _ hb).2.1 rfl) ho,rr⟩
   ·by_cases hb:b=s.heap.objs.size
    ·subst hb;rw[ar] at q;cases q;exact⟨by show 2<=sizeLine;decide,[.int i tk,y],.cons ⟨_,rfl⟩ (.cons C9 .nil),_,B5,rfl,0,rfl⟩
    ·rw[ah hb] at q;refine(I.hok b u q).fX (λc v hc z=>kk c v ?_ z) (λc z=>by rw[ah (ak z gf)];exact z) λc zs z=>by rw[ah (ak z gf)];exact z
     rcases hc with rfl | hc
     ·exact gS c u q
     ·exact gS c _ hc
  refine⟨.ref s.heap.objs.size,_,I2,rfl,⟨s.heap.objs.size,x,rfl,gf,rfl,λez q1=>?_⟩,⟨⟨_,by simpa using c1⟩,a2.1.at λo q=>(c2.2 it ap.symm).trans q⟩,λb hb=>?_⟩
  ·rw[cP] at q1;rw[hU (Option.some.inj q1).symm];exact hx
  ·rw[ah (λq=>?_)]
   ·exact(hf b hb).1
   ·have z:∃o,s.heap.get? b=some o:=by
     simp only[J3,J4,or_false] at hb;rcases hb with rfl | rfl
     ·exact⟨_,s1⟩
     ·obtain⟨o,e,_⟩:=s4.obj;exact⟨o,e⟩
    obtain⟨o,z⟩:=z;exact lt z q
 done:=by
  intro X hP hw hK hc i pins s σ H E I hf st hg;subst hP hw hK;obtain⟨xs,cP,qX⟩:=hg;obtain⟨⟨old,s1⟩,s4⟩:=st;obtain⟨bM,r1,p1⟩:=bB I cP;have ne:∀{l:Addr} {o:HO},H l=some o->∀c∈[e,it],l≠c:=λ {l o} hl c hb q=>by subst q;rw[(hf l hb).1] at hl;cases hl
  have e1:=r1.length;have hn:bM.toArray.size=i:=by simp;lia
  refine wpAny_pyNext_enum_endD (sX (A:=X.A.in1) (I.ok.hd hc) b it l (ne cP it (by simp)) bM.toArray) s1 (by rw[hn];exact⟨s4,p1⟩) λh' kk=>⟨rfl,?_⟩
  have gS:∀b u,H b=some u->b∉[e,it]:=λb u q hb=>by rw[(hf b hb).1] at q;cases q
  have gQ:∀b o,b∉[e,it]->s.heap.get? b=some o->h'.get? b=some o:=λb o hb q=>by simp only[J3,J4,or_false,not_or] at hb;exact kk b o hb.2 q
  refine I.step (g':=s.gens) (d':=s.drawn) (t':=s.toks) (h':=h') (ch:=[e,it]) (λb hb=>⟨(hf b hb).2.2.2.1,(hf b hb).2.1,(hf b hb).2.2.2.2.1,(hf b hb).2.2.2.2.2⟩) (λb o _ _ hb e _=>gQ b o hb e) (λb o _ _ hb e _=>⟨o.slots,gQ b o hb e⟩)
   (λb o hb e n=>n) (λb o hb e=>⟨o,gQ b o hb e⟩) (λb zs e=>e) (λb o u e=>e) (λb ps e=>⟨#[],by rw[e];simp⟩) (λm hm=>?_) (λb u q=>?_) I.bare
  ·obtain⟨o,cc,ep,ho,rr⟩:=hm;exact⟨o,cc,ep,gQ _ o (λhb=>(hf _ hb).2.1 rfl) ho,rr⟩
  ·refine(I.hok b u q).fX (λc v hc z=>gQ c v ?_ z) (λc z=>z) λc zs z=>z
   rcases hc with rfl | hc
   ·exact gS c u q
   ·exact gS c _ hc
 self:=λ_ _ _ _ _ st h=>by obtain⟨⟨old,s1⟩,_⟩:=st;exact wpAny_pyIter_enum s1 h
noncomputable def zR (ta:TA):TI:=λσ H R=>ta σ H λvs H1=>∃b l xs,vs=[.ref l]/\H1 l=some (f6 b xs)/\R (ED b l) H1
theorem uz {X:Cx} {es:List Expr} {k:Nat} {tp:Pos} {a:Expr} {ta:TA} {p pos:Pos} (hg:Gl X "enumerate") (hm:X.mg "enumerate"=none) (ha:PA X [a] ta) (hs:starEach [a] X.env=[(false,eval a X.env)]:=by rfl):
  PI X (.Tuple es k tp) (.Call (.Name "enumerate" p) [a] [] pos) (zR ta):=by
 intro pins s σ H R I h;refine Call_ (b7 I hg hm boot_enumerate (PyProof.Rows.callWith_type1 (bo (ha pos pins s σ H _ I h) λus s1 ⟨vs,H1,I1,r1,q1⟩=>?_) (by rw[hs];rfl) rfl));obtain⟨b,l,xs,e,e1,q⟩:=q1;subst e;obtain⟨u,rfl,ru⟩:=r1.one;cases ru;obtain⟨bM,_,p1⟩:=bB I1 e1;refine nO p1 λh' g1 g2 kk=>?_
 refine wpAny_pyIter_enum (s:={s1 with heap:=h'}) g1 ?_;have I2:Inv X pins σ H1 {s1 with heap:=h'}:=I1.kept (t':=s1.toks) kk;refine⟨s1.heap.objs.size + 1,[s1.heap.objs.size + 1,s1.heap.objs.size],_,_,H1,rfl,I2,oZ (l:=l) (Nat.succ_ne_self _),⟨⟨_,g1⟩,g2⟩,λc hb=>?_,q⟩;have jB:s1.heap.objs.size<=c:=by simp only[J3,J4,or_false] at hb;rcases hb with h | h <;> (rw[h];first | exact Nat.le_add_right _ _ | exact JW _)
 exact I1.kQ jB (I1.hok.fresh jB)
end Mx
end
section
namespace MxTim
open PySem PySem.W PyProof.Rows
noncomputable def HP:Bool->Keyed->Array Keyed->Nat->Nat->Nat->StateT SortSt Sem (Option Nat):=sortPriv% PySem.Builtin.gallop
section
variable {O:KeyOrd} {ky:Keyed->O.α}
noncomputable def le (O:KeyOrd) (ky:Keyed->O.α) (x y:Keyed):Prop:=O.kle (ky x) (ky y)
end
noncomputable abbrev SS:=Option (Array Keyed)×Array Keyed×Nat×Nat×Nat×Nat
noncomputable abbrev GH:=Option (Array Keyed)×Nat×Nat×Array Keyed×Nat×Nat×Nat
noncomputable def zm (x y o:Array Keyed) (i j:Nat):Array Keyed:=x.extract 0 i++y.extract 0 j++o.reverse
noncomputable def BX (x y o:Array Keyed) (i j:Nat):Array Keyed:=y.extract 0 j++x.extract 0 i++o.reverse
noncomputable def Ha (x y o:Array Keyed) (i j mg ca cb:Nat):StateT SortSt Sem (ForInStep GH):=do
 let e<-elem' x (i - 1)
 if (i - 1==0)=true then pure (.done (some (zm x y (o.push e) (i - 1) j),i - 1,j,o.push e,mg,ca,cb))
 else if (decide (ca < 7)&&decide (cb < 7))=true then pure (.done (none,i - 1,j,o.push e,mg,ca,cb))
 else pure (.yield (none,i - 1,j,o.push e,mg,ca,cb))
noncomputable def eZ (x y o:Array Keyed) (i j mg ca GO:Nat):StateT SortSt Sem (ForInStep GH):=do
 let e<-elem' y (j - 1)
 if (j - 1==1)=true then pure (.done (some (BX x y (o.push e) i (j - 1)),i,j - 1,o.push e,mg,ca,GO))
 else do
  let f<-elem' x (i - 1)
  let r<-HP true f y 0 (j - 1) (j - 1 - 1)
  match r with
  | some k=>
   if j - 1 - k > 0 then
    if (k==1)=true then pure (.done (some (BX x y (o.push e++(y.extract k (j - 1)).reverse) i k),i,k,o.push e++(y.extract k (j - 1)).reverse,mg,ca,j - 1 - k))
    else if (k==0)=true then pure (.done (some (zm x y (o.push e++(y.extract k (j - 1)).reverse) i k),i,k,o.push e++(y.extract k (j - 1)).reverse,mg,ca,j - 1 - k))
    else Ha x y (o.push e++(y.extract k (j - 1)).reverse) i k mg ca (j - 1 - k)
   else Ha x y (o.push e) i (j - 1) mg ca (j - 1 - k)
  | _=>pure (.done (some (zm x y (o.push e) i (j - 1)),i,j - 1,o.push e,mg,ca,GO))
noncomputable def back (M:Array Keyed) (p:Nat) (a:Array Keyed):Array Keyed:=M.toList.zipIdx.foldl (λb (q,j)=>b.setIfInBounds (p + j) q) a
section
variable {O:KeyOrd} {ky:Keyed->O.α} {Mem:Keyed->Prop}
variable {prog:Program} {w:World} {A:Around} {E:Value->Shared->Prop} {κ:SortKind} {s:Shared}
theorem er (n1 n2 pw z:Nat):((#[(0,n1,pw),(n1,n2,z)]:Array (Nat×Nat×Nat)).setIfInBounds 0 (0,n1 + n2,pw)).eraseIdxIfInBounds (0 + 1)=#[(0,n1 + n2,pw)]:=by simp[Array.eraseIdxIfInBounds]
end
noncomputable def aL (lo n m:Nat):StateT SortSt Sem AscSt:=
 forIn [n:m] ((none,n):AscSt) λ_ r=>do
  let x<-ltAt' (lo + r.2) (lo + r.2 - 1)
  match x with
  | some c=>if c=true then pure (.done (none,r.2)) else pure (.yield (none,r.2 + 1))
  | _=>pure (.done (some none,r.2))
noncomputable def t3 (lo n m:Nat):StateT SortSt Sem (Option Nat):=do
 reverseSlice' lo (lo + n)
 let r<-aL lo n m
 match r.1 with
 | some v=>pure v
 | none=>pure (some r.2)
noncomputable def ix (p:Array (Nat×Nat×Nat)):Nat:=if (if p.size - 2 > 0 then p[p.size - 2 - 1]?.map (·.2.1) else none).any (· < (p[p.size - 2 + 1]?.elim 0 (·.2.1))) then p.size - 2 - 1 else p.size - 2
end MxTim
end
section
namespace Mx
open PySem PySem.W PySem.Spec PyProof.Rows L2 PySem.SeqAt MxSort
inductive SK where
 | tt | ts | ti | s | i
 deriving DecidableEq
noncomputable def SK.ok:SK->D->Prop
 | .tt,d=>∃f r,d= .tup (.tup f::r)
 | .ts,d=>∃f r,d= .tup (.str f::r)
 | .ti,d=>∃f r,d= .tup (.int f::r)
 | .s,d=>∃x,d= .str x
 | .i,d=>∃x,d= .int x
noncomputable def SK.κ:SK->SortKind
 | .tt=>tuples' false
 | .ts=>tuples' true
 | .ti=>tuples' true
 | .s=>oneType'
 | .i=>oneType'
noncomputable def SK.f:SK->String
 | .tt=>"tuple"
 | .ts=>"str"
 | .s=>"str"
 | _=>"int"
section
variable {P:Program} {w:World} {H:Hp} {prog:Program} {s:Shared} {A:Around}
theorem wJ {b:Bool} {n m:Nat} {Q:Bool->Shared->Prop} {v wv:Value} {us vs:List Value} {d e:D} {ds es:List D} (z:Zp A s (v::us) (wv::vs) (d::ds) (e::es))
  (hs:b=true->∀{E:Value->Shared->Prop},wpAny (model prog w) A (oneLt' true v wv) (λr s'=>r=D.lt d e/\s'=s) E s)
  (hlen:ds.length + m=es.length + n) (q:Q (D.dP (d::ds) (e::es)) s):KatLex prog w A b (decide (n < m)) Q ((v::us).zip (wv::vs)) 0 s:=by
 cases z with
 | cons he hl z'=>
  rw[List.zip_cons_cons];rw[D.c7] at q;refine kat_cons (he prog w _ _ ?_);by_cases hde:d=e
  ·rw[(D.bQ d e).mpr hde];rw[if_pos hde] at q;exact kat_yes (wI z' 1 (by lia) hlen q)
  ·rw[show D.eJ d e=false by rw[D.fy];exact Kg hde];rw[if_neg hde] at q;refine kat_no ?_;cases b with
   | false=>rw[show (false&&0==0)=false by rfl];exact kat_one v wv (hl hde prog w _ _ q)
   | true=>rw[show (true&&0==0)=true by rfl];exact wpAny_mono (hs rfl) (λr s' ⟨e1,e2⟩=>by subst e1 e2;exact q) λ_ _ x=>x
theorem k6 (hok:cG P w H s.heap) {n:Nat} (hu:A.units + n < cLine) {b:Bool} {d0 e0:D} {dr er:List D} {x y:V} {u v:Value} (hd:D.dep (.tup (d0::dr))<=n + 1) (hl:D.dH (.tup (d0::dr)) (.tup (e0::er)))
  (hs:b=true->(∃p q,d0= .str p/\e0= .str q)\/∃p q,d0= .int p/\e0= .int q) (hx:DV H x (.tup (d0::dr))) (hy:DV H y (.tup (e0::er))) (rx:RelV x u) (ry:RelV y v) {Q:Bool->Shared->Prop} {E:Value->Shared->Prop}
  (q:Q (D.lt (.tup (d0::dr)) (.tup (e0::er))) s):wpAny (model prog w) A (keyLt' (tuples' b) u v) Q E s:=by
 obtain⟨a,xs,q1,e1,e2⟩:=hx.ae;subst q1;cases rx;obtain⟨b',ys,q1,f1,f2⟩:=hy.ae;subst q1;cases ry;obtain⟨its,r1,o,ho,hc,k,qW⟩:=au hok e1;obtain⟨aB,r2,o2,pO,qU,k2,oj⟩:=au hok f1;obtain⟨x0,xr,rfl,Bq,GU⟩:=e2.cons_inv;obtain⟨y0,yr,rfl,GV,HR⟩:=f2.cons_inv;cases r1 with
 | cons r10 r1r=>
  cases r2 with
  | cons r20 r2r=>
   rename_i u0 ur v0 vr;have oh:D.bp (d0::dr)<=n:=by unfold D.dep at hd;lia
   have vC:D.eK (d0::dr) (e0::er):=by unfold D.dH at hl;exact hl
   have zz:Zp A s (u0::ur) (v0::vr) (d0::dr) (e0::er):=vo hok hu (λd e x y u v hd2 eZ Cu hy2 rx2 ry2=>wO hok n d e x y u v A hd2 hu eZ Cu hy2 rx2 ry2) oh vC e2 f2 (.cons r10 r1r) (.cons r20 r2r);refine kat_lt ho qW pO oj ?_;have l1:(u0::ur).toArray.size=(d0::dr).length:=by rw[JS,J9,J9,<-r1r.length,GU.length]
   have l2:(v0::vr).toArray.size=(e0::er).length:=by rw[JS,J9,J9,<-r2r.length,HR.length]
   have q':Q (D.dP (d0::dr) (e0::er)) s:=by have z:=q;unfold D.lt at z;exact z
   refine wJ zz (λhb=>?_) (by rw[l1,l2];simp only[J9];lia) q';intro E';rcases hs hb with ⟨p,q2,rfl,rfl⟩ | ⟨p,q2,rfl,rfl⟩
   ·have z1:=Bq.str_inv;have z2:=GV.str_inv;subst z1 z2;obtain⟨t,rfl⟩:=r10;obtain⟨t',rfl⟩:=r20;exact oneLt_str ⟨by unfold D.lt;rfl,rfl⟩
   ·have z1:=Bq.int_inv;have z2:=GV.int_inv;subst z1 z2;obtain⟨t,rfl⟩:=r10;obtain⟨t',rfl⟩:=r20;exact oneLt_int ⟨by unfold D.lt;rfl,rfl⟩
theorem jZ (x y:Value):keyLt' oneType' x y=oneLt' true x y:=rfl
theorem wK (hok:cG P w H s.heap) {n:Nat} (hu:A.units + n < cLine) (k:SK) {d e:D} {x y:V} {u v:Value} (hd:D.dep d<=n + 1) (hl:D.dH d e) (fd:k.ok d) (fe:k.ok e) (hx:DV H x d) (hy:DV H y e) (rx:RelV x u) (ry:RelV y v) {Q:Bool->Shared->Prop} {E:Value->Shared->Prop}
  (q:Q (D.lt d e) s):wpAny (model prog w) A (keyLt' k.κ u v) Q E s:=by
 cases k with
 | tt=>obtain⟨f,r,rfl⟩:=fd;obtain⟨f',r',rfl⟩:=fe;exact k6 (b:=false) hok hu hd hl (λz=>nomatch z) hx hy rx ry q
 | ts=>obtain⟨f,r,rfl⟩:=fd;obtain⟨f',r',rfl⟩:=fe;exact k6 hok hu hd hl (λ_=> .inl ⟨_,_,rfl,rfl⟩) hx hy rx ry q
 | ti=>obtain⟨f,r,rfl⟩:=fd;obtain⟨f',r',rfl⟩:=fe;exact k6 hok hu hd hl (λ_=> .inr ⟨_,_,rfl,rfl⟩) hx hy rx ry q
 | s=>obtain⟨f,rfl⟩:=fd;obtain⟨f',rfl⟩:=fe;have z1:=hx.str_inv;have z2:=hy.str_inv;subst z1 z2;obtain⟨t,rfl⟩:=rx;obtain⟨t',rfl⟩:=ry;show wpAny _ _ (keyLt' oneType' _ _) _ _ _;rw[jZ];unfold D.lt at q;exact oneLt_str q
 | i=>obtain⟨f,rfl⟩:=fd;obtain⟨f',rfl⟩:=fe;have z1:=hx.int_inv;have z2:=hy.int_inv;subst z1 z2;obtain⟨t,rfl⟩:=rx;obtain⟨t',rfl⟩:=ry;show wpAny _ _ (keyLt' oneType' _ _) _ _ _;rw[jZ];unfold D.lt at q;exact oneLt_int q
theorem p5 (hok:cG P w H s.heap) {k:SK} (hk:k= .tt\/k= .ts\/k= .ti):∀{xs:List V} {us:List Value} {ds:List D},aC H xs ds->aq xs us->(∀d∈ds,k.ok d)->
  ∃fs,KatTups s.heap us fs/\fs.length=us.length/\∀v∈fs,Looks (model prog w) s.heap (typeOf v) (.type k.f)
 | [],us,ds,_,r,_=>by cases r;exact⟨[],KatTups.nil,rfl,λv hv=>absurd hv (by simp)⟩
 | x::xs,us,ds,h,r,hf=>by
  cases r with
  | cons r0 rr=>
   cases ds with
   | nil=>unfold aC at h;exact h.elim
   | cons d ds=>
    unfold aC at h;obtain⟨fs,t,l,lk⟩:=p5 hok hk h.2 rr λd hd=>hf d (JV _ hd)
    have sh:∃d0 dr,d= .tup (d0::dr)/\((k= .ts/\∃p,d0= .str p)\/(k= .ti/\∃p,d0= .int p)\/(k= .tt/\∃p,d0= .tup p)):=by
     have z:=hf d JX;rcases hk with rfl | rfl | rfl
     ·obtain⟨f,r,rfl⟩:=z;exact⟨_,_,rfl,.inr (.inr ⟨rfl,_,rfl⟩)⟩
     ·obtain⟨f,r,rfl⟩:=z;exact⟨_,_,rfl,.inl ⟨rfl,_,rfl⟩⟩
     ·obtain⟨f,r,rfl⟩:=z;exact⟨_,_,rfl,.inr (.inl ⟨rfl,_,rfl⟩)⟩
    obtain⟨d0,dr,rfl,qV⟩:=sh;obtain⟨a,ys,q1,e1,e2⟩:=h.1.ae;subst q1;cases r0;obtain⟨its,r1,o,ho,hc,kk,qW⟩:=au hok e1;obtain⟨x0,xr,rfl,Bq,GU⟩:=e2.cons_inv;cases r1 with
    | cons r10 r1r=>
     rename_i u0 ur;refine⟨u0::fs,KatTups.cons ho hc qW (by simp) t,by simp[l],λv hv=>?_⟩;rcases J3.mp hv with rfl | hv
     ·rcases qV with ⟨hb,p,rfl⟩ | ⟨hb,p,rfl⟩ | ⟨hb,p,rfl⟩
      ·have z1:=Bq.str_inv;subst z1;obtain⟨t',rfl⟩:=r10;rw[hb];exact Looks.of_pure rfl
      ·have z1:=Bq.int_inv;subst z1;obtain⟨t',rfl⟩:=r10;rw[hb];exact Looks.of_pure rfl
      ·obtain⟨a2,y2,q2,g1,g2⟩:=Bq.ae;subst q2;cases r10;obtain⟨aB,_,o2,pO,qU,_⟩:=au hok g1;rw[hb];show Looks (model prog w) _ _ (Value.type "tuple");rw[<-qU];exact(Looks.ld pO).andThen .now
     ·exact lk v hv
theorem qv:∀{xs:List V} {us:List Value} {ds:List D},aC H xs ds->aq xs us->(∀d∈ds,SK.s.ok d)->∃ss,StrsAre us ss
 | [],us,ds,_,r,_=>by cases r;exact⟨[],.nil⟩
 | x::xs,us,ds,h,r,hf=>by
  cases r with
  | cons r0 rr=>
   cases ds with
   | nil=>unfold aC at h;exact h.elim
   | cons d ds=>
    unfold aC at h;obtain⟨ss,q⟩:=qv h.2 rr λd hd=>hf d (JV _ hd)
    obtain⟨y,rfl⟩:=hf d JX;have z1:=h.1.str_inv;subst z1;obtain⟨t,rfl⟩:=r0;exact⟨y::ss,.cons y t q⟩
theorem pS:∀{xs:List V} {us:List Value} {ds:List D},aC H xs ds->aq xs us->(∀d∈ds,SK.i.ok d)->∃ss,IntsAre us ss
 | [],us,ds,_,r,_=>by cases r;exact⟨[],.nil⟩
 | x::xs,us,ds,h,r,hf=>by
  cases r with
  | cons r0 rr=>
   cases ds with
   | nil=>unfold aC at h;exact h.elim
   | cons d ds=>
    unfold aC at h;obtain⟨ss,q⟩:=pS h.2 rr λd hd=>hf d (JV _ hd)
    obtain⟨y,rfl⟩:=hf d JX;have z1:=h.1.int_inv;subst z1;obtain⟨t,rfl⟩:=r0;exact⟨y::ss,.cons y t q⟩
theorem CF (hok:cG P w H s.heap) (k:SK) {xs:List V} {us:List Value} {ds:List D} (hd:aC H xs ds) (r:aq xs us) (hf:∀d∈ds,k.ok d) (h2:2<=us.length) {Q:SortKind->Shared->Prop} {E:Value->Shared->Prop} (q:Q k.κ s):
  wpAny (model prog w) A (keyKind' us.toArray) Q E s:=by
 have tup:k= .tt\/k= .ts\/k= .ti->wpAny (model prog w) A (keyKind' us.toArray) Q E s:=λhk=>by obtain⟨fs,t,l,lk⟩:=p5 (prog:=prog) hok hk hd r hf;refine kat_kind t (by lia) lk (by rcases hk with rfl | rfl | rfl <;> rfl) ?_;rcases hk with rfl | rfl | rfl <;> exact q
 cases k with
 | tt=>exact tup (.inl rfl)
 | ts=>exact tup (.inr (.inl rfl))
 | ti=>exact tup (.inr (.inr rfl))
 | s=>
  obtain⟨ss,hs⟩:=qv hd r hf
  match us,h2,hs with
  | v1::v2::vs,_,hs=>rw[keyKind_strs hs];exact JQ q
 | i=>
  obtain⟨ss,hs⟩:=pS hd r hf
  match us,h2,hs with
  | v1::v2::vs,_,hs=>rw[keyKind_ints hs];exact JQ q
end
noncomputable def fg (ds:List D):Prop:=ds.length < 64/\(2<=ds.length->D.bp ds<=100/\(∃k:SK,∀d∈ds,k.ok d)/\∀d∈ds,∀e∈ds,D.dH d e)
section
variable {X:Cx} {pins:List (Addr×Obj)} {σ:L2.St} {H:Hp}
theorem kc {s:Shared} {A:Around} {Q:PySem.Fin->Shared->Prop} {E:Value->Shared->Prop} (hu:A.units + 148 < cLine) (I:Inv X pins σ H s) {ys:List V} {its:List Value} {ds:List D} (rv:aq ys its) (jA:aC H ys ds) (hc:fg ds)
  (q:∀(l:Addr) (zs:List V) (es:List D) (s':Shared),H l=none->aC H zs es->fj ds es->Inv X pins σ (upd H l (.lst zs)) s'->Q (.done (.ret (.ref l))) s'):
  wpAny (model X.prog X.w) A (do let l<-newList its;let _<-holding [l] (call (.builtin "list.sort") [l] []);ret l) Q E s:=by
 obtain⟨hlen,hc⟩:=hc;have hl:=rv.length;have eZ:=jA.length;have zO:its.length<=sizeLine:=by rw[sizeLine_eq];lia
 refine JN (wpAny_newList ?_ (by simpa using zO));have Ea:(s.heap.push (seqObj "list" its.toArray 0)).get? s.heap.objs.size=some (seqObj "list" its.toArray 0):=JY _ rfl;show wpAny _ _ _ _ _ {s with heap:=s.heap.push (seqObj "list" its.toArray 0)};have ne:∀b o,s.heap.get? b=some o->b≠s.heap.objs.size:=λb o e=>Km (J0 e)
 refine JN (wpAny_holding (wpAny_call_entry slot_list_sort (s:={s with heap:=s.heap.push (seqObj "list" its.toArray 0)}) ⟨_,Ea,rfl⟩ entry_list_sort
  (xI (s:={s with heap:=s.heap.push (seqObj "list" its.toArray 0)}) (O:=BS) (key:=λi=>ds.getD i (.int 0)) Ea (by lia) (λh2 h' kk=>?_) λp h' e hp hup kk hD=>?_) (args_list_sort _)))
 ·obtain⟨zB,⟨k,hf⟩,qZ⟩:=hc (by lia);have wx:cG X.prog X.w H h':=I.hok.kept λb o e=>kk b o (ne b o e) (JP _ e)
  refine⟨k.κ,λQ' E' q'=>CF (s:={s with heap:=h'}) wx k jA rv hf (by lia) q',λi j hi hj C hC=>?_⟩
  ·obtain⟨di,E5,HL⟩:=jA.get (i:=i) (x:=ys[i]'(by lia)) (by simp);obtain⟨dj,GR,HM⟩:=jA.get (i:=j) (x:=ys[j]'(by lia)) (by simp);obtain⟨ui,IQ,Jh⟩:=rv.get (i:=i) (x:=ys[i]'(by lia)) (by simp);obtain⟨uj,IR,Ji⟩:=rv.get (i:=j) (x:=ys[j]'(by lia)) (by simp);unfold kas_ask;rw[show its.getD i Value.none=ui by simp[IQ],show its.getD j Value.none=uj by simp[IR]];have ki:ds.getD i (.int 0)=di:=by simp[E5]
   have kj:ds.getD j (.int 0)=dj:=by simp[GR]
   have mi:di∈ds:=List.mem_of_getElem? E5;have mj:dj∈ds:=List.mem_of_getElem? GR;refine wK (s:={s with heap:=h'}) wx (n:=100) (by show A.units + 1 + 100 < cLine;lia) k (J1 (kL E5) (by lia)) (qZ di mi dj mj) (hf di mi) (hf dj mj) HL HM Jh Ji ?_;have GW:C (D.lt (ds.getD i (.int 0)) (ds.getD j (.int 0))) {s with heap:=h'}:=hC;rw[ki,kj] at GW;exact GW
 ·refine⟨_,rfl,JQ ?_⟩;have yj:p.toList.Perm (List.range its.length):=hp;have rY:∀i∈p.toList,i < ys.length:=λi hi=>by
   have:=KB.mp (yj.mem_iff.mp hi)
   lia
  have new:bq X.prog X.w (upd H s.heap.objs.size (.lst (p.toList.map λi=>ys.getD i .ba))) h' s.heap.objs.size (.lst (p.toList.map λi=>ys.getD i .ba)):=
   ⟨by rw[JZ,yj.length_eq,List.length_range];rw[sizeLine_eq];lia,_,e,ng rv rY,hD⟩
  have I2:=I.laid (t':=s.toks) (a:=s.heap.objs.size) (λb o q=>kk b o (ne b o q) (JP _ q)) (JW _) new;refine q _ _ (p.toList.map λi=>ds.getD i (.int 0)) _ (I.hok.fresh (JW _)) (jA.map rY) ⟨?_,?_⟩ I2
  ·have e1:=yj.map (λi=>ds.getD i (.int 0));rw[show its.length=ds.length by lia] at e1;rw[iY] at e1;exact e1
  ·have FH:∀i j,i<=j->j < its.length->D.lt (ds.getD (p.getD j 0) (.int 0)) (ds.getD (p.getD i 0) (.int 0))=false:=hup;have jW:p.toList.length=its.length:=by rw[yj.length_eq,List.length_range]
   rw[List.pairwise_map,List.pairwise_iff_getElem];intro i j hi hj hij;have:=FH i j (by lia) (by lia);rw[show p.getD i 0=p.toList[i] by simp at hi;simp[Array.getD,hi],show p.getD j 0=p.toList[j] by simp at hj;simp[Array.getD,hj]] at this;exact this
end
noncomputable def AH (K:PySem.W.Frag):List V->Hp->VK->Prop:=λxs H Q=>∃a ys ds,xs=[.ref a]/\(cY K H a ys\/de K H a ys)/\aC H ys ds/\fg ds/\∀l zs es,H l=none->aC H zs es->fj ds es->Q (.ref l) (upd H l (.lst zs))
theorem kE {X:Cx} (hu:X.A.units + 150 < cLine):eE X (.builtin "sorted") (AH X.K):=by
 intro pins s σ H xs us Q I r h;obtain⟨a,ys,ds,rfl,hq,jA,hc,q⟩:=h;obtain⟨u,rfl,ru⟩:=r.one;cases ru;have sh:∃(its:List Value) (T:String) (o:Obj) (n:Nat),aq ys its/\(T="list"\/T="tuple")/\s.heap.get? a=some o/\o.cls= .type T/\o.data= .seq its.toArray n:=by
  rcases hq with hq | hq
  ·obtain⟨its,rv,⟨o,n,ho,hc,_,hd⟩,_⟩:=I.list hq;exact⟨its,"list",o,n,rv,.inl rfl,ho,hc,hd⟩
  ·obtain⟨its,rv,⟨o,ho,hc,n,hd⟩,_⟩:=I.tuple hq;exact⟨its,"tuple",o,n,rv,.inr rfl,ho,hc,hd⟩
 obtain⟨its,T,o,n,rv,hT,ho,zA,hd⟩:=sh;have zO:its.length<=sizeLine:=by rw[sizeLine_eq,<-rv.length,jA.length];have:=hc.1;lia
 refine Calls.call_function_entry kind_sorted plain_sorted entry_sorted (args_sorted1 _) ?_;unfold Builtin.«sorted»;refine JN (m:=checkCount "sorted" 1 1 _) (JQ (JN (wpAny_collect_seq a hT ho zA hd (λh1 k1=>?_) (by rw[JS];exact zO))));have I1:Inv X pins σ H {s with heap:=h1}:=I.kept (t':=s.toks) k1;exact kc (A:=X.A.in1) (by show X.A.units + 1 + 148 < cLine;lia) I1 rv jA hc λl zs es s' hl hz hso I2=>⟨_,rfl,.ref l,_,I2,rfl,q l zs es hl hz hso⟩
end Mx
end
section
namespace Mx
open PySem PySem.W PySem.Spec PyProof.Rows L2
theorem j8:typeLookup (.type "list_reverseiterator") "__len__"=pure none:=by rw[typeLookup_type,builtinLookup_eq_fast];kernel_rfl
theorem ma:typeLookup (.type "list_reverseiterator") "__length_hint__"=pure (some (.builtin "list_reverseiterator.__length_hint__")):=by rw[typeLookup_type,builtinLookup_eq_fast];kernel_rfl
section
variable {prog:Program} {w:World} {A:Around} {E:Value->Shared->Prop} {s:Shared}
theorem nY {R:Result->Shared->Prop} {I l:Addr} {items:Array Value} (hh:A.handled=none) (tR:l≠I) (hit:s.heap.IsRevIter I l ((items.size:Int) - 1)) (hl:s.heap.IsList l items) (hz:items.size<=sizeLine)
  (S:Addr) (res:Value) (c₀:Nat) (zw:S≠I) (D8:S≠l) (hS:s.heap.get? S=some {cls:= .type "list",data:= .seq #[] c₀})
  (hR:∀h' tk br c',(∀b o,b≠S->b≠I->s.heap.get? b=some o->h'.get? b=some o)->h'.get? S=some {cls:= .type "list",dict:=none,data:= .seq br c',slots:=#[]}->
   ItemsOf (λi v=>items[items.size - 1 - i]?=some v) br items.size->R (.ok (.ret res)) {s with heap:=h',toks:=tk}):
  wpAny (model prog w) A.in1 (Builtin.List.listExtendWith (.ref S) (.ref I) res)
   (λfin s'=>match fin with | .done f=>R (.ok f) s' | .again c'=>c'.quiet=true/\codeAny (model prog w) A c' R s') (λe s'=>R (.error e) s') s:=by
 have W:=(Walks.listRev (prog:=prog) (w:=w) (A:=A.in1) hh I l tR items).toS;have Bs:S∉[I,l]:=by simp[zw,D8]
 have hT:s.TypeIs (.ref I) "list_reverseiterator":=hit.typeIs;have h1:Builtin.List.listSameRef (.ref S) (.ref I)=false:=by simp[Builtin.List.listSameRef,zw]
 unfold Builtin.List.listExtendWith;refine JN (wpAny_typeOf hT ?_);rw[if_neg (by rw[h1];decide)];refine JN (wpAny_pyIter_revIter hit ?_);refine JN (wpAny_holding ?_);unfold Builtin.List.listLengthHint;refine JN (wpAny_specialOf hT j8 ?_);show wpAny _ A.in1 (specialOf (Value.ref I) (Str.ofString "__length_hint__") >>=_) _ _ _;refine JN (wpAny_specialOf hT ma ?_)
 (generalize zF:("list_reverseiterator.__length_hint__":String)=id0;(fail_if_success (clear zF id0));wp_delta;rw[show splitId id0=some ("list_reverseiterator","__length_hint__") from by subst zF;decide +kernel];subst zF)
 refine JN (wpAny_isInstance (b:=true) hT (by rw[isSubtype_type];kernel_rfl) ?_);refine JQ ?_;rw[if_neg (by decide)];refine JQ ⟨plainId_quiet F.plain_extend_loop _,codeAny_extend_loopS W hz S Bs res items.size 0 _ #[] c₀ rfl (Nat.zero_le _) ⟨Nat.zero_le _,?_,hl⟩ hS (ItemsOf.nil _) λs' br c' hm pL hacc=>?_⟩
 ·rw[show (items.size:Int) - 1 - ((0:Nat):Int)=(items.size:Int) - 1 by lia];exact hit
 ·rw[Moved.eq_with hm];refine hR s'.heap s'.toks br c' (λb o hb hb2 e=>hm.heap b o (λhmem=>?_) e) pL hacc;rcases J3.mp hmem with e' | hmem
  ·exact hb e'
  ·exact hb2 (Kp.mp hmem)
theorem tW {R:Result->Shared->Prop} {I l:Addr} {items:Array Value} (hh:A.handled=none) (tR:l≠I) (hit:s.heap.IsRevIter I l ((items.size:Int) - 1)) (hl:s.heap.IsList l items) (hz:items.size<=sizeLine)
  (S:Addr) (zw:S≠I) (D8:S≠l) (hS:s.heap.get? S=some {cls:= .type "list",data:= .seq #[]})
  (hR:∀h' tk br c',(∀b o,b≠S->b≠I->s.heap.get? b=some o->h'.get? b=some o)->h'.get? S=some {cls:= .type "list",dict:=none,data:= .seq br c',slots:=#[]}->
   ItemsOf (λi v=>items[items.size - 1 - i]?=some v) br items.size->R (.ok (.ret .none)) {s with heap:=h',toks:=tk}):
  wpAny (model prog w) A.in1 (Builtin.«list.__init__» ⟨[.ref S,.ref I],[]⟩)
   (λfin s'=>match fin with | .done f=>R (.ok f) s' | .again c'=>c'.quiet=true/\codeAny (model prog w) A c' R s') (λe s'=>R (.error e) s') s:=by
 show wpAny _ _ (do let old<-Builtin.List.listItems (.ref S);Builtin.List.listUpdate (.ref S) (λ_=>#[]);letGo old.toList.reverse;Builtin.List.listExtendWith (.ref S) (.ref I) .none) _ _ s;refine JN ?_;unfold Builtin.List.listItems;refine JN (wpAny_seqItems hS rfl (JQ ?_));show wpAny _ _ (updateSeq S (λ_=>#[]) >>=λ_=>letGo (#[]:Array Value).toList.reverse >>=λ_=>Builtin.List.listExtendWith (.ref S) (.ref I) .none) _ _ s;refine JN (wpAny_updateSeq hS rfl ?_);have hS₂:=Heap.get?_update_self (Obj.mapSeq (λ_=>(#[]:Array Value))) hS rfl;have F3:∀b o,b≠S->s.heap.get? b=some o->(s.heap.update S (Obj.mapSeq (λ_=>(#[]:Array Value)))).get? b=some o:=
  λb o hb e=>(Kj _ _ (Ne.symm hb)).trans e
 refine JN (wpAny_letGo ?_);refine nY hh tR (hit.at λo e=>F3 I o (Ne.symm zw) e) (hl.at λo e=>F3 l o (Ne.symm D8) e) hz S .none _ zw D8 hS₂ λh' tk br c' hk pL hacc=>?_
 exact hR h' tk br c' (λb o hb hb2 e=>hk b o hb hb2 (F3 b o hb e)) pL hacc
theorem jw {Q:Value->Shared->Prop} {I l:Addr} {items:Array Value} (hh:A.handled=none) (tR:l≠I) (hit:s.heap.IsRevIter I l ((items.size:Int) - 1)) (hl:s.heap.IsList l items) (hz:items.size<=sizeLine)
  (hQ:∀h' tk br c',(∀b o,b≠I->s.heap.get? b=some o->h'.get? b=some o)->
   h'.get? s.heap.objs.size=some {cls:= .type "list",dict:=none,data:= .seq br c',slots:=#[]}->ItemsOf (λi v=>items[items.size - 1 - i]?=some v) br items.size->Q (.ref s.heap.objs.size) {s with heap:=h',toks:=tk}):
  wpAny (model prog w) A (call (.type "list") [.ref I]) Q E s:=by
 refine callType_codes (Q₁:=λobj s₁=>obj= .ref s.heap.objs.size/\s₁={s with heap:=s.heap.push {cls:= .type "list",data:= .seq #[]}}) F.called_list (F.typeCall_list_1 _) F.entry_list_init
  (code_list_new _ ⟨rfl,rfl⟩) λobj s₁ h₁=>?_
 obtain⟨rfl,rfl⟩:=h₁;have hS:(s.heap.push {cls:= .type "list",data:= .seq #[]}).get? s.heap.objs.size=some {cls:= .type "list",data:= .seq #[]}:=JY _ rfl;have hI:s.heap.objs.size≠I:=by obtain⟨o,ho,_⟩:=hit;exact λe=>Nat.lt_irrefl _ (e▸J0 ho)
 have vC:s.heap.objs.size≠l:=by obtain⟨o,ho,_⟩:=hl;exact λe=>Nat.lt_irrefl _ (e▸J0 ho)
 refine⟨⟨_,hS,rfl⟩,F.args_list_init_2 _ _,tW (A:=A.in1) hh tR (hit.at λo e=>JP _ e) (hl.at λo e=>JP _ e) hz _ hI vC hS λh' tk br c' hk pL hacc=>?_⟩;exact⟨rfl,hQ h' tk br c' (λb o hb e=>hk b o (Km (J0 e)) hb (JP _ e)) pL hacc⟩
theorem jX {items acc:Array Value} (h:ItemsOf (λi v=>items[items.size - 1 - i]?=some v) acc items.size):acc=items.toList.reverse.toArray:=by
 refine Array.ext (by simp[h.1]) λi h1 h2=>?_
 have hi:i < items.size:=by rw[<-h.1];exact h1
 have q:items[items.size - 1 - i]?=some acc[i]:=h.2 i _ (Array.getElem?_eq_getElem h1);have q':items[items.size - 1 - i]'(by lia)=acc[i]:=by rw[Array.getElem?_eq_getElem (by lia)] at q;exact Option.some.inj q
 rw[<-q'];simp
end
noncomputable def Gz (te:TE):TE:=λσ H Q=>te σ H λv H1=>∃l xs,v= .ref l/\H1 l=some (.lst xs)/\∀n,H1 n=none->Q (.ref n) (upd H1 n (.lst xs.reverse))
theorem oK {X:Cx} {e:Expr} {te:TE} {p p2 pos eV:Pos} (hc:X.calm=true) (hg:Gl X "list") (hm:X.mg "list"=none) (jV:Gl X "reversed") (rZ:X.mg "reversed"=none) (he:PE X e te)
  (hs:starEach [e] X.env=[(false,eval e X.env)]:=by rfl) (gO:starEach [.Call (.Name "reversed" p2) [e] [] eV] X.env=[(false,eval (.Call (.Name "reversed" p2) [e] [] eV) X.env)]:=by rfl):
  PE X (.Call (.Name "list" p) [.Call (.Name "reversed" p2) [e] [] eV] [] pos) (Gz te):=by
 intro pins s σ H Q I h;refine wpAny_Call_Name_kw (b7 I hg hm PyProof.Rows.boot_list ?_ (by decide) (by decide));refine PyProof.Rows.callWith_type1 ?_ (by rw[gO];rfl) (by rfl);rw[gO];show wpAny _ _ (spliced ((false,eval (.Call (.Name "reversed" p2) [e] [] eV) X.env)::backTo pos [])) _ _ s;refine Calls.spliced_cons ?_;refine wpAny_Call_Name_kw (b7 I jV rZ PyProof.Rows.boot_reversed ?_ (by decide) (by decide));refine PyProof.Rows.callWith_type1 ?_ (by rw[hs];rfl) (by rfl);rw[hs];show wpAny _ _ (spliced ((false,eval e X.env)::backTo eV [])) _ _ s;refine Calls.spliced_cons (bo (he pins s σ H _ I h) λu s1 ⟨v,H1,I1,r1,l,xs,e1,hl,q⟩=>?_);subst e1;cases r1;refine Calls.spliced_nil ?_;obtain⟨its,r',pl,hz⟩:=I1.list (.inl (.inl hl));have hlen:=r'.length;refine call_reversed_list pl.isList ?_;refine Calls.spliced_nil ?_;have bZ:l < s1.heap.objs.size:=by obtain⟨o,ho,_⟩:=pl.isList;exact J0 ho
 have I2:Inv X pins σ H1 {s1 with heap:=s1.heap.push (revObj l (((its.toArray).size:Int) - 1)),toks:=s1.toks}:=I1.kept λb o e=>JP _ e
 refine jw (I:=s1.heap.objs.size) (l:=l) (items:=its.toArray) (I1.ok.hd hc) (Km bZ) ⟨_,JY _ rfl,rfl,rfl⟩ (pl.isList.at λo e=>JP _ e) (by simp only[JS];lia) λh' tk br c' hk pL hacc=>?_
 have ea:=jX hacc;subst ea;have fk:∀b o,s1.heap.get? b=some o->h'.get? b=some o:=λb o e=>hk b o (Km (J0 e)) (JP _ e)
 refine⟨.ref _,_,I1.laid (t':=tk) (a:=(s1.heap.push (revObj l (((its.toArray).size:Int) - 1))).objs.size) (o:= .lst xs.reverse) fk ?_ ⟨?_,_,c',r'.reverse,pL⟩,rfl,q _ (I1.hok.fresh ?_)⟩
 ·simp[Heap.push]
 ·rw[KC];exact hz
 ·simp[Heap.push]
theorem gn {i:Nat} {v:V} {σ:L2.St} {H:Hp} {k:L2.St->Hp->Prop} (h:k (σ.set i (some v)) H):cH i v σ H k:=h
end Mx
end
section
namespace Mx
open PySem PySem.W PySem.Spec PyProof.Rows L2 HT
open PySem.AutoSeq1 (wpAny_loadPart')
theorem tuple_addW0 (l b:Addr) (items dY:Array Value) (n n2:Nat) (dd vp:Option Addr) (sl se:Array (Option Value)) (JC:items.isEmpty=true):
  Meets (Builtin.«tuple.__add__» ⟨[.ref l,.ref b],[]⟩) (λ_ R s=>s.heap.get? l=some {cls:= .type "tuple",dict:=dd,data:= .seq items n,slots:=sl}/\s.heap.get? b=some {cls:= .type "tuple",dict:=vp,data:= .seq dY n2,slots:=se}/\R (.ok (.ret (Value.ref b))) s):=
 .of_wp λprog w A R s h=>by
  obtain⟨hp,g,d,tk,os⟩:=s;obtain⟨hl,hb,h⟩:=h;have f2:=sub_tuple_tuple
  wp_walk using wpAny_loadPart' hl,wpAny_loadPart' hb
  exact⟨_,rfl,h⟩
end Mx
end
section
namespace Mx
open PySem PySem.W PySem.Spec PyProof.Rows L2
section
variable {prog:Program} {w:World} {A:Around} {E:Value->Shared->Prop} {s:Shared}
theorem lS {Q:List Value->Shared->Prop} {I l:Addr} {items:Array Value} (hh:A.handled=none) (tR:l≠I) (hit:s.heap.IsRevIter I l ((items.size:Int) - 1)) (hl:s.heap.IsList l items) (hz:items.size<=sizeLine)
  (hQ:∀s' acc,Moved [I] (λa b=>b=a) s s'->ItemsOf (λi v=>items[items.size - 1 - i]?=some v) acc items.size->Q acc.toList s'):wpAny (model prog w) A (collect (.ref I)) Q E s:=by
 have W:=(Walks.listRev (prog:=prog) (w:=w) (A:=A.in1) hh I l tR items).toS;have B4:I < s.heap.objs.size:=by obtain⟨o,ho,_⟩:=hit;exact J0 ho
 have FA:l < s.heap.objs.size:=by obtain⟨o,ho,_⟩:=hl;exact J0 ho
 have Bs:s.heap.objs.size∉[I,l]:=by simp only[J3,J4,or_false,not_or];exact⟨Nat.ne_of_gt B4,Nat.ne_of_gt FA⟩
 have zw:s.heap.objs.size≠I:=Nat.ne_of_gt B4;unfold collect;refine JN (wpAny_runValue (codeAny_builtin F.entry_proto_collect ?_));rw[Around.under_plainId F.plain_proto_collect _];show wpAny _ A.in1 (newList [] >>=λl=>again (.builtin "list.__iadd__" ⟨[l,.ref I],[]⟩)) _ _ s;refine JN (wpAny_newObj_type ?_);refine JQ ⟨plainId_quiet F.plain_list_iadd _,codeAny_builtin F.entry_list_iadd ?_⟩;rw[Around.under_plainId F.plain_list_iadd _];have hS₁:(s.heap.push {cls:= .type "list",data:= .seq ([]:List Value).toArray}).get? s.heap.objs.size=some {cls:= .type "list",data:= .seq ([]:List Value).toArray}:=JY _ rfl;have hit₁:(s.heap.push {cls:= .type "list",data:= .seq ([]:List Value).toArray}).IsRevIter I l ((items.size:Int) - 1):=hit.at λo e=>JP _ e
 have hl₁:(s.heap.push {cls:= .type "list",data:= .seq ([]:List Value).toArray}).IsList l items:=hl.at λo e=>JP _ e
 have h1:Builtin.List.listSameRef (.ref s.heap.objs.size) (.ref I)=false:=by simp[Builtin.List.listSameRef,zw]
 show wpAny _ A.in1 (Builtin.List.listExtendWith (.ref s.heap.objs.size) (.ref I) (.ref s.heap.objs.size)) _ _ _;have hT:Shared.TypeIs {s with heap:=s.heap.push {cls:= .type "list",data:= .seq ([]:List Value).toArray}} (.ref I) "list_reverseiterator":=hit₁.typeIs;unfold Builtin.List.listExtendWith;refine JN (wpAny_typeOf hT ?_);rw[if_neg (by rw[h1];decide)];refine JN (wpAny_pyIter_revIter hit₁ ?_);refine JN (wpAny_holding ?_);unfold Builtin.List.listLengthHint;refine JN (wpAny_specialOf hT j8 ?_);show wpAny _ A.in1 (specialOf (Value.ref I) (Str.ofString "__length_hint__") >>=_) _ _ _;refine JN (wpAny_specialOf hT ma ?_)
 (generalize zF:("list_reverseiterator.__length_hint__":String)=id0;(fail_if_success (clear zF id0));wp_delta;rw[show splitId id0=some ("list_reverseiterator","__length_hint__") from by subst zF;decide +kernel];subst zF)
 refine JN (wpAny_isInstance (b:=true) hT (by rw[isSubtype_type];kernel_rfl) ?_);refine JQ ?_;rw[if_neg (by decide)];refine JQ ⟨plainId_quiet F.plain_extend_loop _,codeAny_extend_loopS W hz _ Bs _ items.size 0 _ _ _ rfl (Nat.zero_le _) ⟨Nat.zero_le _,?_,hl₁⟩ hS₁ (ItemsOf.nil _) λs' br c' hm pL hacc=>?_⟩
 ·rw[show (items.size:Int) - 1 - ((0:Nat):Int)=(items.size:Int) - 1 by lia];exact hit₁
 ·show wpAny _ A (load s.heap.objs.size >>=_) _ _ s';refine JN (wpAny_load pL ?_);exact JQ (hQ s' br (Moved.drop_new (o:={cls:= .type "list",data:= .seq ([]:List Value).toArray}) (tk:=s.toks) hm (JW _)) hacc)
theorem eN {Q₁:Value->Shared->Prop} {I l:Addr} {items:Array Value} (hh:A.handled=none) (tR:l≠I) (hit:s.heap.IsRevIter I l ((items.size:Int) - 1)) (hl:s.heap.IsList l items) (hz:items.size<=sizeLine)
  (h:∀s' acc,Moved [I] (λa b=>b=a) s s'->ItemsOf (λi v=>items[items.size - 1 - i]?=some v) acc items.size->Q₁ (.ref s'.heap.objs.size) {s' with heap:=s'.heap.push {cls:= .type "tuple",data:= .seq acc}}):
  codeAny (model prog w) A (.call (.builtin "tuple.__new__") ⟨[.type "tuple",.ref I],[]⟩) (wants Q₁ E) s:=by
 refine codeAny_of_tree ?_;show wpAny _ A.in1 (do checkBuiltinCall "tuple.__new__" ⟨[.type "tuple",.ref I],[]⟩;again (.builtin "tuple.__new__" ⟨[.type "tuple",.ref I],[]⟩)) _ _ s;refine JN (wpAny_of_eq (F.newCall_tuple_1 _) (JQ ⟨plainId_quiet F.plain_tuple_new _,codeAny_builtin F.entry_tuple_new ?_⟩));rw[Around.under_plainId F.plain_tuple_new _];have zP:=sub_tuple_self;have G8:=init_tuple_lookup;have JG:=madeHere_tuple;have wj:s.TypeIs (.ref I) "list_reverseiterator":=hit.typeIs;have Cg:A.in1.handled=none:=hh
 wp_walk using wpAny_typeOf wj,lS Cg tR hit hl hz
 intro s' acc hm hacc;show wpAny _ _ (Builtin.Tuple.tupleExact acc.toList.toArray >>=λv=>ret v) _ _ _;unfold Builtin.Tuple.tupleExact;refine JN (wpAny_newObj_type ?_ (by show acc.toList.toArray.size<=sizeLine;simp only[Array.toArray_toList];rw[hacc.1];exact hz));refine JQ ?_;have e:acc.toList.toArray=acc:=by simp
 rw[e];exact h s' acc hm hacc
theorem iA {Q:Value->Shared->Prop} {I l:Addr} {items:Array Value} (hh:A.handled=none) (tR:l≠I) (hit:s.heap.IsRevIter I l ((items.size:Int) - 1)) (hl:s.heap.IsList l items) (hz:items.size<=sizeLine)
  (hQ:∀s' acc,Moved [I] (λa b=>b=a) s s'->ItemsOf (λi v=>items[items.size - 1 - i]?=some v) acc items.size->Q (.ref s'.heap.objs.size) {s' with heap:=s'.heap.push {cls:= .type "tuple",data:= .seq acc}}):
  wpAny (model prog w) A (call (.type "tuple") [.ref I]) Q E s:=by
 refine callType_codes (Q₁:=λobj s₁=>s₁.TypeIs obj "tuple"/\Q obj s₁) F.called_tuple (F.typeCall_tuple_1 _) F.entry_object_init
  (eN (A:=A.in1) hh tR hit hl hz λs' acc hm hacc=>⟨⟨_,JY _ rfl,rfl⟩,hQ s' acc hm hacc⟩) λobj s₁ h₁=>?_
 exact⟨h₁.1,F.args_object_init_2 obj _,object_init_meets F.called_tuple.init.lookup F.called_tuple.made (by decide) prog w A.in1 _ s₁ ⟨h₁.1,rfl,h₁.2⟩⟩
end
noncomputable def DE (te:TE):TE:=λσ H Q=>te σ H λv H1=>∃l xs,v= .ref l/\H1 l=some (.lst xs)/\∀n,H1 n=none->Q (.ref n) (upd H1 n (.tup xs.reverse))
theorem rz {X:Cx} {e:Expr} {te:TE} {p p2 pos eV:Pos} (hc:X.calm=true) (hg:Gl X "tuple") (hm:X.mg "tuple"=none) (jV:Gl X "reversed") (rZ:X.mg "reversed"=none) (he:PE X e te)
  (hs:starEach [e] X.env=[(false,eval e X.env)]:=by rfl) (gO:starEach [.Call (.Name "reversed" p2) [e] [] eV] X.env=[(false,eval (.Call (.Name "reversed" p2) [e] [] eV) X.env)]:=by rfl):
  PE X (.Call (.Name "tuple" p) [.Call (.Name "reversed" p2) [e] [] eV] [] pos) (DE te):=by
 intro pins s σ H Q I h;refine wpAny_Call_Name_kw (b7 I hg hm PyProof.Rows.boot_tuple ?_ (by decide) (by decide));refine PyProof.Rows.callWith_type1 ?_ (by rw[gO];rfl) (by rfl);rw[gO];show wpAny _ _ (spliced ((false,eval (.Call (.Name "reversed" p2) [e] [] eV) X.env)::backTo pos [])) _ _ s;refine Calls.spliced_cons ?_;refine wpAny_Call_Name_kw (b7 I jV rZ PyProof.Rows.boot_reversed ?_ (by decide) (by decide));refine PyProof.Rows.callWith_type1 ?_ (by rw[hs];rfl) (by rfl);rw[hs];show wpAny _ _ (spliced ((false,eval e X.env)::backTo eV [])) _ _ s;refine Calls.spliced_cons (bo (he pins s σ H _ I h) λu s1 ⟨v,H1,I1,r1,l,xs,e1,hl,q⟩=>?_);subst e1;cases r1;refine Calls.spliced_nil ?_;obtain⟨its,r',pl,hz⟩:=I1.list (.inl (.inl hl));have hlen:=r'.length;refine call_reversed_list pl.isList ?_;refine Calls.spliced_nil ?_;have bZ:l < s1.heap.objs.size:=by obtain⟨o,ho,_⟩:=pl.isList;exact J0 ho
 refine iA (I:=s1.heap.objs.size) (l:=l) (items:=its.toArray) (I1.ok.hd hc) (Km bZ) ⟨_,JY _ rfl,rfl,rfl⟩ (pl.isList.at λo e=>JP _ e) (by simp only[JS];lia) λs' br hm hacc=>?_
 have ea:=jX hacc;subst ea;rw[Moved.eq_with hm];have fk:∀b o,s1.heap.get? b=some o->s'.heap.get? b=some o:=λb o e=>hm.heap b o (by simp only[Kp];exact Km (J0 e)) (JP _ e)
 have I2:Inv X pins σ H1 {s1 with heap:=s'.heap,toks:=s'.toks}:=I1.kept fk;have I3:Inv X pins σ (upd H1 s'.heap.objs.size (.tup xs.reverse)) {s1 with heap:=s'.heap.push {cls:= .type "tuple",data:= .seq its.reverse.toArray},toks:=s'.toks}:=
  I2.laid (t':=s'.toks) (λb o e=>JP _ e) (JW _) (show bq X.prog X.w _ _ _ (.tup xs.reverse) from⟨by rw[KC];exact hz,its.reverse,r'.reverse,IsTup.new _ _⟩)
 exact⟨.ref s'.heap.objs.size,_,I3,rfl,q _ (I2.hok.fresh (JW _))⟩
end Mx
end
section
namespace L2
open PySem PySem.Spec PyProof.Rows
noncomputable def cW (e:Expr) (d:Nat) (it acc:Value) (env:Env) (target:Expr) (ifs:List Expr) (p:Pos) (body:Sem Unit):Sem PySem.Fin:=do
 standAt p
 match<-pyNext it with
 | none=>pure (.done .next)
 | some v=>
  letOwnedTupleGo target it v
  assign target env v
  let mut ok:=true
  for c in ifs do
   if ok then ok<-isTrue c env (eval c env)
  if ok then body
  again (.compLoop e d it acc env)
theorem kI {prog:Program} {w:World} {A:Around} {R:Result->Shared->Prop} {s:Shared} {elt target:Expr} {gens:List Comprehension} {scope:Scope} {pos:Pos} {d:Nat} {ifs:List Expr} {p:Pos} {it acc:Value} {env:Env} {body:Sem Unit} (heq:compTurn (.ListComp elt gens scope pos) d it acc env=cW (.ListComp elt gens scope pos) d it acc env target ifs p body) {EE:Value->Shared->Prop}
  (B2:∀x s',EE x s'->notedBy (model prog w) A env (λx s'=>R (.error x) s') x s') (I:Nat->Shared->Prop)
  (turn:∀n s,I n s->wpAny (model prog w) A (pyNext it) (λr s₁=>match r with
   | none=>R (.ok .next) s₁
   | some v=>wpAny (model prog w) A (letOwnedTupleGo target it v) (λ_ s₁'=>wpAny (model prog w) A (assign target env v) (λ_ s₂=>
     wpAny (model prog w) A (forIn ifs true λc r=>if r=true then do let ok<-isTrue c env (eval c env);pure (ForInStep.yield ok) else pure (ForInStep.yield r)) (λok s₃=>
      if ok=true then wpAny (model prog w) A body (λ_ s₄=>∃m,m < n/\I m s₄) EE s₃
      else∃m,m < n/\I m s₃) EE s₂) EE s₁') EE s₁) EE s)
  (n:Nat) (h:I n s):codeAny (model prog w) A (.compLoop (.ListComp elt gens scope pos) d it acc env) R s:=by
 refine codeAny_loop rfl I (λn s hI=>?_) n h;show wpAny _ A ((compTurn (.ListComp elt gens scope pos) d it acc env).onRaise (λx=>do noteFrame x env;theTreesLotGoes x)) _ _ s;refine wpAny_noted ?_;rw[heq];unfold cW;refine JN (wpAny_standAt (JN (wpAny_mono (turn n s hI) (λr s₁ h₁=>?_) B2)));cases r with
 | none=>exact JQ h₁
 | some v=>
  refine JN (wpAny_mono h₁ (λ_ s₁' h₁'=>?_) B2);refine JN (wpAny_mono h₁' (λ_ s₂ h₂=>JN (wpAny_mono h₂ (λok s₃ h₃=>?_) B2)) B2);cases ok with
  | false=>exact JQ ⟨rfl,h₃⟩
  | true=>exact JN (wpAny_mono h₃ (λ_ s₄ h₄=>JQ ⟨rfl,h₄⟩) B2)
noncomputable def eO (elt:Expr) (acc:Value) (env:Env):Sem Unit:=do let _<-call (.builtin "list.append") [acc,<-eval elt env]
noncomputable def nextOf (e:Expr) (d:Nat) (iter:Expr) (acc:Value) (env:Env):Sem Unit:=do
 let x<-eval iter env
 standAt iter.pos
 let x<-foldedSetIterable iter env x
 let _<-runOwn (.compStart e d (<-holding [x] (pyIter x)) acc env) env
theorem m9 (elt target iter:Expr) (ifs:List Expr) (scope:Scope) (pos:Pos) (it acc:Value) (env:Env):
  compTurn (.ListComp elt [⟨target,iter,ifs,0⟩] scope pos) 0 it acc env=cW (.ListComp elt [⟨target,iter,ifs,0⟩] scope pos) 0 it acc env target ifs iter.pos (eO elt acc env):=by rfl
theorem nc (elt target iter aR bz:Expr) (ifs bG:List Expr) (scope:Scope) (pos:Pos) (it acc:Value) (env:Env):
  compTurn (.ListComp elt [⟨target,iter,ifs,0⟩,⟨aR,bz,bG,0⟩] scope pos) 0 it acc env=
   cW (.ListComp elt [⟨target,iter,ifs,0⟩,⟨aR,bz,bG,0⟩] scope pos) 0 it acc env target ifs iter.pos (nextOf (.ListComp elt [⟨target,iter,ifs,0⟩,⟨aR,bz,bG,0⟩] scope pos) 1 bz acc env):=by
 unfold cW nextOf;simp only[bind_assoc,pure_bind];rfl
theorem xN (elt target iter aR bz:Expr) (ifs bG:List Expr) (scope:Scope) (pos:Pos) (it acc:Value) (env:Env):
  compTurn (.ListComp elt [⟨target,iter,ifs,0⟩,⟨aR,bz,bG,0⟩] scope pos) 1 it acc env=
   cW (.ListComp elt [⟨target,iter,ifs,0⟩,⟨aR,bz,bG,0⟩] scope pos) 1 it acc env aR bG bz.pos (eO elt acc env):=by rfl
noncomputable def Le (σ σ2:St):Prop:=σ2.length=σ.length/\∀(j:Nat) (v:V),σ[j]?=some (some v)->σ2[j]?=some (some v)
theorem Le.refl (σ:St):Le σ σ:=⟨rfl,λ_ _ h=>h⟩
noncomputable def GL (σ0:St) (g:TG):Prop:=∀x σ H (Q:St->Hp->Prop),Le σ0 σ->g x σ H Q->g x σ H λσ2 H2=>Le σ0 σ2/\Q σ2 H2
noncomputable def BE (σ0:St) (g:sj):Prop:=∀x σ H (Q:St->Hp->Prop),Le σ0 σ->g x σ H Q->g x σ H λσ2 H2=>Le σ0 σ2/\Q σ2 H2
theorem Le.set {k:Nat} {σ0 σ:St} {v:Option V} (h:σ0[k]?=some none) (q:Le σ0 σ):Le σ0 (σ.set k v):=⟨by simpa using q.1,λj w hj=>by
 rw[J8 (by rintro rfl;rw[h] at hj;cases hj)];exact q.2 j w hj⟩
theorem we {σ0:St} {k:Nat} (h:σ0[k]?=some none):GL σ0 (cH k):=λx σ H Q p q=>⟨p.set h,q⟩
theorem wg {σ0:St}:BE σ0 zp:=λx σ H Q p q=>⟨q.1,p,q.2⟩
theorem tI {σ0:St} {k:Nat} {u:sj} (h:σ0[k]?=some none) (hu:BE σ0 u):BE σ0 (tH (cH k) u):=λx σ H Q p q=>by obtain⟨v,r,e,q⟩:=q;exact⟨v,r,e,hu r _ H Q (p.set h) q⟩
theorem zt {σ0:St} {K:PySem.W.Frag} {n:Nat} {u:sj} (hu:BE σ0 u):GL σ0 (zr K n u):=λx σ H Q p q=>by obtain⟨a,xs,e,h1,h2,q⟩:=q;exact⟨a,xs,e,h1,h2,hu xs σ H Q p q⟩
theorem Inv.le {X:Cx} {pins:List (Addr×Obj)} {σ σ2:St} {H:Hp} {s:Shared} (I:Inv X pins σ2 H s) (h:Le σ σ2):Inv X pins σ H s:=I.weak h.1.symm h.2
noncomputable abbrev TB:=St->Hp->(Hp->Prop)->Prop
noncomputable def PB (X:Cx) (body:Sem Unit) (tb:TB):Prop:=∀(pins:List (Addr×Obj)) (s:Shared) (σ:St) (H:Hp) (Q:Hp->Prop),Inv X pins σ H s->tb σ H Q->wpAny (model X.prog X.w) X.A body (λ_ s'=>∃H',Inv X pins σ H' s'/\Q H') X.xe s
noncomputable def lK (J:It) (g:TG) (tt:TT) (tb:TB) (σ0:St) (F:Hp->Prop) (H1:Hp):Prop:=
 ∃W:Nat->Nat->Hp->Prop,(∃m,W 0 m H1)/\∀i m H,W i m H->
  (J.stop i H/\F H)\/(J.go i H/\∀x H',J.yld i H x H'->g x σ0 H' λσ2 H2=>tt σ2 H2 λb H3=>if b=true then tb σ2 H3 λH4=>∃m',m' < m/\W (i + 1) m' H4 else∃m',m' < m/\W (i + 1) m' H3)
section
variable {X:Cx} {g:TG} {tt:TT} {tb:TB}
theorem jQ (hc:X.calm=true) {elt target:Expr} {gens:List Comprehension} {scope:Scope} {pos:Pos} {d:Nat} {ifs:List Expr} {p:Pos} {acc:Value} {body:Sem Unit} {R:Result->Shared->Prop} {pins:List (Addr×Obj)} {σ0:St} {H0:Hp} {s0:Shared} {it:Addr} {fp:List Addr} {tn:Nat->Heap->Prop} {J:It} {F:Hp->Prop}
  (heq:compTurn (.ListComp elt gens scope pos) d (.ref it) acc X.env=cW (.ListComp elt gens scope pos) d (.ref it) acc X.env target ifs p body) (hx:∀x s',X.xe x s'->notedBy (model X.prog X.w) X.A X.env (λx s'=>R (.error x) s') x s')
  (hg:PG X target g) (jB:GL σ0 g) (ht:xV X ifs tt) (hb:PB X body tb) (I0:Inv X pins σ0 H0 s0) (T:Turn X.prog X.w X.K target J fp it tn) (ju:tn 0 s0.heap) (f0:∀b∈fp,dQ X pins H0 b)
  (hW:lK J g tt tb σ0 F H0) (fin:∀s' H',Inv X pins σ0 H' s'->F H'->R (.ok .next) s'):codeAny (model X.prog X.w) X.A (.compLoop (.ListComp elt gens scope pos) d (.ref it) acc X.env) R s0:=by
 obtain⟨W,⟨m0,w0⟩,turn⟩:=hW;have lx:∀{H':Hp},(∀b∈fp,H' b=none)->∀b∈fp,dQ X pins H' b:=λhn b hb=>⟨hn b hb,(f0 b hb).2⟩
 refine kI heq hx (λn s'=>∃i H',Inv X pins σ0 H' s'/\tn i s'.heap/\(∀b∈fp,H' b=none)/\W i n H') ?_ m0 ⟨0,H0,I0,ju,λb hb=>(f0 b hb).1,w0⟩;rintro n s4 ⟨i,H4,I4,Hv,GT,w4⟩;rcases turn i n H4 w4 with ⟨stop,qn⟩ | ⟨go,step⟩
 ·refine bo (T.done X rfl rfl rfl hc i pins s4 _ H4 X.xe I4 (lx GT) Hv stop) λr s5 ⟨hr,I5⟩=>?_
  subst hr;exact fin s5 H4 I5 qn
 ·refine bo (T.item X rfl rfl rfl hc i pins s4 _ H4 X.xe I4 (lx GT) Hv go) λr s5 ⟨u,hr,h5⟩=>?_
  subst hr;refine bo h5 λ_ s6 ⟨x,H6,I6,r6,y6,Gq,HN⟩=>?_
  have HC:=I6.pinned (lx HN) (T.obj _ _ Gq);have again:∀{s7:Shared} {σ7:St} {H7:Hp} {m7:Nat},Inv X (pins++i7 fp s6.heap) σ7 H7 s7->Le σ0 σ7->m7 < n->W (i + 1) m7 H7->
    ∃m,m < n/\∃i H',Inv X pins σ0 H' s7/\tn i s7.heap/\(∀b∈fp,H' b=none)/\W i m H':=λ {s7 σ7 H7 m7} I7 hσ hm w7=>by
   refine⟨m7,hm,i + 1,H7,I7.fZ.le hσ,T.keep _ _ _ Gq λb hb o e=>(I7.pin (b,o) (Kn _ (Kn _ (dm hb e)))).1,λb hb=>?_,w7⟩;obtain⟨o,e,d⟩:=T.obj _ _ Gq b hb;exact(I7.pin (b,o) (Kn _ (Kn _ (dm hb e)))).2.1
  refine bo (hg _ s6 _ H6 x u _ HC r6 (jB x _ H6 _ (Le.refl _) (step x H6 y6))) λ_ s7 ⟨σ7,H7,I7,Hm,q7⟩=>?_
  refine bo (ht _ s7 σ7 H7 _ I7 q7) λb s8 ⟨H8,I8,q8⟩=>?_
  cases b with
  | false=>rw[if_neg (by simp)] at q8 ⊢;obtain⟨m',hm,w8⟩:=q8;exact again I8 Hm hm w8
  | true=>
   rw[if_pos rfl] at q8 ⊢;refine bo (hb _ s8 σ7 H8 _ I8 q8) λ_ s9 ⟨H9,I9,m',hm,w9⟩=>?_
   exact again I9 Hm hm w9
noncomputable def qw (D:Addr) (te:TE):TB:=λσ H Q=>te σ H λv H4=>∃br,H4 D=some (.lst br)/\br.length < sizeLine/\Q (upd H4 D (.lst (br++[v])))
theorem ij {elt:Expr} {te:TE} {D:Addr} (he:PE X elt te):PB X (eO elt (.ref D) X.env) (qw D te):=by intro pins s σ H Q I h;unfold eO;refine JN (bo (he pins s σ H _ I h) λy s9 ⟨v,H9,I9,r9,br,Ib,hz,q⟩=>?_);refine JN (bo (j6 _ s9 σ H9 (.ref D) [v] (.ref D) [y] (λ_ H'=>H'=upd H9 D (.lst (br++[v]))) I9 rfl (.cons r9 .nil) ⟨D,br,v,rfl,rfl,Ib,hz,rfl⟩) λ_ s10 ⟨_,Jw,HA,_,HI⟩=>?_);subst HI;exact JQ ⟨_,HA,q⟩
theorem kJ {prog:Program} {w:World} {A:Around} {R:Result->Shared->Prop} {s:Shared} {elt target iter aR bz:Expr} {ifs bG:List Expr} {scope:Scope} {pos:Pos} {it acc:Value} {env:Env}
  (h0:codeAny (model prog w) A (.compLoop (.ListComp elt [⟨target,iter,ifs,0⟩,⟨aR,bz,bG,0⟩] scope pos) 1 it acc env) R s)
  (h:wpAny (model prog w) A (pyIter it) (λhZ s'=>codeAny (model prog w) A (.compLoop (.ListComp elt [⟨target,iter,ifs,0⟩,⟨aR,bz,bG,0⟩] scope pos) 1 hZ acc env) R s')
   (notedBy (model prog w) A env λx s'=>R (.error x) s') s):
  codeAny (model prog w) A (.compStart (.ListComp elt [⟨target,iter,ifs,0⟩,⟨aR,bz,bG,0⟩] scope pos) 1 it acc env) R s:=by
 refine codeAny_of_tree ?_;show wpAny _ _ ((compStart (.ListComp elt [⟨target,iter,ifs,0⟩,⟨aR,bz,bG,0⟩] scope pos) 1 it acc env).onRaise (λx=>do noteFrame x env;standAt theWindowsPlace)) _ _ s;refine wpAny_notedAt ?_;unfold compStart;show wpAny _ _ (ask >>=_) _ _ s;refine JN (wpAny_askSetting (wpAny_ite ?_));split
 ·first
   | exact JN (JQ (JQ (And.intro rfl h0)))
   | exact JQ (And.intro rfl h0)
 ·first
   | exact JN (wpAny_rule (JN (wpAny_standAt (JN (wpAny_mono h (λhZ s' h'=>JQ (And.intro rfl h')) λ_ _ x=>x)))))
   | (refine JN (wpAny_rule ?_);show wpAny _ _ (standAt bz.pos >>=_) _ _ s;exact JN (wpAny_standAt (JN (wpAny_mono h (λhZ s' h'=>JQ (And.intro rfl h')) λ_ _ x=>x))))
noncomputable def DC (wi:TI) (g:TG) (tt:TT) (tb:TB):TB:=λσ H Q=>GL σ g/\wi σ H λJ H1=>lK J g tt tb σ Q H1
theorem qg {elt target iter aR bz:Expr} {ifs bG:List Expr} {scope:Scope} {pos:Pos} {acc:Value} {wi:TI} {te:TB} (hc:X.calm=true) (hp:PassesOwn (model X.prog X.w) X.A X.env X.xe) (hi:PI X aR bz wi) (hg:PG X aR g) (ht:xV X bG tt) (he:PB X (eO elt acc X.env) te)
  (hs:∀x,foldedSetIterable bz X.env x=pure x:=by intro _;rfl):PB X (nextOf (.ListComp elt [⟨target,iter,ifs,0⟩,⟨aR,bz,bG,0⟩] scope pos) 1 bz acc X.env) (DC wi g tt te):=by
 intro pins s σ H Q I ⟨jB,h⟩;unfold nextOf;refine JN (bo (hi pins s σ H _ I h) λx s₁ h₁=>?_);refine JN (wpAny_standAt (JN (wpAny_of_eq (hs x) (JN (wpAny_holding (bo h₁ λlG s₂ h₂=>?_))))));obtain⟨it,fp,tn,J,H2,e,I2,T,sf,f2,hW⟩:=h₂;subst e;have loop:codeAny (model X.prog X.w) X.A (.compLoop (.ListComp elt [⟨target,iter,ifs,0⟩,⟨aR,bz,bG,0⟩] scope pos) 1 (.ref it) acc X.env) (λr s'=>match r with | .ok f=>∃H',Inv X pins σ H' s'/\Q H' | .error e=>cameBackBy (model X.prog X.w) X.A X.env X.xe e s') s₂:=
  jQ hc (xN ..) (λx s' q=>hp x s' q) hg jB ht he I2 T sf f2 hW λs' H' I' q=>⟨H',I',q⟩
 have run:wpAny (model X.prog X.w) X.A (runOwn (.compStart (.ListComp elt [⟨target,iter,ifs,0⟩,⟨aR,bz,bG,0⟩] scope pos) 1 (.ref it) acc X.env) X.env) (λ_ s'=>∃H',Inv X pins σ H' s'/\Q H') X.xe s₂:=
  wpAny_runOwn (kJ loop (T.self _ 0 _ _ _ sf loop))
 exact JN (wpAny_mono run (λf s' q=>JQ q) λ_ _ z=>z)
end
theorem d9 {x:Str} {c:Addr}:∀(names:List (Str×NameKind)) (n:Nat) (acc:List (Str×Addr)),(cellsFrom n names acc).lookup x=some c->(n<=c/\(x,NameKind.cell)∈names)\/acc.lookup x=some c
 | [],n,acc,h=> .inr h
 | (y,k)::r,n,acc,h=>by
  unfold cellsFrom at h;by_cases hk:(k==NameKind.cell)=true
  ·rw[if_pos hk] at h;rcases d9 r (n + 1) _ h with ⟨h1,h2⟩ | h1
   ·exact .inl ⟨J1 (Nat.le_succ _) h1,JV _ h2⟩
   ·rw[Kh] at h1;cases hb:x==y with
    | true=>
     rw[hb] at h1;cases h1;have:x=y:=by simpa using hb
     subst this;have:k=NameKind.cell:=by simpa using hk
     subst this;exact .inl ⟨JW _,JX⟩
    | false=>rw[hb] at h1;exact .inr h1
  ·rw[if_neg hk] at h;rcases d9 r n _ h with ⟨h1,h2⟩ | h1
   ·exact .inl ⟨h1,JV _ h2⟩
   ·exact .inr h1
theorem nQ {x y:Str} {c:Addr}:∀(names:List (Str×NameKind)) (n:Nat) (acc:List (Str×Addr)),(∀x c,acc.lookup x=some c->c < n)->(∀x y c,acc.lookup x=some c->acc.lookup y=some c->x=y)->
  (cellsFrom n names acc).lookup x=some c->(cellsFrom n names acc).lookup y=some c->x=y
 | [],n,acc,h1,h2,hx,hy=>h2 x y c hx hy
 | (z,k)::r,n,acc,h1,h2,hx,hy=>by
  unfold cellsFrom at hx hy;by_cases hk:(k==NameKind.cell)=true
  ·rw[if_pos hk] at hx hy;refine nQ r (n + 1) _ (λa b gN=>?_) (λa b e ha hb=>?_) hx hy
   ·rw[Kh] at gN;cases hq:a==z with
    | true=>rw[hq] at gN;cases gN;exact Nat.lt_succ_self _
    | false=>rw[hq] at gN;exact Nat.lt_succ_of_lt (h1 a b gN)
   ·rw[Kh] at ha hb;cases hq:a==z with
    | true=>
     rw[hq] at ha;cases ha;cases hq2:b==z with
     | true=>
      have e1:a=z:=by simpa using hq
      have e2:b=z:=by simpa using hq2
      rw[e1,e2]
     | false=>rw[hq2] at hb;exact absurd (h1 b _ hb) (Nat.lt_irrefl _)
    | false=>
     rw[hq] at ha;cases hq2:b==z with
     | true=>rw[hq2] at hb;cases hb;exact absurd (h1 a _ ha) (Nat.lt_irrefl _)
     | false=>rw[hq2] at hb;exact h2 a b e ha hb
  ·rw[if_neg hk] at hx hy;exact nQ r n acc h1 h2 hx hy
theorem kF {x:Str} {c:Addr}:∀(names:List (Str×NameKind)) (n:Nat) (acc:List (Str×Addr)),(x,NameKind.cell)∉names->acc.lookup x=some c->(cellsFrom n names acc).lookup x=some c
 | [],n,acc,_,h=>h
 | (z,k)::r,n,acc,hn,h=>by
  unfold cellsFrom;by_cases hk:(k==NameKind.cell)=true
  ·rw[if_pos hk];refine kF r (n + 1) _ (λz'=>hn (JV _ z')) ?_;rw[Kh];have:(x==z)=false:=by
    cases hq:x==z with
    | false=>rfl
    | true=>
     have e1:x=z:=by simpa using hq
     have e2:k=NameKind.cell:=by simpa using hk
     subst e1 e2;exact absurd JX hn
   rw[this];exact h
  ·rw[if_neg hk];exact kF r n acc (λz'=>hn (JV _ z')) h
theorem iB {x:Str} {c:Addr}:∀(names:List (Str×NameKind)) (h:Heap) (acc:List (Str×Addr)),(∀x c,acc.lookup x=some c->∃v,h.IsCell c v)->(cellsFrom h.objs.size names acc).lookup x=some c->∃v,(pushCells h names).IsCell c v
 | [],h,acc,ha,hx=>ha x c hx
 | (z,k)::r,h,acc,ha,hx=>by
  unfold cellsFrom at hx;unfold pushCells;by_cases hk:(k==NameKind.cell)=true
  ·rw[if_pos hk] at hx ⊢;refine iB r _ ((z,h.objs.size)::acc) (λa b gN=>?_) (by rw[Kl];exact hx);rw[Kh] at gN;cases hq:a==z with
   | true=>rw[hq] at gN;cases gN;exact⟨none,_,JY _ rfl,rfl⟩
   | false=>rw[hq] at gN;obtain⟨v,o,ho,hd⟩:=ha a b gN;exact⟨v,o,JP _ ho,hd⟩
  ·rw[if_neg hk] at hx ⊢;exact iB r h acc ha hx
theorem nh {M:Model} {A:Around} {E:Value->Shared->Prop} {s:Shared} {scope:Scope} {globals:Addr} {cl:List (Str×Addr)} {qual:Str} {out:Env} {Q:Env->Shared->Prop}
  (hQ:∀h',h'=pushCells (s.heap.push {cls:= .type "dict",data:= .dict #[]}) scope.names->Q (newEnv scope s.heap.objs.size globals (cellsFrom (s.heap.objs.size + 1) scope.names cl) qual none .none (some out) builtinsNs) {s with heap:=h'}):
  wpAny M A (newFunctionEnv scope globals cl [] qual none .none (some out)) Q E s:=by
 simp only[newFunctionEnv,Option.isSome_some,if_true];refine JN (wpAny_alloc ?_);refine JN (wpAny_layCells _ (λname kind cells=>by cases hkc:kind==NameKind.cell <;> simp[hkc]) _ _ _ _ ?_);rw[show ({s with heap:=s.heap.push {cls:= .type "dict",data:= .dict #[]}}:Shared).heap.objs.size=s.heap.objs.size + 1 from Kl ..];rw[List.forIn_nil];exact JN (JQ (JQ (hQ _ rfl)))
noncomputable def dN (X:Cx) (scope:Scope) (N':List Str) (C:Addr) (s:Shared) (H:Hp) (fp:List Addr) (xe:Value->Shared->Prop):Cx:=
 {X with N:=N',s₀:=s,H₀:=H,env:=compEnvC scope (cellsFrom (C + 1) scope.names (dE scope X.env)) C X.env,outer:=X.stack,stack:=X.stack,ex:=fp,fn:=λx=>scope.names.lookup x==some .cell,pn:=[],xe:=xe}
structure dB (X:Cx) (scope:Scope) (N':List Str) (cap:List (Option Nat)):Prop where
 kind:scope.kind= .function
 nd:∀y∈scope.names,scope.names.lookup y.1=some y.2
 free:∀y∈scope.names,y.2= .free->X.env.scope.names.lookup y.1=some .cell\/X.env.scope.names.lookup y.1=some .free
 qM:∀(j i:Nat),cap[j]?=some (some i)->∃x,N'[j]?=some x/\X.N[i]?=some x/\scope.names.lookup x=some .free
 len:cap.length=N'.length
section
variable {X:Cx} {scope:Scope} {N':List Str} {cap:List (Option Nat)} {pins:List (Addr×Obj)} {σ:St} {H:Hp} {s:Shared}
theorem dB.frees (B:dB X scope N' cap) (ok:X.Ok):∀y∈scope.names,y.2= .free->∃c,X.env.cells.lookup y.1=some c:=λy hy hf=>ok.has y.1 (B.free y hy hf)
theorem dB.up (B:dB X scope N' cap) (ok:X.Ok) {x:Str} {c:Addr} (h:(dE scope X.env).lookup x=some c):X.env.cells.lookup x=some c:=
 gA scope.names [] (B.frees ok) (λ_ z=>by simp at z) h
theorem dB.mG (B:dB X scope N' cap) {x:Str} (h:scope.names.lookup x=some .free):(x,NameKind.cell)∉scope.names:=λz=>by have:=B.nd _ z;rw[h] at this;cases this
theorem nL {xe:Value->Shared->Prop} (B:dB X scope N' cap) (I:Inv X pins σ H s) {fp:List Addr} {tk:Nat} (hf:∀b∈fp,dQ X pins H b) (bZ:∀b∈fp,b < s.heap.objs.size):
  Inv (dN X scope N' s.heap.objs.size s H fp xe) [] (bT cap σ) H {s with heap:=pushCells (s.heap.push {cls:= .type "dict",data:= .dict #[]}) scope.names,toks:=tk}:=by
 have ok:=I.ok;have hz:(s.heap.push {cls:= .type "dict",data:= .dict #[]}).objs.size=s.heap.objs.size + 1:=Kl ..;have hk:∀b o,s.heap.get? b=some o->(pushCells (s.heap.push {cls:= .type "dict",data:= .dict #[]}) scope.names).get? b=some o:=λb o e=>pushCells_keeps _ _ _ _ (JP _ e)
 have yi:(pushCells (s.heap.push {cls:= .type "dict",data:= .dict #[]}) scope.names).Ns s.heap.objs.size λ_=>none:=(Heap.Ns.new s.heap (.type "dict")).keeps (pushCells_keeps _ _)
 have HF:∀x c,(dE scope X.env).lookup x=some c->c < s.heap.objs.size:=λx c h=>by obtain⟨v,z⟩:=I.cell x c (B.up ok h);exact z.lt
 have sO:∀x c,(cellsFrom (s.heap.objs.size + 1) scope.names (dE scope X.env)).lookup x=some c->(s.heap.objs.size + 1<=c/\(x,NameKind.cell)∈scope.names)\/X.env.cells.lookup x=some c:=λx c h=>(d9 _ _ _ h).imp id (B.up ok)
 have ox:∀x,scope.names.lookup x=some .free->(compEnvC scope (cellsFrom (s.heap.objs.size + 1) scope.names (dE scope X.env)) s.heap.objs.size X.env).kindOf x=some .cell\/(compEnvC scope (cellsFrom (s.heap.objs.size + 1) scope.names (dE scope X.env)) s.heap.objs.size X.env).kindOf x=some .free:=λx hx=>by
  have q:=aK (env:=X.env) hx;by_cases hc:(NameKind.free==NameKind.free&&X.env.scope.kind== .function&&X.env.kindOf x==some .cell)=true
  ·rw[if_pos hc] at q;exact .inl q
  ·rw[if_neg hc] at q;exact .inr q
 refine⟨⟨ok.mod,?kind,ok.glob,ok.blt,JW _,?inj,?has,?xY,ok.hd,ok.frames,.inl rfl,?Bp,I.bs,J1 ok.vR I.sz,?mF,?nX,I.stack,I.ly⟩,
  rfl,I.bare,Un.kept hk,⟨_,yi,?loc⟩,?cell,I.hok.fresh (JW _),?cu,?pin,I.hok.kept hk,?len⟩
 case kind=>exact B.kind
 case inj=>exact λx y c h1 h2=>nQ _ _ _ (λx c h=>Nat.lt_succ_of_lt (HF x c h)) (λx y c h1 h2=>ok.inj x y c (B.up ok h1) (B.up ok h2)) h1 h2
 case has=>
  intro x hx;cases hl:scope.names.lookup x with
  | none=>
   have q:=bx (env:=X.env) hl;exact absurd hx (by
    have q':(compEnvC scope (cellsFrom (s.heap.objs.size + 1) scope.names (dE scope X.env)) s.heap.objs.size X.env).kindOf x=none:=q;show¬((compEnvC scope (cellsFrom (s.heap.objs.size + 1) scope.names (dE scope X.env)) s.heap.objs.size X.env).kindOf x=some .cell\/(compEnvC scope (cellsFrom (s.heap.objs.size + 1) scope.names (dE scope X.env)) s.heap.objs.size X.env).kindOf x=some .free);rw[q'];simp)
  | some k=>
   have q:(compEnvC scope (cellsFrom (s.heap.objs.size + 1) scope.names (dE scope X.env)) s.heap.objs.size X.env).kindOf x=some (if (k==NameKind.free&&X.env.scope.kind== .function&&X.env.kindOf x==some .cell) then NameKind.cell else k):=aK (env:=X.env) hl;have hm:=PySem.mem_of_lookup hl;by_cases zG:k= .free
   ·subst zG;obtain⟨c,zA⟩:=iC (env:=X.env) scope.names [] (.inl hm);exact⟨c,kF _ _ _ (B.mG hl) zA⟩
   ·have hb:(k==NameKind.free)=false:=by simpa using zG
    have q9:(compEnvC scope (cellsFrom (s.heap.objs.size + 1) scope.names (dE scope X.env)) s.heap.objs.size X.env).kindOf x=some .cell\/(compEnvC scope (cellsFrom (s.heap.objs.size + 1) scope.names (dE scope X.env)) s.heap.objs.size X.env).kindOf x=some .free:=hx;rw[q,hb] at q9;simp only[Bool.false_and,Bool.false_eq_true,if_false,Option.some.injEq] at q9;rcases q9 with z | z
    ·subst z;exact Option.isSome_iff_exists.mp (PySem.W.cellsFrom_some scope.names _ _ (.inl hl))
    ·exact absurd z zG
 case xY=>
  intro x c tP h;have tP:(scope.names.lookup x==some .cell)=true:=tP;rcases d9 _ _ _ h with ⟨h1,_⟩ | h1
  ·exact J1 (Nat.le_succ _) h1
  ·exfalso;have e:=Ke tP;have:∀(l:List (Str×NameKind)) (cs:List (Str×Addr)),(∀c,cs.lookup x≠some c)->(∀y∈l,y.1=x->y.2≠ .free)->(kG X.env l cs).lookup x=none:=by
    intro l
    induction l with
    | nil=>
     intro cs tM _;cases hq:cs.lookup x with
     | none=>exact hq
     | some c=>exact absurd hq (tM c)
    | cons y l ih=>
     intro cs tM hl;obtain⟨n,k⟩:=y;show (kG X.env l (if (k==NameKind.free)=true then(n,(X.env.cells.lookup n).getD 0)::cs else cs)).lookup x=none;refine ih _ (λc=>?_) λy hy=>hl y (JV _ hy)
     by_cases hk:(k==NameKind.free)=true
     ·rw[if_pos hk,Kh];have:(x==n)=false:=by
       cases hq:x==n with
       | false=>rfl
       | true=>
        have e1:x=n:=by simpa using hq
        have e2:k=NameKind.free:=by simpa using hk
        exact absurd e2 (hl (n,k) JX e1.symm)
      rw[this];exact tM c
     ·rw[if_neg hk];exact tM c
   have q:=this scope.names [] (λc z=>by simp at z) λy hy e1 e2=>by have:=B.nd y hy;rw[e1,e2,e] at this;cases this
   unfold dE at h1;rw[q] at h1;cases h1
 case Bp=>
  intro b hb;refine⟨Km (bZ b hb),λx c e=>?_⟩;rcases sO x c e with ⟨h1,_⟩ | h1
  ·intro z;subst z;exact absurd (Kc (bZ c hb) (J1 (Nat.le_succ _) h1)) (Nat.lt_irrefl _)
  ·exact(hf b hb).2.2.2.2.1 x c h1
 case mF=>
  intro b o e hb;rcases (hf b hb).2.2.2.1 with z | z
  ·exact ok.mF b o e z
  ·exact absurd (Kc (J0 (ok.bs b o e).1) z) (Nat.lt_irrefl _)
 case nX=>
  intro b hb hs;rcases J3.mp (I.jh b hs) with z | z
  ·exact(hf b hb).2.1 z
  ·exact(hf b hb).2.2.1 z
 case loc=>
  intro j x v h1 h2 h3;have hj:∃i,cap[j]?=some (some i)/\(σ[i]?).join=some v:=by
   unfold bT at h2;rw[Ka] at h2;cases hc:cap[j]? with
   | none=>rw[hc] at h2;cases h2
   | some o=>
    rw[hc] at h2;cases o with
    | none=>cases h2
    | some i=>exact⟨i,rfl,by simpa using h2⟩
  obtain⟨i,hc,hv⟩:=hj;obtain⟨x',e1,e2,e3⟩:=B.qM j i hc;have ex:x'=x:=by have ze:N'[j]?=some x:=h1;rw[ze] at e1;injection e1 with e1;exact e1.symm
  subst ex;have IS:σ[i]?=some (some v):=by
   cases q:σ[i]? with
   | none=>rw[q] at hv;cases hv
   | some o=>rw[q] at hv;cases o with
    | none=>cases hv
    | some z=>simp at hv;rw[hv]
  have Ct:=B.free _ (PySem.mem_of_lookup e3) rfl;obtain⟨m,hn,hl⟩:=I.loc;obtain⟨u,r,l⟩:=hl i x' v e2 IS (.inr Ct);refine⟨u,r,?_⟩;obtain⟨c,zA⟩:=iC (env:=X.env) scope.names [] (.inl (PySem.mem_of_lookup e3));have G5:=B.up ok zA;rcases l with ⟨k,_⟩ | ⟨k,c',e,z⟩
  ·exfalso;have k':X.env.scope.names.lookup x'=some .local:=k;rcases Ct with q | q
   ·rw[k'] at q;cases q
   ·rw[k'] at q;cases q
  ·have HJ:c'=c:=by rw[e] at G5;injection G5
   subst HJ;exact .inr ⟨ox x' e3,c',kF _ _ _ (B.mG e3) zA,by obtain⟨o,ho,hd⟩:=z;exact⟨o,hk _ _ ho,hd⟩⟩
 case cell=>intro x c e;refine iB scope.names (s.heap.push {cls:= .type "dict",data:= .dict #[]}) (dE scope X.env) (λa b gN=>?_) (by rw[hz];exact e);obtain⟨v,o,ho,hd⟩:=I.cell a b (B.up ok gN);exact⟨v,o,JP _ ho,hd⟩
 case cu=>
  intro x c e;rcases sO x c e with ⟨h1,_⟩ | h1
  ·exact I.hok.fresh (J1 (Nat.le_succ _) h1)
  ·exact I.cu x c h1
 case pin=>intro p hp;cases hp
 case len=>show (bT cap σ).length=N'.length;unfold bT;rw[JZ];exact B.len
noncomputable def xW (X:Cx) (C:Addr) (x:Value) (s':Shared):Prop:=∃m,s'.heap.Ns C m/\∀h',Heap.SameBut C s'.heap h'->∀qN:Env,qN.locals=C->wpAny (model X.prog X.w) X.A (passOn "comprehension.variables-let-go" x qN:Sem Value) (λ_ _=>False) X.xe {s' with heap:=h'}
structure vL (X:Cx) (scope:Scope) (N':List Str) (xb:Addr->Shared->Hp->List Addr->Value->Shared->Prop):Prop where
 note:∀(pins:List (Addr×Obj)) (σ:St) (C:Addr) (s s1:Shared) (H H1:Hp) (fp:List Addr) x s',Inv X pins σ H1 s1->(∀b∈fp,dQ X pins H1 b)->s1.heap.objs.size < C->s={s1 with heap:=s1.heap.push {cls:= .type "list",data:= .seq ([]:List Value).toArray},toks:=s1.toks}->H=upd H1 s1.heap.objs.size (.lst [])->C=s.heap.objs.size->
  xb C s H fp x s'->notedBy (model X.prog X.w) X.A (dN X scope N' C s H fp (xb C s H fp)).env (xW X C) x s'
variable {elt tg iter:Expr} {ifs:List Expr} {pos:Pos} {wi:TI} {g:TG} {tt:TT}
theorem jP {gens:List Comprehension} {xb:Addr->Shared->Hp->List Addr->Value->Shared->Prop} {pins:List (Addr×Obj)} {σ:St} {H2:Hp} {s2:Shared} {it:Addr} {fp:List Addr} {tn:Nat->Heap->Prop} {J:It} {F:Hp->Prop} {tb:Addr->TB} {body:Value->Env->Sem Unit} {p:Pos} {RR:Value->Addr->Result->Shared->Prop} (hc:X.calm=true) (B:dB X scope N' cap) (hX:vL X scope N' xb)
  (heq:∀lG acc env,compTurn (.ListComp elt (⟨tg,iter,ifs,0⟩::gens) scope pos) 0 lG acc env=cW (.ListComp elt (⟨tg,iter,ifs,0⟩::gens) scope pos) 0 lG acc env tg ifs p (body acc env))
  (jB:GL (bT cap σ) g) (hg:∀C s H fp,PG (dN X scope N' C s H fp (xb C s H fp)) tg g) (ht:∀C s H fp,xV (dN X scope N' C s H fp (xb C s H fp)) ifs tt) (hb:∀C s H fp D,PB (dN X scope N' C s H fp (xb C s H fp)) (body (.ref D) (dN X scope N' C s H fp (xb C s H fp)).env) (tb D))
  (I2:Inv X pins σ H2 s2) (T:Turn X.prog X.w X.K tg J fp it tn) (sf:tn 0 s2.heap) (f2:∀b∈fp,dQ X pins H2 b) (hF:lK J g tt (tb s2.heap.objs.size) (bT cap σ) F (upd H2 s2.heap.objs.size (.lst [])))
  (Ii:∀C s' H' m,s2.heap.objs.size < C->Inv X pins σ H' s'->s'.heap.Ns C m->dQ X pins H' C->F H'->RR (.ref s2.heap.objs.size) C (.ok .next) s') (GZ:∀C x s',xW X C x s'->RR (.ref s2.heap.objs.size) C (.error x) s') {E:Value->Shared->Prop}:
  wpAny (model X.prog X.w) X.A (newList []) (λacc s₃=>wpAny (model X.prog X.w) X.A (newFunctionEnv scope X.env.globals (dE scope X.env) [] X.env.qual none .none (some X.env)) (λqN s₄=>
   codeAny (model X.prog X.w) X.A (.compStart (.ListComp elt (⟨tg,iter,ifs,0⟩::gens) scope pos) 0 (.ref it) acc {qN with scope:=relabel scope X.env}) (RR acc qN.locals) s₄) E s₃) E s2:=by
 refine wpAny_newObj_type (nh λh₁ hh₁=>?_);have I3:=I2.CH (ys:=[]) (its:=[]) (t':=s2.toks) .nil (Nat.zero_le _);dsimp only at hh₁ ⊢;have hC:(s2.heap.push {cls:= .type "list",data:= .seq ([]:List Value).toArray}).objs.size=s2.heap.objs.size + 1:=Kl ..;generalize hD:s2.heap.objs.size=D at *;have vx:∀b∈fp,b < D:=λb hb=>by obtain⟨o,e,_⟩:=T.obj 0 _ sf b hb;rw[<-hD];exact J0 e
 have f3:∀b∈fp,dQ X pins (upd H2 D (.lst [])) b:=λb hb=>⟨by rw[ah (Km (vx b hb))];exact(f2 b hb).1,(f2 b hb).2⟩
 generalize zN:({s2 with heap:=s2.heap.push {cls:= .type "list",data:= .seq ([]:List Value).toArray},toks:=s2.toks}:Shared)=s3 at I3;have tT:s3.heap=s2.heap.push {cls:= .type "list",data:= .seq ([]:List Value).toArray}:=by rw[<-zN]
 have yc:s3.heap.objs.size=D + 1:=by rw[tT];exact hC
 have IB:=nL (xe:=xb s3.heap.objs.size s3 (upd H2 D (.lst [])) fp) (tk:=s2.toks) B I3 f3 (λb hb=>by rw[yc];exact Nat.lt_succ_of_lt (vx b hb));have hk:∀b o,s3.heap.get? b=some o->(pushCells (s3.heap.push {cls:= .type "dict",data:= .dict #[]}) scope.names).get? b=some o:=λb o e=>pushCells_keeps _ _ _ _ (JP _ e)
 rw[<-tT] at hh₁;rw[<-hh₁] at IB hk;have e4:({s3 with heap:=h₁,toks:=s2.toks}:Shared)={s2 with heap:=h₁}:=by rw[<-zN]
 rw[e4] at IB;rw[hC];have lx:∀{H':Hp},(∀b∈fp,H' b=none)->∀b∈fp,dQ (dN X scope N' s3.heap.objs.size s3 (upd H2 D (.lst [])) fp (xb s3.heap.objs.size s3 (upd H2 D (.lst [])) fp)) [] H' b:=λhn b hb=>
  ⟨hn b hb,by show b≠s3.heap.objs.size;rw[yc];exact Km (Nat.lt_succ_of_lt (vx b hb)),λz=>(by
   rcases J3.mp (I3.jh b z) with q | q
   ·exact(f3 b hb).2.1 q
   ·exact(f3 b hb).2.2.1 q),.inl hb,(IB.ok.Bp b hb).2,λp hp=>absurd hp (by intro z;cases z)⟩
 have loop:∀s':Shared,s'={s2 with heap:=h₁}->codeAny (model X.prog X.w) X.A (.compLoop (.ListComp elt (⟨tg,iter,ifs,0⟩::gens) scope pos) 0 (.ref it) (.ref D) (dN X scope N' s3.heap.objs.size s3 (upd H2 D (.lst [])) fp (xb s3.heap.objs.size s3 (upd H2 D (.lst [])) fp)).env)
   (RR (.ref D) (D + 1)) s':=by
  rintro s' rfl;refine jQ (X:=dN X scope N' s3.heap.objs.size s3 (upd H2 D (.lst [])) fp (xb s3.heap.objs.size s3 (upd H2 D (.lst [])) fp)) hc (heq _ _ _) (λx s' q=>?_) (hg _ _ _ _) jB (ht _ _ _ _) (hb _ _ _ _ D) IB T (T.keep _ _ _ sf (λb hb o e=>hk b o (by rw[tT];exact JP _ e))) (lx λb hb=>(f3 b hb).1) hF λs5 H5 I5 qn=>?_
  ·have z:=hX.note pins σ s3.heap.objs.size s3 s2 (upd H2 D (.lst [])) H2 fp x s' I2 f2 (by rw[yc,hD];exact Nat.lt_succ_self _) zN.symm (by rw[hD]) rfl q;rw[yc] at z;exact wpAny_mono z (λ_ s'' w=>GZ (D + 1) x s'' w) λy s'' w=>GZ (D + 1) y s'' w
  ·obtain⟨m5,FC,_⟩:=I5.loc;have un:Un (dG X.stack) fp H2 H5 s2.heap s5.heap:=by
    have u1:Un (dG X.stack) fp H2 (upd H2 D (.lst [])) s2.heap s3.heap:=by rw[tT];exact Un.laid (λb u e=>JP _ e) (by rw[hD];exact JW _) (by rw[<-hD];exact I2.fresh)
    exact u1.trans I5.base
   have hI:Inv X pins σ H5 s5:=I2.sG (ch:=fp) (I5.os.trans (by show s3.os=s2.os;rw[<-zN])) un I5.hok I5.bare λb hb=>⟨(f2 b hb).2.2.2.1,(f2 b hb).2.1,(f2 b hb).2.2.2.2.1,(f2 b hb).2.2.2.2.2⟩
   have tS:s5.heap.Ns (D + 1) m5:=by have q:s5.heap.Ns s3.heap.objs.size m5:=FC;rw[yc] at q;exact q
   have E7:H5 (D + 1)=none:=by have q:H5 s3.heap.objs.size=none:=I5.free;rw[yc] at q;exact q
   exact Ii (D + 1) s5 H5 m5 (Nat.lt_succ_self _) hI tS (I2.kQ (by rw[hD];exact Nat.le_succ _) E7) qn
 have E3:({newEnv scope (D + 1) X.env.globals (cellsFrom (D + 1 + 1) scope.names (dE scope X.env)) X.env.qual none .none (some X.env) builtinsNs with scope:=relabel scope X.env}:Env)=(dN X scope N' s3.heap.objs.size s3 (upd H2 D (.lst [])) fp (xb s3.heap.objs.size s3 (upd H2 D (.lst [])) fp)).env:=by unfold dN;rw[yc];rfl
 have go:=codeAny_compStart_list (loop _ rfl) (T.self X.A 0 _ _ _ (T.keep _ _ _ sf (λb hb o e=>hk b o (by rw[tT];exact JP _ e))) (loop _ rfl));rw[<-E3] at go;exact go
end
noncomputable def lB (cap:List (Option Nat)) (wi:TI) (g:TG) (tt:TT) (tb:Addr->TB):TE:=λσ H Q=>wi σ H λJ H1=>∀D,H1 D=none->GL (bT cap σ) g/\lK J g tt (tb D) (bT cap σ) (λH'=>Q (.ref D) H') (upd H1 D (.lst []))
section
variable {X:Cx} {scope:Scope} {N':List Str} {cap:List (Option Nat)} {elt tg iter:Expr} {ifs:List Expr} {gens:List Comprehension} {pos p:Pos} {wi:TI} {g:TG} {tt:TT} {tb:Addr->TB} {body:Value->Env->Sem Unit} {xb:Addr->Shared->Hp->List Addr->Value->Shared->Prop}
theorem mK (hc:X.calm=true) (B:dB X scope N' cap) (hX:vL X scope N' xb) (hi:PI X tg iter wi) (heq:∀lG acc env,compTurn (.ListComp elt (⟨tg,iter,ifs,0⟩::gens) scope pos) 0 lG acc env=cW (.ListComp elt (⟨tg,iter,ifs,0⟩::gens) scope pos) 0 lG acc env tg ifs p (body acc env))
  (hg:∀C s H fp,PG (dN X scope N' C s H fp (xb C s H fp)) tg g) (ht:∀C s H fp,xV (dN X scope N' C s H fp (xb C s H fp)) ifs tt) (hb:∀C s H fp D,PB (dN X scope N' C s H fp (xb C s H fp)) (body (.ref D) (dN X scope N' C s H fp (xb C s H fp)).env) (tb D))
  (hs:∀x,foldedSetIterable iter X.env x=pure x:=by intro _;rfl):PE X (.ListComp elt (⟨tg,iter,ifs,0⟩::gens) scope pos) (lB cap wi g tt tb):=by
 intro pins s σ H Q I h;rw[eval_ListComp];refine wpAny_comprehension_free (use:=none) rfl hs (eI (B.frees I.ok)) B.kind (λy hy e=>by rw[B.nd y hy,e]) (bo (hi pins s σ H _ I h) λx s₁ h₁=>bo h₁ λlG s₂ h₂=>?_);obtain⟨it,fp,tn,J,H2,e,I2,T,sf,f2,hF⟩:=h₂;subst e;obtain⟨jB,hW⟩:=hF _ I2.fresh;refine jP (RR:=λacc C=>compPost (model X.prog X.w) X.A X.xe none (EP X pins σ Q) acc C) hc B hX heq jB hg ht hb I2 T sf f2 hW (λC s' H' m hC I' hn fC q=>?_) λC x s' z=>z
 refine⟨m,hn,λh' hsb=>⟨.ref _,H',I'.turned (t':=s'.toks) (λb o hb e=>(hsb.2 b hb).trans e) fC.1 fC.2.1 fC.2.2.2.1 fC.2.2.2.2.1 fC.2.2.2.2.2,rfl,q⟩⟩
theorem gJ {i:Nat} {x:Str} {pos' Dv:Pos} (hc:X.calm=true) (hN:X.N.Nodup) (Fx:X.N[i]?=some x) (hx:X.env.kindOf x=some .local) (B:dB X scope N' cap) (hX:vL X scope N' xb) (hi:PI X tg iter wi) (heq:∀lG acc env,compTurn (.ListComp elt (⟨tg,iter,ifs,0⟩::gens) scope pos) 0 lG acc env=cW (.ListComp elt (⟨tg,iter,ifs,0⟩::gens) scope pos) 0 lG acc env tg ifs p (body acc env))
  (hg:∀C s H fp,PG (dN X scope N' C s H fp (xb C s H fp)) tg g) (ht:∀C s H fp,xV (dN X scope N' C s H fp (xb C s H fp)) ifs tt) (hb:∀C s H fp D,PB (dN X scope N' C s H fp (xb C s H fp)) (body (.ref D) (dN X scope N' C s H fp (xb C s H fp)).env) (tb D))
  (hs:∀x,foldedSetIterable iter X.env x=pure x:=by intro _;rfl)
  (zQ:swapsWith (.ListComp elt (⟨tg,iter,ifs,0⟩::gens) scope pos) (some (.Name x pos')) Dv.line X.env=pure true:=by rfl):
  PS X (.Assign [.Name x pos'] (.ListComp elt (⟨tg,iter,ifs,0⟩::gens) scope pos) Dv) (jD (lB cap wi g tt tb) (cH i)):=by
 intro pins s σ H D I h;rw[exec_Assign_Name_used _ _ _ _ zQ];refine JN (wpAny_standAt (JN ?_));show wpAny _ X.A (do let _<-comprehension (.ListComp elt (⟨tg,iter,ifs,0⟩::gens) scope pos) scope X.env _ (newList []) false (eval iter X.env) (some (assign (.Name x pos') X.env))) _ _ s;refine JN (wpAny_mono (wpAny_comprehension_free (use:=some (assign (.Name x pos') X.env)) (Q:=λ_ s'=>SP X pins D .next s') rfl hs (eI (B.frees I.ok)) B.kind (λy hy e=>by rw[B.nd y hy,e]) (bo (hi pins s σ H _ I h) λx s₁ h₁=>bo h₁ λlG s₂ h₂=>?_))
  (λ_ s' hq=>JQ (JQ hq)) λ_ _ e=>e)
 obtain⟨it,fp,tn,J,H2,e,I2,T,sf,f2,hF⟩:=h₂;subst e;obtain⟨jB,hW⟩:=hF _ I2.fresh;refine jP (RR:=λacc C=>compPost (model X.prog X.w) X.A X.xe (some (assign (.Name _ pos') X.env)) (λ_ s'=>SP X pins D .next s') acc C) hc B hX heq jB hg ht hb I2 T sf f2 hW (λC s' H' m hC I' hn fC q=>?_) λC x s' z=>z
 show wpAny _ X.A (assign (.Name _ pos') X.env (.ref _)) _ _ _;refine wpAny_assign_Name (kf (v:= .ref _) I' hN Fx (.inl hx) rfl (λs3 I3 hsb=>?_) (.inr hx));obtain⟨a,sb,ha⟩:=hsb;have Ia:C≠a:=by
  rcases ha with rfl | ha
  ·exact fC.2.1
  ·exact Ne.symm (fC.2.2.2.2.1 _ a ha)
 refine⟨m,hn.sameBut sb Ia,λh' hsb'=>?_⟩;exact⟨_,H',I3.turned (t':=s3.toks) (λb o hb e=>(hsb'.2 b hb).trans e) fC.1 fC.2.1 fC.2.2.2.1 fC.2.2.2.2.1 fC.2.2.2.2.2,q⟩
end
theorem iH (o:Obj) (f:Array Value->Array Value):(o.mapFields f).dict=o.dict:=by obtain⟨c,d,dt,sl⟩:=o;cases dt <;> rfl
noncomputable def cm (h:Heap) (a T:Addr):Prop:=∃o vs,h.get? a=some o/\o.data= .fields vs/\vs[1]?=some (.ref T)
structure gL (N:Nat) (cls:Value) (a:Addr) (H:Hp) (h:Heap):Prop where
 ge:N<=a
 nH:H a=none
 obj:∃o vs,h.get? a=some o/\(o.cls=cls/\o.dict=none)/\o.data= .fields vs/\(vs[1]?=some .none\/∃T,vs[1]?=some (.ref T))
 tb:∀T,cm h a T->N<=T/\H T=none/\T≠a/\∃oT ts,h.get? T=some oT/\oT.data= .fields ts/\3 < ts.size
structure nC (fs:List Addr) (a:Addr) (h h':Heap):Prop where
 keep:∀b o,h.get? b=some o->b≠a->¬cm h a b->b∉fs->h'.get? b=some o
 slot:∀b o,h.get? b=some o->b≠a->¬cm h a b->∃sl,h'.get? b=some {o with slots:=sl}
 there:∀b o,h.get? b=some o->∃o',h'.get? b=some o'
 tb:∀T,cm h' a T->cm h a T\/h.get? T=none
theorem nC.trans {fs:List Addr} {a:Addr} {h h1 h2:Heap} (x:nC fs a h h1) (y:nC fs a h1 h2):nC fs a h h2 where
 keep:=λb o e n nt nf=>by
  have e1:=x.keep b o e n nt nf;exact y.keep b o e1 n (λz=>by
   rcases x.tb b z with q | q
   ·exact nt q
   ·rw[e] at q;cases q) nf
 slot:=λb o e n nt=>by
  obtain⟨sl,e1⟩:=x.slot b o e n nt;obtain⟨se,e2⟩:=y.slot b _ e1 n (λz=>by
   rcases x.tb b z with q | q
   ·exact nt q
   ·rw[e] at q;cases q)
  exact⟨se,e2⟩
 there:=λb o e=>by obtain⟨o1,e1⟩:=x.there b o e;exact y.there b o1 e1
 tb:=λT z=>by
  rcases y.tb T z with q | q
  ·exact x.tb T q
  ·right;cases hq:h.get? T with
   | none=>rfl
   | some o=>obtain⟨o',e'⟩:=x.there T o hq;rw[e'] at q;cases q
theorem nC.refl {fs:List Addr} {a:Addr} {h:Heap}:nC fs a h h:=⟨λ_ _ e _ _ _=>e,λ_ o e _ _=>⟨o.slots,e⟩,λ_ o e=>⟨o,e⟩,λ_ z=> .inl z⟩
section
variable {M:Model} {A:Around} {E:Value->Shared->Prop} {s:Shared} {N:Nat} {cls:Value} {a:Addr} {H:Hp} {base:Heap} {env eB:Env} {outer:List Env} {L:Addr}
theorem gT (e:Value) (h:env.frame=eB.frame):noteFrame e env=noteFrame e eB:=by unfold noteFrame PySem.frameOf;rw[h]
theorem lZ (wt:A.frames=some (env::outer)) (hl:s.heap.FunFrames base (env::outer)) (hf:env.frame=some L) (F:gL N cls a H s.heap) (fresh:∀b,s.heap.objs.size<=b->H b=none) {head:Value} {wm:Bool} {Q:Unit->Shared->Prop}
  (q:∀h',nC (dG (env::outer)) a s.heap h'->gL N cls a H h'->(∃T,cm h' a T)->Q () {s with heap:=h'}):
  wpAny M A (do let x<-frameOf env;let pl<-entryPlaceOf L wm;let b<-EntryCells.newEntry head x .none (rawInt L) .none pl;setField (.ref a) 1 b) Q E s:=by
 obtain⟨oe,vs,he,l9,hd,h1⟩:=F.obj;have jW:1 < vs.size:=by rcases h1 with h1 | ⟨T,h1⟩ <;> exact(Array.getElem?_eq_some_iff.mp h1).1
 have Fw:a∉dG (env::outer):=λhm=>by obtain⟨_,o,ho,FD⟩:=hl.mem hm;rw[he] at ho;injection ho with ho;subst ho;exact FD vs hd
 refine JN (wpAny_frameOf_fun wt hl hf λh₁ hs₁=>?_);refine JN (wpAny_entryPlaceOf λpl nu=>?_);unfold EntryCells.newEntry newFields;refine JN (wpAny_newObj_type ?_ (nu.sizeOk5 _ _ _ _ _));have he₁:h₁.get? a=some oe:=(hs₁.2.1 a Fw).trans he;generalize hT:({cls:= .type "traceback",dict:=none,data:= .fields ([head,.ref L,.none,rawInt L,.none]++(if pl.isEmpty then List.replicate 6 Value.none else pl)).toArray}:Obj)=oT;have Il:oT.data= .fields ([head,.ref L,.none,rawInt L,.none]++(if pl.isEmpty then List.replicate 6 Value.none else pl)).toArray:=by rw[<-hT]
 have Im:oT.isFreed=false:=by rw[<-hT];rfl
 have he₂:=JP (h:=h₁) oT he₁;refine wpAny_setField he₂ hd jW (q _ ?_ ?_ ?_)
 all_goals
  have hz:h₁.objs.size=s.heap.objs.size:=hs₁.1;have G2:h₁.objs.size≠a:=Nat.ne_of_gt (J0 he₁);have hd₃:=Obj.data_mapFields hd (·.setIfInBounds 1 (Value.ref h₁.objs.size));have he₃:=Heap.get?_update_self (Obj.mapFields (·.setIfInBounds 1 (Value.ref h₁.objs.size))) he₂ (Obj.isFreed_of_fields hd₃);have hT₃:=(Kj (h₁.push oT) (Obj.mapFields (·.setIfInBounds 1 (Value.ref h₁.objs.size))) (Ne.symm G2)).trans (JY h₁ Im);have kp:∀b o,b≠a->h₁.get? b=some o->((h₁.push oT).update a (Obj.mapFields (·.setIfInBounds 1 (Value.ref h₁.objs.size)))).get? b=some o:=λb o hb e=>
   (Kj _ _ (Ne.symm hb)).trans (JP _ e)
  have Hx:∀T,cm ((h₁.push oT).update a (Obj.mapFields (·.setIfInBounds 1 (Value.ref h₁.objs.size)))) a T->T=h₁.objs.size:=λT ⟨o,ws,z1,z2,z3⟩=>by rw[he₃] at z1;cases z1;rw[hd₃] at z2;cases z2;simp[jW] at z3;exact z3.symm
 ·refine⟨λb o e n nt nf=>kp b o n ((hs₁.2.1 b nf).trans e),λb o e n nt=>?_,λb o e=>?_,λT z=> .inr ?_⟩
  ·obtain⟨sl,e1⟩:=hs₁.2.2 b o e;exact⟨sl,kp b _ n e1⟩
  ·by_cases hb:b=a
   ·subst hb;exact⟨_,he₃⟩
   ·obtain⟨sl,e1⟩:=hs₁.2.2 b o e;exact⟨_,kp b _ hb e1⟩
  ·rw[Hx T z,hz];exact Heap.get?_none_of_le (JW _)
 ·refine⟨F.ge,F.nH,⟨_,_,he₃,⟨(Obj.cls_mapFields _ _).trans l9.1,(iH _ _).trans l9.2⟩,hd₃,.inr ⟨h₁.objs.size,by simp[jW]⟩⟩,λT z=>?_⟩;have e:=Hx T z;subst e;refine⟨?_,fresh _ (by rw[hz];exact JW _),G2,oT,_,hT₃,Il,by simp⟩;rw[hz];exact J1 F.ge (Nat.le_of_lt (J0 he))
 ·exact⟨h₁.objs.size,_,_,he₃,hd₃,by simp[jW]⟩
theorem tF (wt:A.frames=some (env::outer)) (hl:s.heap.FunFrames base (env::outer)) (hf:env.frame=some L) (F:gL N cls a H s.heap) (fresh:∀b,s.heap.objs.size<=b->H b=none) {Q:Unit->Shared->Prop}
  (q:∀h',nC (dG (env::outer)) a s.heap h'->gL N cls a H h'->(∃T,cm h' a T)->Q () {s with heap:=h'}):wpAny M A (noteFrame (.ref a) env) Q E s:=by
 obtain⟨oe,vs,he,l9,hd,h1⟩:=id F.obj;unfold noteFrame;simp only[hf];rcases h1 with h1 | ⟨T,h1⟩
 ·refine JN (wpAny_field he hd h1 ?_);rw[if_neg (by decide)];exact lZ wt hl hf F fresh q
 ·have og:cm s.heap a T:=⟨oe,vs,he,hd,h1⟩;obtain⟨t1,t2,t3,oT,ts,hT,tN,h3⟩:=F.tb T og;refine JN (wpAny_field he hd h1 ?_);rw[if_pos (show (Value.ref T != Value.none)=true from by simp)];refine JN (wpAny_field hT tN (x:=ts[3]) (by simp[h3]) ?_);split
  ·have e:s={s with heap:=s.heap}:=by cases s;rfl
   rw[e];exact JQ (q s.heap nC.refl F ⟨T,og⟩)
  ·refine JN (wpAny_setField hT tN h3 ?_);have other:∀b,b≠T->(s.heap.update T (Obj.mapFields (·.setIfInBounds 3 Value.none))).get? b=s.heap.get? b:=λb hb=>Kj _ _ (Ne.symm hb)
   have B6:=Heap.get?_update_self (Obj.mapFields (·.setIfInBounds 3 Value.none)) hT (Obj.isFreed_of_fields (Obj.data_mapFields tN _));have DH:∀T',cm (s.heap.update T (Obj.mapFields (·.setIfInBounds 3 Value.none))) a T'->T'=T:=λT' ⟨o,ws,z1,z2,z3⟩=>by rw[other a (Ne.symm t3),he] at z1;cases z1;rw[hd] at z2;cases z2;rw[h1] at z3;cases z3;rfl
   have F':gL N cls a H (s.heap.update T (Obj.mapFields (·.setIfInBounds 3 Value.none))):=by refine⟨F.ge,F.nH,⟨oe,vs,(other a (Ne.symm t3)).trans he,l9,hd,.inr ⟨T,h1⟩⟩,λT' z=>?_⟩;rw[DH T' z];exact⟨t1,t2,t3,_,_,B6,Obj.data_mapFields tN _,by simpa using h3⟩
   have vC:(s.heap.update T (Obj.mapFields (·.setIfInBounds 3 Value.none))).FunFrames base (env::outer):=hl.of_keeps λb o hb FD=>⟨o,(other b λz=>by
    subst z;rw[hT] at hb;cases hb;exact FD ts tN).trans hb,rfl⟩
   refine lZ (s:={s with heap:=s.heap.update T (Obj.mapFields (·.setIfInBounds 3 Value.none))}) wt vC hf F' (λb hb=>fresh b (by
    have:(s.heap.update T (Obj.mapFields (·.setIfInBounds 3 Value.none))).objs.size=s.heap.objs.size:=Heap.size_after_update ..;rw[this] at hb;exact hb)) λh' x f t=>q h' (nC.trans ⟨λb o e n nt nf=>(other b λz=>nt (z▸og)).trans e,λb o e n nt=>⟨o.slots,(other b λz=>nt (z▸og)).trans e⟩,λb o e=>?_,λT' z=> .inl (by rw[DH T' z];exact og)⟩ x) f t
   by_cases hb:b=T
   ·subst hb;exact⟨_,B6⟩
   ·exact⟨o,(other b hb).trans e⟩
theorem v9 (wt:A.frames=some (eB::outer)) (hl:s.heap.FunFrames base (eB::outer)) (Ir:eB.frame=some L) (hf:env.frame=eB.frame) (F:gL N cls a H s.heap) (fresh:∀b,s.heap.objs.size<=b->H b=none) {Q:Unit->Shared->Prop}
  (q:∀h',nC (dG (eB::outer)) a s.heap h'->gL N cls a H h'->(∃T,cm h' a T)->Q () {s with heap:=h'}):wpAny M A (noteFrame (.ref a) env) Q E s:=by
 rw[gT _ hf];exact tF wt hl Ir F fresh q
theorem gb {fs:List Addr} {fl:Option Addr} (F:gL N cls a H s.heap) (ht:∃T,cm s.heap a T) {Q:Unit->Shared->Prop} (q:∀h',nC fs a s.heap h'->gL N cls a H h'->(∃T,cm h' a T)->Q () {s with heap:=h'}):wpAny M A (setFlight (.ref a) fl) Q E s:=by
 obtain⟨T,og⟩:=ht;obtain⟨t1,t2,t3,oT,ts,hT,tN,h3⟩:=F.tb T og;obtain⟨oe,vs,he,hd,h1⟩:=id og;obtain⟨JL,kn,G6,l9,oh,_⟩:=id F.obj;rw[he] at G6;cases G6;unfold setFlight;refine JN (wpAny_field he hd h1 ?_);rw[if_pos (show (Value.ref T != Value.none)=true from by simp)];refine wpAny_setField hT tN h3 ?_;generalize hx:(fl.elim Value.none λf=>rawInt f)=x;have other:∀b,b≠T->(s.heap.update T (Obj.mapFields (·.setIfInBounds 3 x))).get? b=s.heap.get? b:=λb hb=>Kj _ _ (Ne.symm hb)
 have B6:=Heap.get?_update_self (Obj.mapFields (·.setIfInBounds 3 x)) hT (Obj.isFreed_of_fields (Obj.data_mapFields tN _));have DH:∀T',cm (s.heap.update T (Obj.mapFields (·.setIfInBounds 3 x))) a T'->T'=T:=λT' ⟨o,ws,z1,z2,z3⟩=>by rw[other a (Ne.symm t3),he] at z1;cases z1;rw[hd] at z2;cases z2;rw[h1] at z3;cases z3;rfl
 refine q _ ⟨λb o e n nt nf=>(other b λz=>nt (z▸og)).trans e,λb o e n nt=>⟨o.slots,(other b λz=>nt (z▸og)).trans e⟩,λb o e=>?_,λT' z=> .inl (by rw[DH T' z];exact og)⟩ ⟨F.ge,F.nH,⟨oe,vs,(other a (Ne.symm t3)).trans he,l9,hd,.inr ⟨T,h1⟩⟩,λT' z=>?_⟩ ⟨T,oe,vs,(other a (Ne.symm t3)).trans he,hd,h1⟩
 ·by_cases hb:b=T
  ·subst hb;exact⟨_,B6⟩
  ·exact⟨o,(other b hb).trans e⟩
 ·rw[DH T' z];exact⟨t1,t2,t3,_,_,B6,Obj.data_mapFields tN _,by simpa using h3⟩
theorem wc {fs:List Addr} {GI:String} {α:Type} (F:gL N cls a H s.heap) (ht:∃T,cm s.heap a T) {Q:α->Shared->Prop} (q:∀h',nC fs a s.heap h'->gL N cls a H h'->(∃T,cm h' a T)->E (.ref a) {s with heap:=h'}):wpAny M A (passOn GI (.ref a) env:Sem α) Q E s:=by obtain⟨T,og⟩:=id ht;obtain⟨oe,vs,he,hd,h1⟩:=og;unfold PySem.passOn;refine JN (wpAny_field he hd h1 ?_);rw[if_neg (show¬((Value.ref T==Value.none)=true) from by simp)];exact JN (gb F ht λh' x f t=>wpAny_throw (q h' x f t))
theorem v8 {fs:List Addr} (F:gL N cls a H s.heap) (ht:∃T,cm s.heap a T) (q:∀h',nC fs a s.heap h'->gL N cls a H h'->(∃T,cm h' a T)->E (.ref a) {s with heap:=h'}):cameBackBy M A env E (.ref a) s:=by obtain⟨T,og⟩:=id ht;obtain⟨oe,vs,he,hd,h1⟩:=og;unfold cameBackBy;refine JN (wpAny_field he hd h1 ?_);rw[if_neg (show¬((Value.ref T==Value.none)=true) from by simp)];exact gb F ht λh' x f t=>q h' x f t
end
section
variable {X:Cx} {σ:St} {H:Hp} {s:Shared} {cls:Value} {a:Addr}
theorem Inv.Em {h':Heap} (Hf:X.pn=[]) (I:Inv X [] σ H s) (F:gL X.s₀.heap.objs.size cls a H s.heap) (x:nC (dG X.stack) a s.heap h'):Inv X [] σ H {s with heap:=h'}:=by
 obtain⟨oa,va,ha,G3,Iq,JI⟩:=F.obj;have GC:∀b,cm s.heap a b->X.s₀.heap.objs.size<=b/\H b=none/\b≠a/\∃oT ts,s.heap.get? b=some oT/\oT.data= .fields ts/\3 < ts.size:=F.tb;have GP:∀b o,s.heap.get? b=some o->(∀vs,o.data≠ .fields vs)->b≠a/\¬cm s.heap a b:=λb o e nf=>by
  refine⟨λz=>?_,λz=>?_⟩
  ·subst z;rw[ha] at e;cases e;exact nf va Iq
  ·obtain⟨_,_,_,oT,ts,hT,tN,_⟩:=GC b z;rw[hT] at e;cases e;exact nf ts tN
 have old:∀b o,X.s₀.heap.get? b=some o->b≠a/\¬cm s.heap a b:=λb o e=>by
  refine⟨λz=>?_,λz=>?_⟩
  ·subst z;exact absurd (Kc (J0 e) F.ge) (Nat.lt_irrefl _)
  ·exact absurd (Kc (J0 e) (GC b z).1) (Nat.lt_irrefl _)
 have Ef:∀b o,X.s₀.heap.get? b=some o->b≠X.env.locals:=λb o e=>Km (Kc (J0 e) I.ok.above)
 have A6:∀b o,X.s₀.heap.get? b=some o->b∈dG X.stack->b∈X.fs:=λb o e z=>by
  rcases J3.mp (I.jh b z) with q | q
  ·exact absurd q (Ef b o e)
  ·exact q
 have A9:∀c u,H c=some u->∀v,s.heap.get? c=some v->h'.get? c=some v:=λc u hc v e=>by
  refine x.keep c v e (λz=>by subst z;rw[F.nH] at hc;cases hc) (λz=>by rw[(GC c z).2.1] at hc;cases hc) λz=>?_
  rw[I.ly c z] at hc;cases hc
 have cellK:∀y c,X.env.cells.lookup y=some c->∀v,s.heap.IsCell c v->h'.IsCell c v:=λy c e v ⟨o,ho,hd⟩=>by
  obtain⟨n1,n2⟩:=GP c o ho λvs q=>by rw[hd] at q;cases q
  obtain⟨sl,q⟩:=x.slot c o ho n1 n2;exact⟨_,q,hd⟩
 refine⟨I.ok,I.os,I.bare,⟨λb o e n hb hx=>?_,λb o e n hb hx=>?_,I.base.free,λb o e hx=>?_,I.base.tups,I.base.frzs,I.base.tbls⟩,?_,λy c e=>?_,I.free,I.cu,λp hp=>?_,?_,I.len⟩
 ·exact x.keep b o (I.base.keep b o e n hb hx) (old b o e).1 (old b o e).2 λz=>hb (A6 b o e z)
 ·obtain⟨sl,e1⟩:=I.base.slot b o e n hb hx;obtain⟨Dq,e2⟩:=x.slot b _ e1 (old b o e).1 (old b o e).2;exact⟨Dq,e2⟩
 ·obtain⟨o',e1⟩:=I.base.there b o e hx;exact x.there b o' e1
 ·obtain⟨m,⟨o,es,ep,ho,hd,r⟩,hl⟩:=I.loc;obtain⟨n1,n2⟩:=GP _ o ho λvs q=>by rw[hd] at q;cases q
  obtain⟨sl,q⟩:=x.slot _ o ho n1 n2;refine⟨m,⟨_,es,ep,q,hd,r⟩,λi y v e1 e2 e3=>?_⟩;obtain⟨u,rr,l⟩:=hl i y v e1 e2 e3;refine⟨u,rr,?_⟩;rcases l with l | ⟨k,c,e,z⟩
  ·exact .inl l
  ·exact .inr ⟨k,c,e,cellK y c e _ z⟩
 ·obtain⟨v,z⟩:=I.cell y c e;exact⟨v,cellK y c e v z⟩
 ·rw[Hf] at hp;cases hp
 ·intro b u e;refine(I.hok b u e).fX (λc v hc q=>?_) (λ_ q=>q) λ_ _ q=>q
  rcases hc with rfl | hc
  ·exact A9 c u e v q
  ·exact A9 c _ hc v q
end
noncomputable def iz (X:Cx) (E:XK) (e:Value) (s':Shared):Prop:=∃σ H' a cls,e= .ref a/\Inv X [] σ H' s'/\gL X.s₀.heap.objs.size cls a H' s'.heap/\E cls none H'
noncomputable def lF (P:Program) (w:World):iw:=λouter H s E e s'=>∃H' a cls,e= .ref a/\s'.os=s.os/\AllBare s'.gens/\Un (dG outer) [] H H' s.heap s'.heap/\cG P w H' s'.heap/\gL s.heap.objs.size cls a H' s'.heap/\E cls none H'
structure dR (X:Cx):Prop where
 pn:X.pn=[]
 st:∃eB lh L,X.stack=eB::lh/\eB.frame=some L/\X.env.frame=eB.frame
section
variable {X:Cx} {E:XK}
theorem uV {CX:iw} {P:Program} {w:World} {K:PySem.W.Frag} {mg:Str->Option Value} {base:Heap} {N:List Str} {qual:Str} {scope:Scope} {f:Addr} {cd:Value} {A:Around} {outer:List Env} {s:Shared} {H:Hp}:dR (iF CX P w K mg base N qual scope f cd A outer s H E):=
 ⟨rfl,_,_,_,rfl,rfl,rfl⟩
theorem lz {scope:Scope} {N':List Str} {C:Addr} {s:Shared} {H:Hp} {fp:List Addr} {xe:Value->Shared->Prop} (st:dR X):dR (dN X scope N' C s H fp xe):=by obtain⟨hp,eB,lh,L,h1,h2,h3⟩:=st;exact⟨rfl,eB,lh,L,h1,h2,h3⟩
theorem gL.down {N N':Nat} {cls:Value} {a:Addr} {H:Hp} {h:Heap} (F:gL N cls a H h) (hn:N'<=N):gL N' cls a H h:=⟨J1 hn F.ge,F.nH,F.obj,λT z=>⟨J1 hn (F.tb T z).1,(F.tb T z).2⟩⟩
theorem vd {pins:List (Addr×Obj)} {σ:St} {H:Hp} {s s':Shared} {e:Value} (I:Inv X pins σ H s) (Hf:X.pn=[]) (c:lF X.prog X.w X.stack H s E e s'):iz X E e s':=by
 obtain⟨H',a,cls,e1,h1,h2,h3,h4,h5,h6⟩:=c;have I1:Inv X pins σ H' s':=I.sG (ch:=[]) h1 h3 h4 h2 λb z=>by cases z
 refine⟨σ,H',a,cls,e1,I1.ik (λp hp=>by cases hp),h5.down I.sz,h6⟩
theorem ko (st:dR X) {e:Value} {s:Shared} (h:iz X E e s) {Q:Unit->Shared->Prop} {E2:Value->Shared->Prop} (q:∀σ H' a cls s',e= .ref a->Inv X [] σ H' s'->gL X.s₀.heap.objs.size cls a H' s'.heap->(∃T,cm s'.heap a T)->E cls none H'->Q () s'):wpAny (model X.prog X.w) X.A (noteFrame e X.env) Q E2 s:=by
 obtain⟨σ,H',a,cls,rfl,I,F,hE⟩:=h;obtain⟨hp,eB,lh,L,h1,h2,h3⟩:=st;have wt:=I.ok.frames;have hl:=I.stack;rw[h1] at wt hl;refine v9 wt hl h2 h3 F (λb hb=>I.hok.fresh hb) λh' x f t=>?_
 rw[<-h1] at x;exact q σ H' a cls _ rfl (I.Em hp F x) f t hE
theorem ni (st:dR X) {e:Value} {s:Shared} (h:iz X E e s) {R:Value->Shared->Prop} (q:∀σ H' a cls s',e= .ref a->Inv X [] σ H' s'->gL X.s₀.heap.objs.size cls a H' s'.heap->(∃T,cm s'.heap a T)->E cls none H'->R e s'):notedBy (model X.prog X.w) X.A X.env R e s:=
 ko st h q
theorem qE (st:dR X) (hx:∀e s',iz X E e s'->X.xe e s') (Cu:∀e s',X.xe e s'->iz X E e s'):PassesOwn (model X.prog X.w) X.A X.env X.xe:=λe s' h=>by
 refine ni st (Cu e s' h) λσ H' a cls s1 e1 I1 F1 t1 hE=>?_
 subst e1;exact v8 (fs:=dG X.stack) F1 t1 λh' x f t=>hx _ _ ⟨σ,H',a,cls,rfl,I1.Em st.pn F1 x,f,hE⟩
end
theorem Bm {P:Program} {w:World} {K:PySem.W.Frag} {mg:Str->Option Value} {base:Heap} {N:List Str} {qual:Str} {scope:Scope} {f:Addr} {cd:Value} {A:Around} {outer:List Env} {s:Shared} {H:Hp} {E:XK} {e:Value} {s':Shared}
  (h:iz (iF (lF P w) P w K mg base N qual scope f cd A outer s H E) E e s'):(iF (lF P w) P w K mg base N qual scope f cd A outer s H E).xe e s':=by
 have st:=uV (CX:=lF P w) (P:=P) (w:=w) (K:=K) (mg:=mg) (base:=base) (N:=N) (qual:=qual) (scope:=scope) (f:=f) (cd:=cd) (A:=A) (outer:=outer) (s:=s) (H:=H) (E:=E);show wpAny (model P w) (A.deeper (envOfC qual scope s.heap.objs.size f cd)) (leaving (envOfC qual scope s.heap.objs.size f cd) e) (λ_ s''=>lF P w outer H s E e s'') (λe' s''=>lF P w outer H s E e' s'') s';unfold leaving;refine JN (ko st h λσ H' a cls s1 e1 I1 F1 t1 hE=>?_);subst e1;refine gb (fs:=dG (iF (lF P w) P w K mg base N qual scope f cd A outer s H E).stack) F1 t1 λh' x f' t=>?_
 have I2:=I1.Em st.pn F1 x;exact⟨H',a,cls,rfl,I2.os,I2.bare,I2.base,I2.hok,f',hE⟩
section
variable {X:Cx} {E:XK} {scope:Scope} {N':List Str}
theorem Cx.Ok.xe {xe:Value->Shared->Prop} (k:X.Ok):Cx.Ok {X with xe:=xe}:=⟨k.mod,k.kind,k.glob,k.blt,k.above,k.inj,k.has,k.xY,k.hd,k.frames,k.A6,k.Bp,k.bs,k.vR,k.mF,k.nX,k.gM,k.zl⟩
theorem Inv.xe {xe:Value->Shared->Prop} {pins:List (Addr×Obj)} {σ:St} {H:Hp} {s:Shared} (I:Inv X pins σ H s):Inv {X with xe:=xe} pins σ H s:=⟨I.ok.xe,I.os,I.bare,I.base,I.loc,I.cell,I.free,I.cu,I.pin,I.hok,I.len⟩
noncomputable def pe (X:Cx) (scope:Scope) (N':List Str) (E:XK) (C:Addr) (s:Shared) (H:Hp) (fp:List Addr):Value->Shared->Prop:=iz (dN X scope N' C s H fp λ_ _=>False) E
theorem vc {C:Addr} {s:Shared} {H:Hp} {fp:List Addr} {e:Value} {s':Shared} {xe:Value->Shared->Prop} (h:iz (dN X scope N' C s H fp xe) E e s'):pe X scope N' E C s H fp e s':=by obtain⟨σ,H',a,cls,e1,I,F,hE⟩:=h;exact⟨σ,H',a,cls,e1,I.xe,F,hE⟩
theorem um {C:Addr} {s:Shared} {H:Hp} {fp:List Addr} {e:Value} {s':Shared} {xe:Value->Shared->Prop} (h:pe X scope N' E C s H fp e s'):iz (dN X scope N' C s H fp xe) E e s':=by obtain⟨σ,H',a,cls,e1,I,F,hE⟩:=h;exact⟨σ,H',a,cls,e1,I.xe,F,hE⟩
theorem qf {C:Addr} {s:Shared} {H:Hp} {fp:List Addr} (st:dR X):PassesOwn (model X.prog X.w) X.A (dN X scope N' C s H fp (pe X scope N' E C s H fp)).env (pe X scope N' E C s H fp):=
 qE (X:=dN X scope N' C s H fp (pe X scope N' E C s H fp)) (E:=E) (lz st) (λe s' h=>vc h) (λe s' h=>um h)
theorem gL.at {h0:Nat} {cls:Value} {a:Addr} {H:Hp} {h h':Heap} (F:gL h0 cls a H h) (k:∀b o vs,h.get? b=some o->o.data= .fields vs->h'.get? b=some o):gL h0 cls a H h':=by obtain⟨o,vs,h1,h2,h3,h4⟩:=F.obj;have e1:=k a o vs h1 h3;refine⟨F.ge,F.nH,⟨o,vs,e1,h2,h3,h4⟩,λT z=>?_⟩;obtain⟨o',ws,z1,z2,z3⟩:=z;rw[e1] at z1;cases z1;obtain⟨t1,t2,t3,oT,ts,t4,t5,t6⟩:=F.tb T ⟨o,ws,h1,z2,z3⟩;exact⟨t1,t2,t3,oT,ts,k T oT ts t4 t5,t5,t6⟩
theorem iu (st:dR X) (IU:∀e s',iz X E e s'->X.xe e s'):vL X scope N' (pe X scope N' E):=by
 refine⟨λpins σ C s s1 H H1 fp x s' I1 f1 hC hs hH yc hxb=>?_⟩;refine ni (X:=dN X scope N' C s H fp (pe X scope N' E C s H fp)) (lz st) (um hxb) λσ' H' a cls s5 e1 I5 F5 t5 hE=>?_
 subst e1;obtain⟨m5,FC,_⟩:=I5.loc;have tS:s5.heap.Ns C m5:=FC;refine⟨m5,tS,λh' hsb qN zA=>?_⟩;have un:Un (dG X.stack) fp H1 H' s1.heap s5.heap:=by
  have u1:Un (dG X.stack) fp H1 H s1.heap s.heap:=by rw[hH,hs];exact Un.laid (λb u e=>JP _ e) (JW _) I1.fresh
  exact u1.trans I5.base
 have hI:Inv X pins σ H' s5:=I1.sG (ch:=fp) (I5.os.trans (by show s.os=s1.os;rw[hs])) un I5.hok I5.bare λb hb=>⟨(f1 b hb).2.2.2.1,(f1 b hb).2.1,(f1 b hb).2.2.2.2.1,(f1 b hb).2.2.2.2.2⟩
 have fC:dQ X pins H' C:=I1.kQ (Nat.le_of_lt hC) I5.free;have Ie:Inv X pins σ H' {s5 with heap:=h',toks:=s5.toks}:=hI.turned (t':=s5.toks) (λb o hb e=>(hsb.2 b hb).trans e) fC.1 fC.2.1 fC.2.2.2.1 fC.2.2.2.2.1 fC.2.2.2.2.2;have Ig:Inv X [] σ H' {s5 with heap:=h'}:=Ie.ik λp hp=>by cases hp
 have jW:s1.heap.objs.size<=s.heap.objs.size:=by rw[hs];show _<=(s1.heap.push _).objs.size;rw[Kl];exact Nat.le_succ _
 have F6:gL X.s₀.heap.objs.size cls a H' h':=by
  have hd:∀b o vs,s5.heap.get? b=some o->o.data= .fields vs->h'.get? b=some o:=λb o vs e hd=>by refine(hsb.2 b λz=>?_).trans e;subst z;obtain⟨o',es,ep,q5,oh,_⟩:=tS;rw[e] at q5;cases q5;rw[hd] at oh;cases oh
  exact(F5.at hd).down (J1 I1.sz jW)
 have t6:∃T,cm h' a T:=by obtain⟨T,o,vs,z1,z2,z3⟩:=t5;refine⟨T,o,vs,(hsb.2 a λz=>?_).trans z1,z2,z3⟩;subst z;obtain⟨o',es,ep,q5,oh,_⟩:=tS;rw[z1] at q5;cases q5;rw[z2] at oh;cases oh
 exact wc (s:={s5 with heap:=h'}) (fs:=dG X.stack) F6 t6 λh'' x f t=>IU _ _ ⟨σ,H',a,cls,rfl,Ig.Em st.pn F6 x,f,hE⟩
end
end L2
end
section
namespace Rx
open PySem PySem.W PySem.Spec PyProof.Rows L2 PySem.SeqAt
inductive Dt where
 | ba | bl (b:Bool) | int (i:Int) | str (x:Str) | tup (ds:List Dt) | lst (ds:List Dt) | aQ (ns:List Int)
 | bK (ks vs:List Dt) | obj (c:Nat) (fs:List Dt) | exc (c:Nat)
noncomputable abbrev Frag:=PySem.W.Frag
noncomputable def KL (K:Frag) (a:Addr) (xs:List V):Prop:=∃(o:Obj) (its:Array Value) (n:Nat),K.lookup a=some o/\o.cls= .type "list"/\o.dict=none/\o.data= .seq its n/\its.size<=sizeLine/\aq xs its.toList
mutual
noncomputable def RV (K:Frag) (A:Addr->Prop) (H:Hp):V->Dt->Prop
 | x,.ba=>x= .ba
 | x,.bl b=>x= .bl b
 | x,.int i=>x= .int i
 | x,.str z=>x= .str z
 | x,.tup ds=>∃a xs,x= .ref a/\H a=some (.tup xs)/\ag K A H xs ds
 | x,.lst ds=>∃a xs,x= .ref a/\H a=some (.lst xs)/\¬A a/\ag K A H xs ds
 | x,.aQ ns=>∃a,x= .ref a/\((Rd H a (.lst (ns.map V.int))/\¬A a)\/KL K a (ns.map V.int))
 | _,.bK _ _=>False
 | _,.obj _ _=>False
 | _,.exc _=>False
noncomputable def ag (K:Frag) (A:Addr->Prop) (H:Hp):List V->List Dt->Prop
 | [],[]=>True
 | x::xs,d::ds=>RV K A H x d/\ag K A H xs ds
 | [],_::_=>False
 | _::_,[]=>False
end
section
variable {K:Frag} {A B:Addr->Prop} {H H':Hp}
theorem RV.az {x:V} (h:RV K A H x .ba):x= .ba:=by unfold RV at h;exact h
theorem RV.ax {x:V} {b} (h:RV K A H x (.bl b)):x= .bl b:=by unfold RV at h;exact h
theorem RV.int_inv {x:V} {b} (h:RV K A H x (.int b)):x= .int b:=by unfold RV at h;exact h
theorem RV.str_inv {x:V} {b} (h:RV K A H x (.str b)):x= .str b:=by unfold RV at h;exact h
theorem RV.ae {x:V} {ds} (h:RV K A H x (.tup ds)):∃a xs,x= .ref a/\H a=some (.tup xs)/\ag K A H xs ds:=by unfold RV at h;exact h
theorem RV.lst_inv {x:V} {ds} (h:RV K A H x (.lst ds)):∃a xs,x= .ref a/\H a=some (.lst xs)/\¬A a/\ag K A H xs ds:=by unfold RV at h;exact h
theorem RV.ey {x:V} {ns} (h:RV K A H x (.aQ ns)):∃a,x= .ref a/\((Rd H a (.lst (ns.map V.int))/\¬A a)\/KL K a (ns.map V.int)):=by unfold RV at h;exact h
theorem RV.gu {x:V} {ns} (h:RV K A H x (.aQ ns)):∃a,x= .ref a/\cY K H a (ns.map V.int):=by
 obtain⟨a,e,h | h⟩:=h.ey
 ·exact⟨a,e,.inl h.1⟩
 ·exact⟨a,e,.inr h⟩
theorem RV.g0 {x:V} {ks vs} (h:RV K A H x (.bK ks vs)):False:=by unfold RV at h;exact h
theorem RV.ig {x:V} {ks vs} (h:RV K A H x (.obj ks vs)):False:=by unfold RV at h;exact h
theorem RV.g9 {x:V} {ks} (h:RV K A H x (.exc ks)):False:=by unfold RV at h;exact h
theorem RV.eR:RV K A H .ba .ba:=by unfold RV;rfl
theorem RV.mC {b}:RV K A H (.bl b) (.bl b):=by unfold RV;rfl
theorem RV.b8 {b}:RV K A H (.int b) (.int b):=by unfold RV;rfl
theorem RV.gq {b}:RV K A H (.str b) (.str b):=by unfold RV;rfl
theorem RV.b9 {a xs ds} (h:H a=some (.tup xs)) (t:ag K A H xs ds):RV K A H (.ref a) (.tup ds):=by unfold RV;exact⟨a,xs,rfl,h,t⟩
theorem RV.du {a xs ds} (h:H a=some (.lst xs)) (n:¬A a) (t:ag K A H xs ds):RV K A H (.ref a) (.lst ds):=by unfold RV;exact⟨a,xs,rfl,h,n,t⟩
theorem ag.nil:ag K A H [] []:=by unfold ag;trivial
theorem ag.cons {x d xs ds} (h:RV K A H x d) (t:ag K A H xs ds):ag K A H (x::xs) (d::ds):=by unfold ag;exact⟨h,t⟩
theorem ag.nil_inv {xs} (h:ag K A H xs []):xs=[]:=by
 cases xs with
 | nil=>rfl
 | cons=>unfold ag at h;exact h.elim
theorem ag.cv {ds} (h:ag K A H [] ds):ds=[]:=by
 cases ds with
 | nil=>rfl
 | cons=>unfold ag at h;exact h.elim
theorem ag.cons_inv {xs d ds} (h:ag K A H xs (d::ds)):∃x r,xs=x::r/\RV K A H x d/\ag K A H r ds:=by
 cases xs with
 | nil=>unfold ag at h;exact h.elim
 | cons x r=>unfold ag at h;exact⟨x,r,rfl,h⟩
theorem ag.qO {x xs ds} (h:ag K A H (x::xs) ds):∃d r,ds=d::r/\RV K A H x d/\ag K A H xs r:=by
 cases ds with
 | nil=>unfold ag at h;exact h.elim
 | cons d r=>unfold ag at h;exact⟨d,r,rfl,h⟩
theorem ag.length:∀{xs ds},ag K A H xs ds->xs.length=ds.length
 | [],[],_=>rfl
 | [],_::_,h=>by unfold ag at h;exact h.elim
 | _::_,[],h=>by unfold ag at h;exact h.elim
 | _::xs,_::ds,h=>by unfold ag at h;simp[ag.length h.2]
theorem ag.get:∀{xs ds} {i:Nat} {x},ag K A H xs ds->xs[i]?=some x->∃d,ds[i]?=some d/\RV K A H x d
 | [],_,_,_,_,e=>by simp at e
 | _::_,[],_,_,h,_=>by unfold ag at h;exact h.elim
 | _::_,_::_,0,_,h,e=>by unfold ag at h;simp at e;subst e;exact⟨_,rfl,h.1⟩
 | _::xs,_::ds,i + 1,x,h,e=>by unfold ag at h;obtain⟨d,e1,e2⟩:=ag.get (i:=i) h.2 (by simpa using e);exact⟨d,by simpa using e1,e2⟩
theorem ag.getD:∀{xs ds} {i:Nat} {d},ag K A H xs ds->ds[i]?=some d->∃x,xs[i]?=some x/\RV K A H x d
 | _,[],_,_,_,e=>by simp at e
 | [],_::_,_,_,h,_=>by unfold ag at h;exact h.elim
 | _::_,_::_,0,_,h,e=>by unfold ag at h;simp at e;subst e;exact⟨_,rfl,h.1⟩
 | _::xs,_::ds,i + 1,x,h,e=>by unfold ag at h;obtain⟨d,e1,e2⟩:=ag.getD (i:=i) h.2 (by simpa using e);exact⟨d,by simpa using e1,e2⟩
theorem ag.append:∀{xs ys ds es},ag K A H xs ds->ag K A H ys es->ag K A H (xs++ys) (ds++es)
 | [],_,[],_,_,h=>h
 | [],_,_::_,_,h,_=>by unfold ag at h;exact h.elim
 | _::_,_,[],_,h,_=>by unfold ag at h;exact h.elim
 | _::xs,ys,_::ds,es,h,h'=>by unfold ag at h;exact ag.cons h.1 (ag.append h.2 h')
theorem ag.take:∀{xs ds} (n:Nat),ag K A H xs ds->ag K A H (xs.take n) (ds.take n)
 | [],ds,n,h=>by rw[h.cv];simp;exact ag.nil
 | x::xs,[],n,h=>by unfold ag at h;exact h.elim
 | x::xs,d::ds,0,h=>by simp;exact ag.nil
 | x::xs,d::ds,n + 1,h=>by unfold ag at h;simp only[List.take_succ_cons];exact ag.cons h.1 (ag.take n h.2)
theorem ag.drop:∀{xs ds} (n:Nat),ag K A H xs ds->ag K A H (xs.drop n) (ds.drop n)
 | [],ds,n,h=>by rw[h.cv];simp;exact ag.nil
 | x::xs,[],n,h=>by unfold ag at h;exact h.elim
 | x::xs,d::ds,0,h=>h
 | x::xs,d::ds,n + 1,h=>by unfold ag at h;simp only[List.drop_succ_cons];exact ag.drop n h.2
theorem ag.set:∀{xs ds} (n:Nat) {x d},ag K A H xs ds->RV K A H x d->ag K A H (xs.set n x) (ds.set n d)
 | [],ds,n,_,_,h,_=>by rw[h.cv];simp;exact ag.nil
 | x::xs,[],n,_,_,h,_=>by unfold ag at h;exact h.elim
 | x::xs,d::ds,0,_,_,h,h'=>by unfold ag at h;simp only[List.set_cons_zero];exact ag.cons h' h.2
 | x::xs,d::ds,n + 1,_,_,h,h'=>by unfold ag at h;simp only[List.set_cons_succ];exact ag.cons h.1 (ag.set n h.2 h')
theorem ag.reverse:∀{xs ds},ag K A H xs ds->ag K A H xs.reverse ds.reverse
 | [],ds,h=>by rw[h.cv];exact ag.nil
 | x::xs,[],h=>by unfold ag at h;exact h.elim
 | x::xs,d::ds,h=>by unfold ag at h;rw[List.reverse_cons,List.reverse_cons];exact ag.append (ag.reverse h.2) (ag.cons h.1 ag.nil)
structure aF (X:Addr->Prop) (H H':Hp):Prop where
 kp:∀b o,H b=some o->¬X b->H' b=some o
 tp:∀b xs,H b=some (.tup xs)->H' b=some (.tup xs)
theorem aF.of_same {X:Addr->Prop} (s:a8 H H'):aF X H H':=⟨λb o e _=>s b o e,λb xs e=>s b _ e⟩
theorem aF.refl {X:Addr->Prop}:aF X H H:=⟨λ_ _ e _=>e,λ_ _ e=>e⟩
theorem aF.trans {X:Addr->Prop} {H1:Hp} (a:aF X H H1) (b:aF X H1 H'):aF X H H':=⟨λc o e n=>b.kp c o (a.kp c o e n) n,λc xs e=>b.tp c xs (a.tp c xs e)⟩
theorem aF.mono {X Y:Addr->Prop} (a:aF X H H') (h:∀b,X b->Y b):aF Y H H':=⟨λb o e n=>a.kp b o e λz=>n (h b z),a.tp⟩
theorem uK {X:Addr->Prop} {a:Addr} {u:HO} (e:aF X H H') (n:¬X a) (h:Rd H a u):Rd H' a u:=by
 rcases h with h | ⟨o,h⟩
 ·exact .inl (e.kp _ _ h n)
 ·exact .inr ⟨o,e.kp _ _ h n⟩
mutual
theorem RV.mono {X:Addr->Prop} (e:aF X H H') (hX:∀b,X b->A b) (hB:∀b,B b->A b):∀{x d},RV K A H x d->RV K B H' x d
 | x,.ba,h=>by rw[h.az];exact RV.eR
 | x,.bl b,h=>by rw[h.ax];exact RV.mC
 | x,.int b,h=>by rw[h.int_inv];exact RV.b8
 | x,.str b,h=>by rw[h.str_inv];exact RV.gq
 | x,.tup ds,h=>by obtain⟨a,xs,rfl,h1,h2⟩:=h.ae;exact RV.b9 (e.tp _ _ h1) (ag.mono e hX hB h2)
 | x,.lst ds,h=>by obtain⟨a,xs,rfl,h1,h3,h2⟩:=h.lst_inv;exact RV.du (e.kp _ _ h1 λz=>h3 (hX _ z)) (λz=>h3 (hB _ z)) (ag.mono e hX hB h2)
 | x,.aQ ns,h=>by
  obtain⟨a,rfl,⟨h1,h3⟩ | h1⟩:=h.ey
  ·unfold RV;exact⟨a,rfl,.inl ⟨uK e (λz=>h3 (hX _ z)) h1,λz=>h3 (hB _ z)⟩⟩
  ·unfold RV;exact⟨a,rfl,.inr h1⟩
 | x,.bK ..,h=>h.g0.elim
 | x,.obj ..,h=>h.ig.elim
 | x,.exc ..,h=>h.g9.elim
theorem ag.mono {X:Addr->Prop} (e:aF X H H') (hX:∀b,X b->A b) (hB:∀b,B b->A b):∀{xs ds},ag K A H xs ds->ag K B H' xs ds
 | [],[],_=>ag.nil
 | [],_::_,h=>by unfold ag at h;exact h.elim
 | _::_,[],h=>by unfold ag at h;exact h.elim
 | _::xs,_::ds,h=>by unfold ag at h;exact ag.cons (RV.mono e hX hB h.1) (ag.mono e hX hB h.2)
end
theorem RV.same {x d} (h:RV K A H x d) (s:a8 H H'):RV K A H' x d:=h.mono (X:=λ_=>False) (aF.of_same s) (λ_ z=>z.elim) λ_ z=>z
theorem ag.same {x d} (h:ag K A H x d) (s:a8 H H'):ag K A H' x d:=h.mono (X:=λ_=>False) (aF.of_same s) (λ_ z=>z.elim) λ_ z=>z
theorem RV.weak {x d} (h:RV K A H x d) (hB:∀b,B b->A b):RV K B H x d:=h.mono (X:=λ_=>False) aF.refl (λ_ z=>z.elim) hB
theorem ag.weak {x d} (h:ag K A H x d) (hB:∀b,B b->A b):ag K B H x d:=h.mono (X:=λ_=>False) aF.refl (λ_ z=>z.elim) hB
mutual
theorem RV.avoid {p:Addr} (hp:H p=none):∀{x d},RV K A H x d->RV K (λb=>A b\/b=p) H x d
 | x,.ba,h=>by rw[h.az];exact RV.eR
 | x,.bl b,h=>by rw[h.ax];exact RV.mC
 | x,.int b,h=>by rw[h.int_inv];exact RV.b8
 | x,.str b,h=>by rw[h.str_inv];exact RV.gq
 | x,.tup ds,h=>by obtain⟨a,xs,rfl,h1,h2⟩:=h.ae;exact RV.b9 h1 (ag.avoid hp h2)
 | x,.lst ds,h=>by obtain⟨a,xs,rfl,h1,h3,h2⟩:=h.lst_inv;exact RV.du h1 (λz=>z.elim h3 λe=>by rw[e,hp] at h1;cases h1) (ag.avoid hp h2)
 | x,.aQ ns,h=>by
  obtain⟨a,rfl,⟨h1,h3⟩ | h1⟩:=h.ey
  ·unfold RV;refine⟨a,rfl,.inl ⟨h1,λz=>z.elim h3 λe=>?_⟩⟩;subst e;rcases h1 with h1 | ⟨o,h1⟩ <;> (rw[hp] at h1;cases h1)
  ·unfold RV;exact⟨a,rfl,.inr h1⟩
 | x,.bK ..,h=>h.g0.elim
 | x,.obj ..,h=>h.ig.elim
 | x,.exc ..,h=>h.g9.elim
theorem ag.avoid {p:Addr} (hp:H p=none):∀{xs ds},ag K A H xs ds->ag K (λb=>A b\/b=p) H xs ds
 | [],[],_=>ag.nil
 | [],_::_,h=>by unfold ag at h;exact h.elim
 | _::_,[],h=>by unfold ag at h;exact h.elim
 | _::xs,_::ds,h=>by unfold ag at h;exact ag.cons (RV.avoid hp h.1) (ag.avoid hp h.2)
end
end
section
variable {K:Frag} {A B:Addr->Prop} {H:Hp}
mutual
theorem RV.aU (hp:∀b,B b->A b\/H b=none):∀{x d},RV K A H x d->RV K B H x d
 | x,.ba,h=>by rw[h.az];exact RV.eR
 | x,.bl b,h=>by rw[h.ax];exact RV.mC
 | x,.int b,h=>by rw[h.int_inv];exact RV.b8
 | x,.str b,h=>by rw[h.str_inv];exact RV.gq
 | x,.tup ds,h=>by obtain⟨a,xs,rfl,h1,h2⟩:=h.ae;exact RV.b9 h1 (ag.aU hp h2)
 | x,.lst ds,h=>by obtain⟨a,xs,rfl,h1,h3,h2⟩:=h.lst_inv;exact RV.du h1 (λz=>(hp a z).elim h3 λe=>by rw[e] at h1;cases h1) (ag.aU hp h2)
 | x,.aQ ns,h=>by
  obtain⟨a,rfl,⟨h1,h3⟩ | h1⟩:=h.ey
  ·unfold RV;refine⟨a,rfl,.inl ⟨h1,λz=>(hp a z).elim h3 λe=>?_⟩⟩;rcases h1 with h1 | ⟨o,h1⟩ <;> (rw[e] at h1;cases h1)
  ·unfold RV;exact⟨a,rfl,.inr h1⟩
 | x,.bK ..,h=>h.g0.elim
 | x,.obj ..,h=>h.ig.elim
 | x,.exc ..,h=>h.g9.elim
theorem ag.aU (hp:∀b,B b->A b\/H b=none):∀{xs ds},ag K A H xs ds->ag K B H xs ds
 | [],[],_=>ag.nil
 | [],_::_,h=>by unfold ag at h;exact h.elim
 | _::_,[],h=>by unfold ag at h;exact h.elim
 | _::xs,_::ds,h=>by unfold ag at h;exact ag.cons (RV.aU hp h.1) (ag.aU hp h.2)
end
end
mutual
noncomputable def jr:Dt->Bool
 | .ba | .bl _ | .int _ | .str _=>true
 | .tup ds=>fO ds
 | _=>false
noncomputable def fO:List Dt->Bool
 | []=>true
 | d::ds=>jr d&&fO ds
end
mutual
theorem RV.jr {K:Frag} {A B:Addr->Prop} {H:Hp}:∀{x d},RV K A H x d->jr d=true->RV K B H x d
 | x,.ba,h,_=>by rw[h.az];exact RV.eR
 | x,.bl b,h,_=>by rw[h.ax];exact RV.mC
 | x,.int b,h,_=>by rw[h.int_inv];exact RV.b8
 | x,.str b,h,_=>by rw[h.str_inv];exact RV.gq
 | x,.tup ds,h,n=>by obtain⟨a,xs,rfl,h1,h2⟩:=h.ae;exact RV.b9 h1 (ag.fO h2 (by simpa [Rx.jr] using n))
 | x,.lst ds,_,n=>by simp[Rx.jr] at n
 | x,.aQ ds,_,n=>by simp[Rx.jr] at n
 | x,.bK ..,h,_=>h.g0.elim
 | x,.obj ..,h,_=>h.ig.elim
 | x,.exc ..,h,_=>h.g9.elim
theorem ag.fO {K:Frag} {A B:Addr->Prop} {H:Hp}:∀{xs ds},ag K A H xs ds->fO ds=true->ag K B H xs ds
 | [],[],_,_=>ag.nil
 | [],_::_,h,_=>by unfold ag at h;exact h.elim
 | _::_,[],h,_=>by unfold ag at h;exact h.elim
 | _::xs,_::ds,h,n=>by unfold ag at h;simp only[Rx.fO,JR] at n;exact ag.cons (RV.jr h.1 n.1) (ag.fO h.2 n.2)
end
mutual
noncomputable def toD:Dt->Option Mx.D
 | .int i=>some (.int i)
 | .str x=>some (.str x)
 | .tup ds=>(eD ds).map Mx.D.tup
 | _=>none
noncomputable def eD:List Dt->Option (List Mx.D)
 | []=>some []
 | d::ds=>(toD d).bind λm=>(eD ds).map (m:: ·)
end
mutual
noncomputable def ofD:Mx.D->Dt
 | .int i=> .int i
 | .str x=> .str x
 | .tup ds=> .tup (ao ds)
noncomputable def ao:List Mx.D->List Dt
 | []=>[]
 | d::ds=>ofD d::ao ds
end
theorem cw:∀ds:List Mx.D,ao ds=ds.map ofD
 | []=>by simp[ao]
 | d::ds=>by simp[ao,cw ds]
mutual
theorem eY:∀m:Mx.D,toD (ofD m)=some m
 | .int i=>by simp[ofD,toD]
 | .str x=>by simp[ofD,toD]
 | .tup ds=>by simp[ofD,toD,cK ds]
theorem cK:∀ms:List Mx.D,eD (ao ms)=some ms
 | []=>by simp[ao,eD]
 | m::ms=>by simp[ao,eD,eY m,cK ms]
end
mutual
theorem uk:∀{d:Dt} {m:Mx.D},toD d=some m->d=ofD m
 | .int i,m,h=>by simp[toD] at h;subst h;simp[ofD]
 | .str i,m,h=>by simp[toD] at h;subst h;simp[ofD]
 | .tup ds,m,h=>by simp only[toD,J6] at h;obtain⟨ms,h1,rfl⟩:=h;rw[fQ h1];simp[ofD]
 | .ba,m,h=>by simp[toD] at h
 | .bl _,m,h=>by simp[toD] at h
 | .lst _,m,h=>by simp[toD] at h
 | .aQ _,m,h=>by simp[toD] at h
 | .bK _ _,m,h=>by simp[toD] at h
 | .obj _ _,m,h=>by simp[toD] at h
 | .exc _,m,h=>by simp[toD] at h
theorem fQ:∀{ds:List Dt} {ms:List Mx.D},eD ds=some ms->ds=ao ms
 | [],ms,h=>by simp[eD] at h;subst h;simp[ao]
 | d::ds,ms,h=>by simp only[eD,JO,J6] at h;obtain⟨m,h1,r,h2,rfl⟩:=h;rw[uk h1,fQ h2];simp[ao]
end
mutual
theorem RV.dv {K:Frag} {A:Addr->Prop} {H:Hp}:∀{x} {m:Mx.D},RV K A H x (ofD m)->Mx.DV H x m
 | x,.int i,h=>by simp only[ofD] at h;rw[h.int_inv];exact Mx.DV.int
 | x,.str i,h=>by simp only[ofD] at h;rw[h.str_inv];exact Mx.DV.str
 | x,.tup ms,h=>by simp only[ofD] at h;obtain⟨a,xs,rfl,h1,h2⟩:=h.ae;exact Mx.DV.tup h1 (ag.pG h2)
theorem ag.pG {K:Frag} {A:Addr->Prop} {H:Hp}:∀{xs} {ms:List Mx.D},ag K A H xs (ao ms)->Mx.aC H xs ms
 | [],[],_=>Mx.aC.nil
 | [],_::_,h=>by simp only[ao] at h;unfold ag at h;exact h.elim
 | _::_,[],h=>by simp only[ao] at h;unfold ag at h;exact h.elim
 | _::xs,_::ds,h=>by simp only[ao] at h;unfold ag at h;exact Mx.aC.cons (RV.dv h.1) (ag.pG h.2)
end
mutual
theorem RV.CP {K:Frag} {A:Addr->Prop} {H:Hp}:∀{x} {m:Mx.D},Mx.DV H x m->RV K A H x (ofD m)
 | x,.int i,h=>by simp only[ofD];rw[h.int_inv];exact RV.b8
 | x,.str i,h=>by simp only[ofD];rw[h.str_inv];exact RV.gq
 | x,.tup ms,h=>by simp only[ofD];obtain⟨a,xs,rfl,h1,h2⟩:=h.ae;exact RV.b9 h1 (ag.lg h2)
theorem ag.lg {K:Frag} {A:Addr->Prop} {H:Hp}:∀{xs} {ms:List Mx.D},Mx.aC H xs ms->ag K A H xs (ao ms)
 | [],[],_=>by simp only[ao];exact ag.nil
 | [],_::_,h=>by unfold Mx.aC at h;exact h.elim
 | _::_,[],h=>by unfold Mx.aC at h;exact h.elim
 | _::xs,_::ds,h=>by simp only[ao];unfold Mx.aC at h;exact ag.cons (RV.CP h.1) (ag.lg h.2)
end
mutual
noncomputable def bt:Dt->Dt->Bool
 | .ba,.ba=>true
 | .bl a,.bl b=>a==b
 | .int a,.int b=>a==b
 | .bl a,.int b=>(if a then(1:Int) else 0)==b
 | .int a,.bl b=>a==(if b then(1:Int) else 0)
 | .str a,.str b=>a==b
 | .tup a,.tup b=>bw a b
 | .lst a,.lst b=>bw a b
 | _,_=>false
noncomputable def bw:List Dt->List Dt->Bool
 | [],[]=>true
 | x::xs,y::ys=>bt x y&&bw xs ys
 | _,_=>false
end
mutual
noncomputable def pl:Dt->Bool
 | .ba | .bl _ | .int _ | .str _=>true
 | .tup ds=>gU ds
 | .lst ds=>gU ds
 | _=>false
noncomputable def gU:List Dt->Bool
 | []=>true
 | d::ds=>pl d&&gU ds
end
mutual
noncomputable def dp:Dt->Nat
 | .tup ds=>iJ ds + 1
 | .lst ds=>iJ ds + 1
 | _=>0
noncomputable def iJ:List Dt->Nat
 | []=>0
 | d::ds=>max (dp d) (iJ ds)
end
mutual
theorem gr:∀d:Dt,pl d=true->bt d d=true
 | .ba,_=>by simp[bt]
 | .bl b,_=>by simp[bt]
 | .int b,_=>by simp[bt]
 | .str b,_=>by simp[bt]
 | .tup ds,h=>by simp only[bt];exact eW ds (by simpa [pl] using h)
 | .lst ds,h=>by simp only[bt];exact eW ds (by simpa [pl] using h)
 | .aQ _,h=>by simp[pl] at h
 | .bK _ _,h=>by simp[pl] at h
 | .obj _ _,h=>by simp[pl] at h
 | .exc _,h=>by simp[pl] at h
theorem eW:∀ds:List Dt,gU ds=true->bw ds ds=true
 | [],_=>by simp[bw]
 | d::ds,h=>by simp only[gU,JR] at h;simp only[bw,JR];exact⟨gr d h.1,eW ds h.2⟩
end
noncomputable def Jo:Dt->Nat
 | .ba=>0 | .bl _=>1 | .int _=>2 | .str _=>3 | .tup _=>4 | .lst _=>5 | _=>6
noncomputable def GD (H:Hp):V->Nat
 | .ba=>0 | .bl _=>1 | .int _=>2 | .str _=>3
 | .ref a=>(match H a with | some (.tup _)=>4 | some (.lst _)=>5 | _=>6)
 | _=>6
theorem RV.tg {K:Frag} {A:Addr->Prop} {H:Hp} {x:V} {d:Dt} (h:RV K A H x d) (n:pl d=true):GD H x=Jo d:=by
 cases d with
 | ba=>rw[h.az];rfl
 | bl=>rw[h.ax];rfl
 | int=>rw[h.int_inv];rfl
 | str=>rw[h.str_inv];rfl
 | tup=>obtain⟨a,xs,rfl,h1,_⟩:=h.ae;unfold GD;dsimp only;rw[h1];rfl
 | lst=>obtain⟨a,xs,rfl,h1,_⟩:=h.lst_inv;unfold GD;dsimp only;rw[h1];rfl
 | _=>simp[pl] at n
mutual
theorem RV.inj {K:Frag} {A B:Addr->Prop} {H:Hp}:∀{x d e},RV K A H x d->RV K B H x e->pl d=true->pl e=true->d=e
 | x,.ba,e,h,g,m,n=>by have t:=(h.tg m).symm.trans (g.tg n);cases e <;> first | rfl | exact absurd t (of_decide_eq_false rfl)
 | x,.bl b,e,h,g,m,n=>by have t:=(h.tg m).symm.trans (g.tg n);cases e <;> first | exact absurd t (of_decide_eq_false rfl) | (cases h.ax.symm.trans g.ax;rfl)
 | x,.int b,e,h,g,m,n=>by have t:=(h.tg m).symm.trans (g.tg n);cases e <;> first | exact absurd t (of_decide_eq_false rfl) | (cases h.int_inv.symm.trans g.int_inv;rfl)
 | x,.str b,e,h,g,m,n=>by have t:=(h.tg m).symm.trans (g.tg n);cases e <;> first | exact absurd t (of_decide_eq_false rfl) | (cases h.str_inv.symm.trans g.str_inv;rfl)
 | x,.tup ds,e,h,g,m,n=>by
  have t:=(h.tg m).symm.trans (g.tg n);cases e with
  | tup es=>obtain⟨a,xs,rfl,h1,h2⟩:=h.ae;obtain⟨b,ys,q,g1,g2⟩:=g.ae;cases q;rw[h1] at g1;cases g1;rw[ag.inj h2 g2 (by simpa [pl] using m) (by simpa [pl] using n)]
  | _=>exact absurd t (of_decide_eq_false rfl)
 | x,.lst ds,e,h,g,m,n=>by
  have t:=(h.tg m).symm.trans (g.tg n);cases e with
  | lst es=>obtain⟨a,xs,rfl,h1,_,h2⟩:=h.lst_inv;obtain⟨b,ys,q,g1,_,g2⟩:=g.lst_inv;cases q;rw[h1] at g1;cases g1;rw[ag.inj h2 g2 (by simpa [pl] using m) (by simpa [pl] using n)]
  | _=>exact absurd t (of_decide_eq_false rfl)
 | x,.aQ ds,_,_,_,n,_=>by simp[pl] at n
 | x,.bK ..,_,_,_,n,_=>by simp[pl] at n
 | x,.obj ..,_,_,_,n,_=>by simp[pl] at n
 | x,.exc ..,_,_,_,n,_=>by simp[pl] at n
theorem ag.inj {K:Frag} {A B:Addr->Prop} {H:Hp}:∀{xs ds es},ag K A H xs ds->ag K B H xs es->gU ds=true->gU es=true->ds=es
 | xs,[],es,h,g,_,_=>by
  cases xs with
  | nil=>rw[g.cv]
  | cons=>unfold ag at h;exact h.elim
 | xs,d::ds,es,h,g,m,n=>by
  cases xs with
  | nil=>unfold ag at h;exact h.elim
  | cons x xs=>unfold ag at h;obtain⟨e,t,rfl,g1,g2⟩:=g.qO;have m':=Bool.and_eq_true_iff.mp m;have n':=Bool.and_eq_true_iff.mp n;rw[RV.inj h.1 g1 m'.1 n'.1,ag.inj h.2 g2 m'.2 n'.2]
end
noncomputable def qk (ds es:List Dt) (j:Nat):Bool:=match ds[j]?,es[j]? with
 | some d,some e=>bt d e
 | _,_=>true
theorem bJ:∀ds es:List Dt,((List.range (min ds.length es.length)).all (qk ds es)&&ds.length==es.length)=bw ds es
 | [],[]=>by simp[bw]
 | [],_::_=>by simp[bw]
 | _::_,[]=>by simp[bw]
 | d::ds,e::es=>by
  have ih:=bJ ds es;have hm:min (d::ds).length (e::es).length=min ds.length es.length + 1:=by simp only[J9];lia
  have e1:((d::ds).length==(e::es).length)=(ds.length==es.length):=by rw[Bool.eq_iff_iff];simp
  rw[hm,List.range_succ_eq_map,List.all_cons,List.all_map,e1,bw,<-ih,Bool.and_assoc];rfl
theorem iI {d:Dt}:∀{ds:List Dt} {j:Nat},ds[j]?=some d->dp d<=iJ ds
 | [],_,h=>by simp at h
 | d'::ds,0,h=>by simp at h;subst h;unfold iJ;lia
 | d'::ds,j + 1,h=>by have:=iI (ds:=ds) (j:=j) (by simpa using h);unfold iJ;lia
theorem cU {d:Dt}:∀{ds:List Dt} {j:Nat},gU ds=true->ds[j]?=some d->pl d=true
 | [],_,_,h=>by simp at h
 | d'::ds,0,n,h=>by simp at h;subst h;simp only[gU,JR] at n;exact n.1
 | d'::ds,j + 1,n,h=>by simp only[gU,JR] at n;exact cU (ds:=ds) (j:=j) n.2 (by simpa using h)
section
variable {P:Program} {w:World} {K:Frag} {A B:Addr->Prop} {H:Hp} {s:Shared}
theorem aA (hok:cG P w H s.heap) {a:Addr} {xs:List V} (h:H a=some (.lst xs)):∃its:List Value,aq xs its/\s.heap.IsList a its.toArray:=by obtain⟨_,its,n,r,t⟩:=hok a _ h;exact⟨its,r,⟨_,t,rfl,_,rfl⟩⟩
theorem ya (hok:cG P w H s.heap):∀(n:Nat) (d e:Dt) (x y:V) (u v:Value) (R:Around),dp d<=n->pl d=true->pl e=true->R.units + n < cLine->RV K A H x d->RV K B H y e->RelV x u->RelV y v->EqAt R s u v (bt d e):=by
 intro n
 induction n with
 | zero=>
  intro d e x y u v R hd kW dO hu hx hy rx ry;cases d with
  | ba=>
   have:=hx.az;subst this;cases rx;cases e with
   | ba=>have:=hy.az;subst this;cases ry;exact EqAt.same _
   | bl j=>have:=hy.ax;subst this;cases ry;exact EqAt.none_bool j
   | int j=>have:=hy.int_inv;subst this;obtain⟨t',rfl⟩:=ry;exact EqAt.none_int j t'
   | str j=>have:=hy.str_inv;subst this;obtain⟨t',rfl⟩:=ry;exact EqAt.none_str j t'
   | tup j=>obtain⟨b,ys,q,f1,f2⟩:=hy.ae;subst q;cases ry;obtain⟨its,_,ht⟩:=Mx.au hok f1;exact EqAt.none_tuple ht (by lia)
   | lst j=>obtain⟨b,ys,q,f1,_,f2⟩:=hy.lst_inv;subst q;cases ry;obtain⟨its,_,ht⟩:=aA hok f1;exact EqAt.none_list ht (by lia)
   | _=>simp[pl] at dO
  | bl i=>
   have:=hx.ax;subst this;cases rx;cases e with
   | ba=>have:=hy.az;subst this;cases ry;exact EqAt.bool_none _
   | bl j=>have:=hy.ax;subst this;cases ry;exact EqAt.bool_bool i j
   | int j=>have:=hy.int_inv;subst this;obtain⟨t',rfl⟩:=ry;exact EqAt.bool_int i j t'
   | str j=>have:=hy.str_inv;subst this;obtain⟨t',rfl⟩:=ry;exact EqAt.bool_str i j t'
   | tup j=>obtain⟨b,ys,q,f1,f2⟩:=hy.ae;subst q;cases ry;obtain⟨its,_,ht⟩:=Mx.au hok f1;exact EqAt.bool_tuple i ht (by lia)
   | lst j=>obtain⟨b,ys,q,f1,_,f2⟩:=hy.lst_inv;subst q;cases ry;obtain⟨its,_,ht⟩:=aA hok f1;exact EqAt.bool_list i ht (by lia)
   | _=>simp[pl] at dO
  | int i=>
   have:=hx.int_inv;subst this;obtain⟨t,rfl⟩:=rx;cases e with
   | ba=>have:=hy.az;subst this;cases ry;exact EqAt.int_none i t
   | bl j=>have:=hy.ax;subst this;cases ry;exact EqAt.int_bool i t j
   | int j=>have:=hy.int_inv;subst this;obtain⟨t',rfl⟩:=ry;exact EqAt.int_int i t j t'
   | str j=>have:=hy.str_inv;subst this;obtain⟨t',rfl⟩:=ry;exact EqAt.int_str i t j t'
   | tup j=>obtain⟨b,ys,q,f1,f2⟩:=hy.ae;subst q;cases ry;obtain⟨its,_,ht⟩:=Mx.au hok f1;exact EqAt.int_tuple i t ht (by lia)
   | lst j=>obtain⟨b,ys,q,f1,_,f2⟩:=hy.lst_inv;subst q;cases ry;obtain⟨its,_,ht⟩:=aA hok f1;exact EqAt.int_list i t ht (by lia)
   | _=>simp[pl] at dO
  | str i=>
   have:=hx.str_inv;subst this;obtain⟨t,rfl⟩:=rx;cases e with
   | ba=>have:=hy.az;subst this;cases ry;exact EqAt.str_none i t
   | bl j=>have:=hy.ax;subst this;cases ry;exact EqAt.str_bool i t j
   | int j=>have:=hy.int_inv;subst this;obtain⟨t',rfl⟩:=ry;exact EqAt.str_int i t j t'
   | str j=>have:=hy.str_inv;subst this;obtain⟨t',rfl⟩:=ry;exact EqAt.str_str i t j t'
   | tup j=>obtain⟨b,ys,q,f1,f2⟩:=hy.ae;subst q;cases ry;obtain⟨its,_,ht⟩:=Mx.au hok f1;exact EqAt.str_tuple i t ht (by lia)
   | lst j=>obtain⟨b,ys,q,f1,_,f2⟩:=hy.lst_inv;subst q;cases ry;obtain⟨its,_,ht⟩:=aA hok f1;exact EqAt.str_list i t ht (by lia)
   | _=>simp[pl] at dO
  | tup ds=>unfold dp at hd;lia
  | lst ds=>unfold dp at hd;lia
  | _=>simp[pl] at kW
 | succ n ih=>
  intro d e x y u v R hd kW dO hu hx hy rx ry;cases d with
  | tup ds=>
   obtain⟨a,xs,q,e1,e2⟩:=hx.ae;subst q;cases rx;obtain⟨its,r1,ht⟩:=Mx.au hok e1;cases e with
   | ba=>have:=hy.az;subst this;cases ry;exact EqAt.tuple_none ht (by lia)
   | bl j=>have:=hy.ax;subst this;cases ry;exact EqAt.tuple_bool j ht (by lia)
   | int j=>have:=hy.int_inv;subst this;obtain⟨t',rfl⟩:=ry;exact EqAt.tuple_int j t' ht (by lia)
   | str j=>have:=hy.str_inv;subst this;obtain⟨t',rfl⟩:=ry;exact EqAt.tuple_str j t' ht (by lia)
   | lst j=>obtain⟨b,ys,q,f1,_,f2⟩:=hy.lst_inv;subst q;cases ry;obtain⟨aB,_,bF⟩:=aA hok f1;exact EqAt.tuple_list ht bF (by lia)
   | tup es=>
    obtain⟨b,ys,q,f1,f2⟩:=hy.ae;subst q;cases ry;obtain⟨aB,r2,bF⟩:=Mx.au hok f1;by_cases gN:a=b
    ·subst gN;have:=RV.inj hx hy kW dO;cases this;rw[gr _ kW];exact EqAt.same _
    ·have l1:its.toArray.size=ds.length:=by rw[JS,<-r1.length,e2.length]
     have l2:aB.toArray.size=es.length:=by rw[JS,<-r2.length,f2.length]
     have key:=RcAt.tuples (A:=R) (e:=qk ds es) ht bF (by lia) (λj h1 h2=>?_)
     ·have q:=bJ ds es;rw[<-l1,<-l2] at q;rw[q] at key;exact EqAt.of_refs gN key
     ·have gG:j < xs.length:=by rw[e2.length,<-l1];exact h1
      have iS:j < ys.length:=by rw[f2.length,<-l2];exact h2
      obtain⟨d,g1,g2⟩:=e2.get (i:=j) (x:=xs[j]) (by simp[gG]);obtain⟨e,k1,k2⟩:=f2.get (i:=j) (x:=ys[j]) (by simp[iS]);obtain⟨u,pQ,ru⟩:=r1.get (i:=j) (x:=xs[j]) (by simp[gG]);obtain⟨v,tU,rv⟩:=r2.get (i:=j) (x:=ys[j]) (by simp[iS]);have eu:its.toArray[j]=u:=by simp only[List.getElem_toArray];exact(JU.mp pQ).2
      have ev:aB.toArray[j]=v:=by simp only[List.getElem_toArray];exact(JU.mp tU).2
      rw[eu,ev,show qk ds es j=bt d e by unfold qk;rw[g1,k1]];have:=iI g1;unfold dp at hd;exact ih d e xs[j] ys[j] u v R.in1 (by lia) (cU (by simpa [pl] using kW) g1) (cU (by simpa [pl] using dO) k1) (by show R.units + 1 + n < cLine;lia) g2 k2 ru rv
   | _=>simp[pl] at dO
  | lst ds=>
   obtain⟨a,xs,q,e1,_,e2⟩:=hx.lst_inv;subst q;cases rx;obtain⟨its,r1,ht⟩:=aA hok e1;cases e with
   | ba=>have:=hy.az;subst this;cases ry;exact EqAt.list_none ht (by lia)
   | bl j=>have:=hy.ax;subst this;cases ry;exact EqAt.list_bool j ht (by lia)
   | int j=>have:=hy.int_inv;subst this;obtain⟨t',rfl⟩:=ry;exact EqAt.list_int j t' ht (by lia)
   | str j=>have:=hy.str_inv;subst this;obtain⟨t',rfl⟩:=ry;exact EqAt.list_str j t' ht (by lia)
   | tup j=>obtain⟨b,ys,q,f1,f2⟩:=hy.ae;subst q;cases ry;obtain⟨aB,_,bF⟩:=Mx.au hok f1;exact EqAt.list_tuple ht bF (by lia)
   | lst es=>
    obtain⟨b,ys,q,f1,_,f2⟩:=hy.lst_inv;subst q;cases ry;obtain⟨aB,r2,bF⟩:=aA hok f1;by_cases gN:a=b
    ·subst gN;have:=RV.inj hx hy kW dO;cases this;rw[gr _ kW];exact EqAt.same _
    ·have l1:its.toArray.size=ds.length:=by rw[JS,<-r1.length,e2.length]
     have l2:aB.toArray.size=es.length:=by rw[JS,<-r2.length,f2.length]
     have q:=bJ ds es;by_cases hl:ds.length=es.length
     ·have key:=RcAt.lists (A:=R) (e:=qk ds es) ht bF (by lia) (by lia) (λj h1 h2=>?_)
      ·rw[hl,Nat.min_self,beq_self_eq_true,Bool.and_true] at q;rw[l1,hl,q] at key;exact EqAt.of_refs gN key
      ·have gG:j < xs.length:=by rw[e2.length,<-l1];exact h1
       have iS:j < ys.length:=by rw[f2.length,<-l2];exact h2
       obtain⟨d,g1,g2⟩:=e2.get (i:=j) (x:=xs[j]) (by simp[gG]);obtain⟨e,k1,k2⟩:=f2.get (i:=j) (x:=ys[j]) (by simp[iS]);obtain⟨u,pQ,ru⟩:=r1.get (i:=j) (x:=xs[j]) (by simp[gG]);obtain⟨v,tU,rv⟩:=r2.get (i:=j) (x:=ys[j]) (by simp[iS]);have eu:its.toArray[j]=u:=by simp only[List.getElem_toArray];exact(JU.mp pQ).2
       have ev:aB.toArray[j]=v:=by simp only[List.getElem_toArray];exact(JU.mp tU).2
       rw[eu,ev,show qk ds es j=bt d e by unfold qk;rw[g1,k1]];have:=iI g1;unfold dp at hd;exact ih d e xs[j] ys[j] u v R.in1 (by lia) (cU (by simpa [pl] using kW) g1) (cU (by simpa [pl] using dO) k1) (by show R.units + 1 + n < cLine;lia) g2 k2 ru rv
     ·have key:=RcAt.lists_lengths (A:=R) ht bF (by rw[l1,l2];simpa using hl) (by lia);have hb:(ds.length==es.length)=false:=by simpa using hl
      rw[hb,Bool.and_false] at q;show EqAt R s _ _ (bw ds es);rw[<-q];exact EqAt.of_refs gN key
   | _=>simp[pl] at dO
  | _=>exact ih _ e x y u v R (by unfold dp;lia) kW dO (by lia) hx hy rx ry
end
inductive R (α:Type) where
 | ok (a:α) | ex (c:Nat) | bad
noncomputable def R.bind {α β:Type}:R α->(α->R β)->R β
 | .ok a,f=>f a
 | .ex c,_=> .ex c
 | .bad,_=> .bad
@[simp] theorem R.ai {α β:Type} (a:α) (f:α->R β):(R.ok a).bind f=f a:=rfl
noncomputable def R.nx {α:Type}:R α->R α
 | .ok a=> .ok a
 | _=> .bad
noncomputable abbrev lim:Nat:=1000000
noncomputable abbrev aj:=List (Option Dt)
noncomputable abbrev Sx:=Option (List Int)
noncomputable def af (b:Bool) {α:Type} (r:R α):R α:=if b then r else .bad
@[simp] theorem guard_true {α:Type} (r:R α):af true r=r:=rfl
noncomputable def oI (o:Operator) (a b:Dt):R Dt:=match o with
 | .Add=>match a,b with
  | .int i,.int j=> .ok (.int (i + j))
  | .str x,.str y=>af (decide (x.length + y.length<=lim)) (.ok (.str (x++y)))
  | .lst x,.lst y=>af (decide (x.length + y.length<=lim)) (.ok (.lst (x++y)))
  | .tup x,.tup y=>af (decide (x.length + y.length<=lim)) (.ok (.tup (x++y)))
  | _,_=> .bad
 | .Sub=>match a,b with
  | .int i,.int j=> .ok (.int (i - j))
  | _,_=> .bad
 | .Mult=>match a,b with
  | .int i,.int j=>af (decide (i.natAbs < 2 ^ 64)||decide (j.natAbs < 2 ^ 64)) (.ok (.int (i * j)))
  | _,_=> .bad
 | .FloorDiv=>match a,b with
  | .int i,.int j=>af (decide (0 < j)&&decide (j.natAbs.log2 < 9000)) (.ok (.int (i / j)))
  | _,_=> .bad
 | .Mod=>match a,b with
  | .int i,.int j=>af (decide (0 < j)) (.ok (.int (i % j)))
  | _,_=> .bad
 | .Pow=>match a,b with
  | .int i,.int j=>af (decide (0<=j)&&decide (j<=1000)&&decide (i.natAbs < 2 ^ 64)) (.ok (.int (i ^ j.toNat)))
  | _,_=> .bad
 | _=> .bad
noncomputable def inD (d:Dt) (ds:List Dt):Bool:=ds.any λe=>bt e d
noncomputable def jz (d e:Dt):Bool:=pl d&&pl e&&decide (dp d<=100)
noncomputable def itemsOf:Dt->Option (List Dt)
 | .lst ds=>some ds
 | .tup ds=>some ds
 | .aQ ns=>some (ns.map Dt.int)
 | _=>none
noncomputable def bV:Dt->Option (List Dt)
 | .lst ds=>some ds
 | .tup ds=>some ds
 | _=>none
noncomputable def ck:CmpOp->Dt->Dt->R Bool
 | .Eq,a,b=>af (jz a b) (.ok (bt a b))
 | .NotEq,a,b=>af (jz a b) (.ok (!bt a b))
 | .Lt,.int i,.int j=> .ok (decide (i < j))
 | .LtE,.int i,.int j=> .ok (decide (i<=j))
 | .Gt,.int i,.int j=> .ok (decide (j < i))
 | .GtE,.int i,.int j=> .ok (decide (j<=i))
 | .In,a,.lst ds=>af (pl a&&gU ds&&decide (iJ ds<=100)) (.ok (inD a ds))
 | .In,a,.tup ds=>af (pl a&&gU ds&&decide (iJ ds<=100)) (.ok (inD a ds))
 | .NotIn,a,.lst ds=>af (pl a&&gU ds&&decide (iJ ds<=100)) (.ok (!inD a ds))
 | .NotIn,a,.tup ds=>af (pl a&&gU ds&&decide (iJ ds<=100)) (.ok (!inD a ds))
 | _,_,_=> .bad
noncomputable def cF:Dt->R Bool
 | .ba=> .ok false
 | .bl b=> .ok b
 | .int i=> .ok (i != 0)
 | .str y=>af (decide (y.length<=lim)) (.ok ((y.length:Int) != 0))
 | .lst ds=> .ok !ds.isEmpty
 | .tup ds=> .ok !ds.isEmpty
 | .aQ ds=> .ok !ds.isEmpty
 | _=> .bad
noncomputable def vN (ds:List Dt) (i:Int):R Dt:=match lM ds i with
 | some d=> .ok d
 | none=> .bad
noncomputable def cQ:Dt->Dt->R Dt
 | .lst ds,.int i=>vN ds i
 | .tup ds,.int i=>vN ds i
 | .aQ ns,.int i=>vN (ns.map Dt.int) i
 | .str z,.int i=>af (decide (z.length<=lim)) (match lM z.cps.toList i with | some c=> .ok (.str ⟨#[c]⟩) | none=> .bad)
 | _,_=> .bad
noncomputable def cutD {α:Type} (xs:List α) (lo hi:Option Int):List α:=(xs.drop (HT.bA xs.length 0 lo)).take (HT.bA xs.length xs.length hi - HT.bA xs.length 0 lo)
noncomputable def gv:Dt->Option Int->Option Int->R Dt
 | .lst ds,lo,hi=> .ok (.lst (cutD ds lo hi))
 | .aQ ds,lo,hi=> .ok (.lst (cutD (ds.map Dt.int) lo hi))
 | .tup ds,lo,hi=> .ok (.tup (cutD ds lo hi))
 | .str z,lo,hi=>af (decide (z.length<=lim)) (.ok (.str (PySem.Txt.slice z lo hi)))
 | _,_,_=> .bad
inductive BI where
 | len | min2 | sorted | tuple | list | isi (T:String) | revL | revT
 deriving DecidableEq
noncomputable def intsOf:List Dt->Option (List Int)
 | []=>some []
 | .int i::r=>(intsOf r).map (i:: ·)
 | _=>none
noncomputable def BN:List Dt->Option (List Bool)
 | []=>some []
 | .bl i::r=>(BN r).map (i:: ·)
 | _=>none
noncomputable def Bw (a b:Mx.D):Bool:= !Mx.D.lt b a
noncomputable def cg (ds:List Mx.D):List Mx.D:=ds.mergeSort Bw
mutual
noncomputable def gR:Mx.D->Mx.D->Bool
 | .int _,.int _=>true
 | .str _,.str _=>true
 | .tup a,.tup b=>fK a b
 | _,_=>false
noncomputable def fK:List Mx.D->List Mx.D->Bool
 | x::xs,y::ys=>gR x y&&fK xs ys
 | _,_=>true
end
noncomputable def CD (k:Mx.SK):Mx.D->Bool
 | .tup (.tup _::_)=>k== .tt
 | .tup (.str _::_)=>k== .ts
 | .tup (.int _::_)=>k== .ti
 | .str _=>k== .s
 | .int _=>k== .i
 | _=>false
noncomputable def fu (ds:List Mx.D):Bool:=decide (ds.length < 64)&&(decide (ds.length < 2)||(decide (Mx.D.bp ds<=100)&&([Mx.SK.tt,.ts,.ti,.s,.i].any λk=>ds.all (CD k))&&ds.all λd=>ds.all λe=>gR d e))
noncomputable def dd:List Str->List Str
 | []=>[]
 | x::r=>if x∈dd r then dd r else x::dd r
noncomputable def FR:List Int->Int
 | []=>0
 | [a]=>a
 | a::r=>min a (FR r)
noncomputable def strsOf:List Dt->Option (List Str)
 | []=>some []
 | .str i::r=>(strsOf r).map (i:: ·)
 | _=>none
noncomputable def dJ (xs ys:List Dt):List Dt:=List.zipWith (λx y=>Dt.tup [x,y]) xs ys
noncomputable def gF:Nat->List Dt->List Dt
 | _,[]=>[]
 | i,x::xs=>Dt.tup [.int i,x]::gF (i + 1) xs
noncomputable def rf (T:String):Dt->R Bool
 | .str _=> .ok (T=="str")
 | .int _=> .ok (T=="int")
 | .bl _=> .ok (T=="bool"||T=="int")
 | .lst _=> .ok (T=="list")
 | .tup _=> .ok (T=="tuple")
 | .ba=> .ok false
 | _=> .bad
noncomputable def dD (b:BI) (as:List Dt):R Dt:=match b with
 | .len=>match as with
  | [.str x]=>af (decide (x.length<=lim)) (.ok (.int x.length))
  | [.lst ds]=> .ok (.int ds.length)
  | [.tup ds]=> .ok (.int ds.length)
  | [.aQ ds]=> .ok (.int ds.length)
  | _=> .bad
 | .min2=>match as with
  | [.int i,.int j]=> .ok (.int (if j < i then j else i))
  | _=> .bad
 | .sorted=>match as with
  | [d]=>match itemsOf d with
   | some ds=>match eD ds with
    | some ms=>af (fu ms) (.ok (.lst (ao (cg ms))))
    | none=> .bad
   | none=> .bad
  | _=> .bad
 | .tuple=>match as with
  | [.lst ds]=> .ok (.tup ds)
  | [.tup ds]=> .ok (.tup ds)
  | _=> .bad
 | .list=>match as with
  | [.lst ds]=> .ok (.lst ds)
  | [.tup ds]=> .ok (.lst ds)
  | [.aQ ns]=> .ok (.lst (ns.map Dt.int))
  | _=> .bad
 | .isi T=>match as with
  | [d]=>(rf T d).bind λb=> .ok (.bl b)
  | _=> .bad
 | .revL=>match as with
  | [.lst ds]=> .ok (.lst ds.reverse)
  | _=> .bad
 | .revT=>match as with
  | [.lst ds]=> .ok (.tup ds.reverse)
  | _=> .bad
noncomputable def isStr:Dt->Bool
 | .str _=>true
 | _=>false
inductive MT where
 | join
 deriving DecidableEq
noncomputable def IZ:MT->Dt->List Dt->R Dt
 | .join,.str z,[.lst ds]=>match strsOf ds with
  | some ys=>af (decide ((ys.map (·.length)).sum + ys.length * z.length<=lim)) (.ok (.str (PySem.Txt.join z ys)))
  | none=> .bad
 | _,_,_=> .bad
inductive Tg where
 | nm (i:Nat) | tp (is:List Nat)
 deriving DecidableEq
mutual
inductive C where
 | con (d:Dt) | var (i:Nat) | mvr (i:Nat)
 | bin (o:Operator) (a b:C) | cmp (o:CmpOp) (a b:C) | ch (o p:CmpOp) (a b c:C)
 | neg (a:C) | nt (a:C) | and (a b:C) | or (a b:C) | ite (t a b:C)
 | idx (a b:C) | sliL (a lo:C) | sliH (a hi:C) | sliB (a lo hi:C)
 | tup (es:Cs) | lst (es:Cs)
 | call (f:Nat) (es:Cs) (ds:List Dt) | callD (f:Nat) (es:Cs) | popD | lenD
 | bi (b:BI) (es:Cs) | mt (m:MT) (o:C) (es:Cs)
 | n0 (i:Nat) (k e:C) | srtI (i:Nat)
 | comp (cap:List (Option Nat)) (it:nk) (tg:Tg) (ts:Cs) (e:C)
 | jO (cap:List (Option Nat)) (it:nk) (tg:Tg) (ts:Cs) (ia:nk) (lI:Tg) (By:Cs) (e:C)
inductive Cs where
 | nil | cons (c:C) (cs:Cs)
inductive nk where
 | seq (c:C) | rng1 (c:C) | rng2 (a b:C) | zip (a b:C) | enum (c:C) | zipR (a c:C)
end
noncomputable def Cs.all (p:C->Bool):Cs->Bool
 | .nil=>true
 | .cons c cs=>p c&&cs.all p
mutual
noncomputable def lk:C->Nat
 | .mvr _=>1
 | .and _ _=>0
 | .or _ _=>0
 | .ite _ a b=>max (lk a) (lk b)
 | .idx a _=>if lk a<=1 then 0 else 2
 | .sliL a _=>if lk a<=1 then 0 else 2
 | .sliH a _=>if lk a<=1 then 0 else 2
 | .sliB a _ _=>if lk a<=1 then 0 else 2
 | .bin _ a b=>if lk a<=1/\lk b<=1 then 0 else 2
 | .tup es=>if iW es=0 then 0 else 2
 | .lst es=>if iW es=0 then 0 else 2
 | .call _ es _=>if iW es=0 then 0 else 2
 | .callD _ es=>if iW es=0 then 0 else 2
 | .bi _ es=>if iW es<=1 then 0 else 2
 | .n0 _ _ e=>lk e
 | _=>0
noncomputable def iW:Cs->Nat
 | .nil=>0
 | .cons c cs=>max (lk c) (iW cs)
end
noncomputable def r8:nk->Nat
 | .seq c=>lk c
 | .zip a b=>max (lk a) (lk b)
 | .enum c=>lk c
 | .zipR a _=>lk a
 | _=>0
noncomputable def fresh (fr:Nat->Bool):C->Bool
 | .lst _=>true
 | .comp ..=>true
 | .jO ..=>true
 | .bi .sorted _=>true
 | .bi .list _=>true
 | .bi .revL _=>true
 | .bin ..=>true
 | .call f _ _=>fr f
 | .callD f _=>fr f
 | _=>false
noncomputable def cV (c:C) (d:Dt):Bool:=decide (lk c=0)||jr d
noncomputable def jg (c:C) (d:Dt):Bool:=decide (lk c=0)||match d with | .lst ds=>fO ds | d=>jr d
noncomputable def cD (ρ:aj) (i:Nat):R Dt:=match ρ[i]? with
 | some (some d)=> .ok d
 | _=> .bad
noncomputable def jx (cap:List (Option Nat)) (ρ:aj):aj:=cap.map λo=>o.bind λi=>(ρ[i]?).join
noncomputable def d5:List Nat->List Dt->aj->R aj
 | [],[],ρ=> .ok ρ
 | i::is,d::ds,ρ=>d5 is ds (ρ.set i (some d))
 | _,_,_=> .bad
noncomputable def cJ:Tg->Dt->aj->R aj
 | .nm i,d,ρ=> .ok (ρ.set i (some d))
 | .tp is,.tup ds,ρ=>d5 is ds ρ
 | _,_,_=> .bad
noncomputable def bE (f:Dt->Sx->R (List Dt×Sx)):List Dt->Sx->R (List Dt×Sx)
 | [],S=> .ok ([],S)
 | x::xs,S=>(f x S).bind λp=>(bE f xs p.2).bind λq=> .ok (p.1++q.1,q.2)
noncomputable def bW (tg:Tg) (GE:aj->Sx->R (Bool×Sx)) (body:aj->Sx->R (List Dt×Sx)) (ρ:aj) (d:Dt) (S:Sx):R (List Dt×Sx):=
 (cJ tg d ρ).bind λρ1=>(GE ρ1 S).bind λb=>if b.1 then body ρ1 b.2 else .ok ([],b.2)
noncomputable def a6 (lo:Int) (n:Nat):List Dt:=(List.range n).map λ(i:Nat)=>Dt.int (lo + (i:Int))
noncomputable def rW (d:Mx.D):List Dt->List Dt->Option Dt
 | k::ks,v::vs=>if toD k=some d then some v else rW d ks vs
 | _,_=>none
noncomputable def lW (d:Mx.D) (v:Dt):List Dt->List Dt->List Dt
 | k::ks,x::vs=>(if toD k=some d then v else x)::lW d v ks vs
 | _,vs=>vs
noncomputable def iV (k:Dt):Option Mx.D:=match toD k with
 | some (.tup ds)=>if Mx.D.dep (.tup ds)<=8 then some (.tup ds) else none
 | _=>none
noncomputable def sR (z k e:Dt):R Dt:=match z with
 | .bK ks vs=>match iV k with
  | some d=> .ok ((rW d ks vs).getD e)
  | none=> .bad
 | _=> .bad
noncomputable def sY (z k v:Dt):R Dt:=match z with
 | .bK ks vs=>match iV k with
  | some d=>af (decide (ks.length < lim)) (.ok (if (rW d ks vs).isSome then .bK ks (lW d v ks vs) else .bK (ks++[k]) (vs++[v])))
  | none=> .bad
 | _=> .bad
noncomputable def cy (ks vs:List Mx.D):List Mx.D:=(ks.zip vs).map λz=> .tup [z.1,z.2]
noncomputable def sZ (z:Dt):R Dt:=match z with
 | .bK ks vs=>match eD ks,eD vs with
  | some ms,some ns=>af (fu (cy ms ns)) (.ok (.lst (ao (cg (cy ms ns)))))
  | _,_=> .bad
 | _=> .bad
noncomputable def mf (ρ:aj) (i:Nat):Bool:=match ρ[i]? with | some (some (.bK _ _))=>true | _=>false
noncomputable abbrev FT:=Nat->List Dt->Sx->R (Dt×Sx)
mutual
noncomputable def ev (F:FT):C->aj->Sx->R (Dt×Sx)
 | .con d,_,S=> .ok (d,S)
 | .var i,ρ,S=>(cD ρ i).bind λd=> .ok (d,S)
 | .mvr i,ρ,S=>(cD ρ i).bind λd=> .ok (d,S)
 | .bin o a b,ρ,S=>(ev F a ρ S).bind λx=>(ev F b ρ x.2).bind λy=>(oI o x.1 y.1).bind λd=> .ok (d,y.2)
 | .cmp o a b,ρ,S=>(ev F a ρ S).bind λx=>(ev F b ρ x.2).bind λy=>(ck o x.1 y.1).bind λd=> .ok (.bl d,y.2)
 | .ch o p a b c,ρ,S=>(ev F a ρ S).bind λx=>(ev F b ρ x.2).bind λy=>(ck o x.1 y.1).bind λd=>
   if d then(ev F c ρ y.2).bind λz=>(ck p y.1 z.1).bind λe=> .ok (.bl e,z.2) else .ok (.bl false,y.2)
 | .neg a,ρ,S=>(ev F a ρ S).bind λx=>match x.1 with | .int i=> .ok (.int (-i),x.2) | _=> .bad
 | .nt a,ρ,S=>(ev F a ρ S).bind λx=>match x.1 with | .bl b=> .ok (.bl !b,x.2) | _=> .bad
 | .and a b,ρ,S=>(ev F a ρ S).bind λx=>match x.1 with | .bl true=>(ev F b ρ x.2).bind λy=>(match y.1 with | .bl c=> .ok (.bl c,y.2) | _=> .bad) | .bl false=> .ok (.bl false,x.2) | _=> .bad
 | .or a b,ρ,S=>(ev F a ρ S).bind λx=>match x.1 with | .bl false=>(ev F b ρ x.2).bind λy=>(match y.1 with | .bl c=> .ok (.bl c,y.2) | _=> .bad) | .bl true=> .ok (.bl true,x.2) | _=> .bad
 | .ite t a b,ρ,S=>(bR F t ρ S).bind λx=>if x.1 then ev F a ρ x.2 else ev F b ρ x.2
 | .idx a b,ρ,S=>(ev F a ρ S).bind λx=>(ev F b ρ x.2).bind λy=>(cQ x.1 y.1).bind λd=> .ok (d,y.2)
 | .sliL a l,ρ,S=>(ev F a ρ S).bind λx=>(ev F l ρ x.2).bind λy=>match y.1 with | .int i=>(gv x.1 (some i) none).bind λd=> .ok (d,y.2) | _=> .bad
 | .sliH a h,ρ,S=>(ev F a ρ S).bind λx=>(ev F h ρ x.2).bind λy=>match y.1 with | .int i=>(gv x.1 none (some i)).bind λd=> .ok (d,y.2) | _=> .bad
 | .sliB a l h,ρ,S=>(ev F a ρ S).bind λx=>(ev F l ρ x.2).bind λy=>match y.1 with | .int i=>(ev F h ρ y.2).bind λz=>(match z.1 with | .int j=>(gv x.1 (some i) (some j)).bind λd=> .ok (d,z.2) | _=> .bad) | _=> .bad
 | .tup es,ρ,S=>(eh F es ρ S).bind λx=>af (decide (x.1.length<=lim)) (.ok (.tup x.1,x.2))
 | .lst es,ρ,S=>(eh F es ρ S).bind λx=>af (decide (x.1.length<=lim)) (.ok (.lst x.1,x.2))
 | .call f es ds,ρ,S=>(eh F es ρ S).bind λx=>(F f (x.1++ds) none).bind λy=> .ok (y.1,x.2)
 | .callD f es,ρ,S=>af S.isSome ((eh F es ρ S).bind λx=>match x.2 with | some s=>F f x.1 (some s) | none=> .bad)
 | .popD,_,S=>match S with | some ns=>af (!ns.isEmpty) (.ok (.int (ns.getLastD 0),some ns.dropLast)) | none=> .bad
 | .lenD,_,S=>match S with | some ns=> .ok (.int ns.length,S) | none=> .bad
 | .n0 i k e,ρ,S=>af (mf ρ i) ((ev F k ρ S).bind λx=>(ev F e ρ x.2).bind λy=>(cD ρ i).bind λz=>(sR z x.1 y.1).bind λd=> .ok (d,y.2))
 | .srtI i,ρ,S=>(cD ρ i).bind λz=>(sZ z).bind λd=> .ok (d,S)
 | .bi b es,ρ,S=>(eh F es ρ S).bind λx=>(dD b x.1).bind λd=> .ok (d,x.2)
 | .mt m o es,ρ,S=>(ev F o ρ S).bind λy=>af (isStr y.1) ((eh F es ρ y.2).bind λx=>(IZ m y.1 x.1).bind λd=> .ok (d,x.2))
 | .comp cap it tg ts e,ρ,S=>(dF F it ρ S).bind λx=>af (decide (x.1.length<=lim)&&(decide (r8 it<=1)||iL F it ρ S))
   ((bE (bW tg (cO F ts) (λρ1 S1=>(ev F e ρ1 S1).bind λy=>af (cV e y.1) (.ok ([y.1],y.2))) (jx cap ρ)) x.1 x.2).bind λq=> .ok (.lst q.1,q.2))
 | .jO cap it tg ts ia lI By e,ρ,S=>(dF F it ρ S).bind λx=>af (decide (x.1.length<=lim)&&(decide (r8 it<=1)||iL F it ρ S))
   ((bE (bW tg (cO F ts) (λρ1 S1=>(dF F ia ρ1 S1).bind λx2=>af (decide (x.1.length * x2.1.length<=lim)&&decide (r8 ia=0))
    (bE (bW lI (cO F By) (λρ2 S2=>(ev F e ρ2 S2).bind λy=>af (cV e y.1) (.ok ([y.1],y.2))) ρ1) x2.1 x2.2)) (jx cap ρ)) x.1 x.2).bind λq=> .ok (.lst q.1,q.2))
noncomputable def bR (F:FT):C->aj->Sx->R (Bool×Sx)
 | .nt a,ρ,S=>(bR F a ρ S).bind λx=> .ok (!x.1,x.2)
 | .and a b,ρ,S=>(bR F a ρ S).bind λx=>if x.1 then bR F b ρ x.2 else .ok (false,x.2)
 | .or a b,ρ,S=>(bR F a ρ S).bind λx=>if x.1 then .ok (true,x.2) else bR F b ρ x.2
 | .cmp o a b,ρ,S=>(ev F a ρ S).bind λx=>(ev F b ρ x.2).bind λy=>(ck o x.1 y.1).bind λd=> .ok (d,y.2)
 | .ch o p a b c,ρ,S=>(ev F a ρ S).bind λx=>(ev F b ρ x.2).bind λy=>(ck o x.1 y.1).bind λd=>
   if d then(ev F c ρ y.2).bind λz=>(ck p y.1 z.1).bind λe=> .ok (e,z.2) else .ok (false,y.2)
 | .var i,ρ,S=>(cD ρ i).bind λd=>(cF d).bind λb=> .ok (b,S)
 | .mvr i,ρ,S=>(cD ρ i).bind λd=>(cF d).bind λb=> .ok (b,S)
 | .call f es ds,ρ,S=>(eh F es ρ S).bind λx=>(F f (x.1++ds) none).bind λy=>(cF y.1).bind λb=> .ok (b,x.2)
 | .callD f es,ρ,S=>af S.isSome ((eh F es ρ S).bind λx=>match x.2 with | some s=>(F f x.1 (some s)).bind λy=>(cF y.1).bind λb=> .ok (b,y.2) | none=> .bad)
 | .bi b es,ρ,S=>(eh F es ρ S).bind λx=>(dD b x.1).bind λd=>(cF d).bind λb=> .ok (b,x.2)
 | .idx a b,ρ,S=>(ev F a ρ S).bind λx=>(ev F b ρ x.2).bind λy=>(cQ x.1 y.1).bind λd=>(cF d).bind λb=> .ok (b,y.2)
 | _,_,_=> .bad
noncomputable def eh (F:FT):Cs->aj->Sx->R (List Dt×Sx)
 | .nil,_,S=> .ok ([],S)
 | .cons c cs,ρ,S=>(ev F c ρ S).bind λx=>(eh F cs ρ x.2).bind λy=> .ok (x.1::y.1,y.2)
noncomputable def cO (F:FT):Cs->aj->Sx->R (Bool×Sx)
 | .nil,_,S=> .ok (true,S)
 | .cons c .nil,ρ,S=>bR F c ρ S
 | _,_,_=> .bad
noncomputable def dF (F:FT):nk->aj->Sx->R (List Dt×Sx)
 | .seq c,ρ,S=>(ev F c ρ S).bind λx=>match itemsOf x.1 with | some ds=> .ok (ds,x.2) | none=> .bad
 | .rng1 c,ρ,S=>(ev F c ρ S).bind λx=>match x.1 with | .int j=>af (decide (j<=lim)&&decide (-lim<=j)) (.ok (a6 0 j.toNat,x.2)) | _=> .bad
 | .rng2 a b,ρ,S=>(ev F a ρ S).bind λx=>(ev F b ρ x.2).bind λy=>match x.1,y.1 with
   | .int i,.int j=>af (decide (i.natAbs<=lim)&&decide (j.natAbs<=lim)) (.ok (a6 i (j - i).toNat,y.2)) | _,_=> .bad
 | .zip a b,ρ,S=>(ev F a ρ S).bind λx=>(ev F b ρ x.2).bind λy=>match bV x.1,bV y.1 with
   | some xs,some ys=> .ok (dJ xs ys,y.2) | _,_=> .bad
 | .enum c,ρ,S=>(ev F c ρ S).bind λx=>match bV x.1 with | some ds=> .ok (gF 0 ds,x.2) | none=> .bad
 | .zipR a c,ρ,S=>(ev F a ρ S).bind λx=>(ev F c ρ x.2).bind λy=>match bV x.1,y.1 with
   | some xs,.int j=>af (decide (j<=lim)&&decide (-lim<=j)) (.ok (dJ xs (a6 0 j.toNat),y.2)) | _,_=> .bad
noncomputable def iL (F:FT):nk->aj->Sx->Bool
 | .seq c,ρ,S=>match ev F c ρ S with | .ok x=>jr x.1 | _=>false
 | _,_,_=>false
end
inductive Fl where
 | next | brk | cnt | ret (d:Dt)
mutual
inductive T where
 | asg (i:Nat) (c:C) | asgM (i:Nat) (c:C) | asgD (i:Nat) (c:C) | mov (i j:Nat) | asgT (is:List Nat) (c:C)
 | aug (i:Nat) (o:Operator) (c:C)
 | A3 (i:Nat) (k v:C) | app (i:Nat) (c:C) | xtd (i:Nat) (c:C) | clr (i:Nat)
 | E0 (c:C) | ret (c:C) | retN | ifs (t:C) (a b:Ts) | fr (tg:Tg) (it:nk) (b:Ts) | wh (t:C) (b:Ts)
 | sW (i:Nat) | dset (i:Nat) (k v:C)
 | rs (k:Nat) (vs:List Nat) | tr (b:Ts) (vF:List (Option Bool)) | brk | cnt | pas
inductive Ts where
 | nil | cons (t:T) (ts:Ts)
end
noncomputable abbrev RS:=R (Fl×aj×Sx)
noncomputable def FS (ρ:aj) (i:Nat):Bool:=match ρ[i]? with
 | some (some (.int n))=>decide (0<=n)&&decide (n < 10 ^ 19)
 | _=>false
noncomputable def forL (tg:Tg) (body:aj->Sx->RS):List Dt->aj->Sx->RS
 | [],ρ,S=> .ok (.next,ρ,S)
 | x::xs,ρ,S=>(cJ tg x ρ).bind λρ1=>(body ρ1 S).bind λp=>match p.1 with
  | .next=>forL tg body xs p.2.1 p.2.2
  | .cnt=>forL tg body xs p.2.1 p.2.2
  | .brk=> .ok (.next,p.2)
  | .ret d=> .ok (.ret d,p.2)
noncomputable def GG (test:aj->Sx->R (Bool×Sx)) (body:aj->Sx->RS):Nat->aj->Sx->RS
 | 0,_,_=> .bad
 | n + 1,ρ,S=>(test ρ S).bind λb=>if b.1 then(body ρ b.2).bind λp=>match p.1 with
   | .next=>GG test body n p.2.1 p.2.2
   | .cnt=>GG test body n p.2.1 p.2.2
   | .brk=> .ok (.next,p.2)
   | .ret d=> .ok (.ret d,p.2)
  else .ok (.next,ρ,b.2)
noncomputable def DI:Nat:=100000
noncomputable def isLE (ρ:aj) (i:Nat):Bool:=match ρ[i]? with
 | some (some (.lst _))=>true
 | _=>false
noncomputable def mw (ρ:aj) (i:Nat):R (List Dt):=match ρ[i]? with
 | some (some (.lst ds))=> .ok ds
 | _=> .bad
mutual
noncomputable def ex (F:FT):T->aj->Sx->RS
 | .asg i c,ρ,S=>(ev F c ρ S).bind λx=>af (cV c x.1) (.ok (.next,ρ.set i (some x.1),x.2))
 | .asgM i c,ρ,S=>(ev F c ρ S).bind λx=>af (jg c x.1) (.ok (.next,ρ.set i (some x.1),x.2))
 | .asgD i c,ρ,S=>(ev F c ρ S).bind λx=>match x.1 with | .lst ds=>(match intsOf ds with | some ns=>af (decide (lk c=0)&&decide (i < ρ.length)) (.ok (.next,ρ.set i none,some ns)) | none=> .bad) | _=> .bad
 | .mov i j,ρ,S=>(cD ρ j).bind λd=> .ok (.next,(ρ.set j none).set i (some d),S)
 | .asgT is c,ρ,S=>(ev F c ρ S).bind λx=>af (cV c x.1) ((cJ (.tp is) x.1 ρ).bind λρ1=> .ok (.next,ρ1,x.2))
 | .aug i o c,ρ,S=>(cD ρ i).bind λd=>(ev F c ρ S).bind λx=>match d,x.1 with
   | .int _,.int _=>(oI o d x.1).bind λz=> .ok (.next,ρ.set i (some z),x.2)
   | .str _,.str _=>(oI o d x.1).bind λz=> .ok (.next,ρ.set i (some z),x.2)
   | _,_=> .bad
 | .A3 i k v,ρ,S=>af (isLE ρ i) ((ev F v ρ S).bind λx=>(ev F k ρ x.2).bind λy=>af (cV v x.1) ((mw ρ i).bind λds=>match y.1 with
   | .int n=>(match t7 ds.length n with | some j=> .ok (.next,ρ.set i (some (.lst (ds.set j x.1))),y.2) | none=> .bad) | _=> .bad))
 | .sW i,ρ,S=> .ok (.next,ρ.set i (some (.bK [] [])),S)
 | .dset i k v,ρ,S=>af (mf ρ i) ((ev F v ρ S).bind λx=>(ev F k ρ x.2).bind λy=>(cD ρ i).bind λz=>af (decide (lk v=0)) ((sY z y.1 x.1).bind λd=> .ok (.next,ρ.set i (some d),y.2)))
 | .app i c,ρ,S=>af (isLE ρ i) ((ev F c ρ S).bind λx=>af (cV c x.1) ((mw ρ i).bind λds=>af (decide (ds.length<=lim)) (.ok (.next,ρ.set i (some (.lst (ds++[x.1]))),x.2))))
 | .xtd i c,ρ,S=>af (isLE ρ i) ((ev F c ρ S).bind λx=>af (decide (lk c<=1)) ((mw ρ i).bind λds=>match x.1 with
   | .lst es=>af (decide (ds.length + es.length<=lim)) (.ok (.next,ρ.set i (some (.lst (ds++es))),x.2)) | _=> .bad))
 | .clr i,ρ,S=>(mw ρ i).bind λ_=> .ok (.next,ρ.set i (some (.lst [])),S)
 | .E0 c,ρ,S=>(ev F c ρ S).bind λx=> .ok (.next,ρ,x.2)
 | .ret c,ρ,S=>(ev F c ρ S).bind λx=> .ok (.ret x.1,ρ,x.2)
 | .retN,ρ,S=> .ok (.ret .ba,ρ,S)
 | .ifs t a b,ρ,S=>(bR F t ρ S).bind λx=>if x.1 then aV F a ρ x.2 else aV F b ρ x.2
 | .fr tg it b,ρ,S=>(dF F it ρ S).bind λx=>af (decide (r8 it=0)||iL F it ρ S) (forL tg (aV F b) x.1 ρ x.2)
 | .wh t b,ρ,S=>GG (bR F t) (aV F b) DI ρ S
 | .rs k vs,ρ,S=>af (vs.all (FS ρ)) (.ex k)
 | .tr b vF,ρ,S=>af S.isNone (match aV F b ρ S with | .ex k=>(match vF[k]? with | some (some v)=> .ok (.ret (.bl v),ρ,S) | _=> .bad) | r=>r)
 | .brk,ρ,S=> .ok (.brk,ρ,S)
 | .cnt,ρ,S=> .ok (.cnt,ρ,S)
 | .pas,ρ,S=> .ok (.next,ρ,S)
noncomputable def aV (F:FT):Ts->aj->Sx->RS
 | .nil,ρ,S=> .ok (.next,ρ,S)
 | .cons t ts,ρ,S=>(ex F t ρ S).bind λp=>match p.1 with
  | .next=>aV F ts p.2.1 p.2.2
  | f=> .ok (f,p.2)
end
structure Fn where
 ps:Nat
 n:Nat
 aS:Bool
 body:Ts
noncomputable def eL (F:FT) (f:Fn) (args:List Dt) (S:Sx):R (Dt×Sx):=
 if args.length + (if f.aS then 1 else 0)=f.ps then
  (aV F f.body ((if f.aS then[none] else[])++args.map some++List.replicate (f.n - f.ps) none) S).bind λp=>match p.1 with
   | .next=> .ok (.ba,p.2.2)
   | .ret d=> .ok (d,p.2.2)
   | _=> .bad
 else .bad
noncomputable def aO (fs:List Fn):Nat->FT
 | 0,_,_,_=> .bad
 | n + 1,f,args,S=>match fs[f]? with
  | some g=>eL (aO fs n) g args S
  | none=> .bad
structure G where
 fns:List (Str×Nat×List Dt×Bool)
 cons:List (Str×Dt)
 bls:List Str
 fr:Nat->Bool
 xs:List (Str×List (Str×Bool))
structure Gm where
 names:List (Str×NameKind)
 N:List Str
 M:List Bool
 δ:Option Nat
 κ:Option Nat
noncomputable def u6:Option NameKind->Bool
 | some .local=>true
 | some .cell=>true
 | some .free=>true
 | _=>false
noncomputable def ue:Option NameKind->Bool
 | some .local=>true
 | some .cell=>true
 | _=>false
noncomputable def qS:Option NameKind->Bool
 | some .globalImplicit=>true
 | _=>false
noncomputable def wG (x:Str):List Str->Option Nat
 | []=>none
 | y::r=>if x==y then some 0 else(wG x r).map (· + 1)
theorem kZ {x:Str}:∀{l:List Str} {i:Nat},wG x l=some i->l[i]?=some x
 | [],i,h=>by simp[wG] at h
 | y::r,i,h=>by
  unfold wG at h;by_cases e:(x==y)=true
  ·rw[if_pos e] at h;cases h;have:x=y:=by simpa using e
   simp[this]
  ·rw[if_neg e] at h;obtain⟨j,h1,rfl⟩:=J6.mp h;simp[kZ h1]
noncomputable def cR (x:Str):Bool:= !(x==("__debug__":Str))&& !(x==("__classdict__":Str))&& !(x==("__name__":Str))
noncomputable def slot (Γ:Gm) (x:Str):Option Nat:=if u6 (Γ.names.lookup x)&&cR x then wG x Γ.N else none
noncomputable def d6 (Γ:Gm) (x:Str):Option Nat:=if ue (Γ.names.lookup x)&&cR x then wG x Γ.N else none
noncomputable def cn (Γ:Gm) (i:Nat):Bool:=Γ.M[i]?==some true
noncomputable def plainS (Γ:Gm) (i:Nat):Bool:= !cn Γ i&& !(Γ.δ==some i)
noncomputable def nZ (x:Str):List (Str×Nat×List Dt×Bool)->Option (Nat×Nat×List Dt×Bool)
 | []=>none
 | y::r=>if x==y.1 then some (0,y.2) else(nZ x r).map λp=>(p.1 + 1,p.2)
noncomputable def sC:List (Str×Nat×BI):=[("len",1,.len),("min",2,.min2),("sorted",1,.sorted),("tuple",1,.tuple),("list",1,.list)]
noncomputable def lP (x:Str) (n:Nat):Option BI:=(sC.find? λt=>t.1==x&&t.2.1==n).map (·.2.2)
noncomputable def o7 (x:Str):Option String:=
 if x==("str":Str) then some "str" else if x==("int":Str) then some "int" else if x==("bool":Str) then some "bool"
 else if x==("list":Str) then some "list" else if x==("tuple":Str) then some "tuple" else none
noncomputable def mI (Γ:Gm):Expr->Option Nat
 | .Name x _=>(d6 Γ x).bind λi=>if plainS Γ i then some i else none
 | _=>none
noncomputable def gp (Γ:Gm):List Expr->Option (List Nat)
 | []=>some []
 | e::es=>(mI Γ e).bind λi=>(gp Γ es).map (i:: ·)
noncomputable def nN (Γ:Gm):Expr->Option Tg
 | .Name x p=>(mI Γ (.Name x p)).map .nm
 | .Tuple es _ _=>(gp Γ es).map .tp
 | _=>none
noncomputable def EX (names:List (Str×NameKind)):List Str:=names.filterMap λp=>if u6 (some p.2) then some p.1 else none
noncomputable def yX (names:List (Str×NameKind)) (N:List Str):List (Option Nat):=names.filterMap λp=>match p.2 with
 | .local=>some none
 | .free=>some (wG p.1 N)
 | .cell=>some none
 | _=>none
noncomputable def yY (cap:List (Option Nat)) (M:List Bool):List Bool:=cap.map λo=>o.elim false λi=>M[i]?==some true
noncomputable def vE (δ:Option Nat):List (Option Nat)->Option Nat
 | []=>none
 | o::r=>if δ.isSome&&o==δ then some 0 else(vE δ r).map (· + 1)
noncomputable def aM (Γ:Gm) (sc:Scope):Gm×List (Option Nat):=
 let cap:=yX sc.names Γ.N
 (⟨sc.names,EX sc.names,yY cap Γ.M,vE Γ.δ cap,vE Γ.κ cap⟩,cap)
noncomputable def aI:Tg->List Nat
 | .nm i=>[i]
 | .tp is=>is
noncomputable def sF (names on:List (Str×NameKind)) (N' Nn:List Str) (cap:List (Option Nat)):Bool:=
 names.all (λy=>names.lookup y.1==some y.2&&(y.2 != .free||(on.lookup y.1==some .cell||on.lookup y.1==some .free)))&&
 (cap.length==N'.length)&&(List.range cap.length).all (λj=>match cap[j]? with
  | some (some i)=>(match N'[j]? with
   | some x=>Nn[i]?==some x&&names.lookup x==some .free
   | none=>false)
  | _=>true)
noncomputable def FL (Γ:Gm):Expr->Bool
 | .Name x _=>match slot Γ x with
  | some i=>Γ.δ==some i
  | none=>false
 | _=>false
mutual
noncomputable def cE:Nat->G->Gm->Expr->Option C
 | 0,_,_,_=>none
 | n + 1,g,Γ,e=>match e with
  | .Constant k _ _=>match k with
   | .int i=>some (.con (.int i))
   | .str x=>some (.con (.str x))
   | .bool x=>some (.con (.bl x))
   | .none=>some (.con .ba)
   | _=>none
  | .Name x _=>match slot Γ x with
   | some i=>if Γ.δ==some i||Γ.κ==some i then none else if cn Γ i then some (.mvr i) else some (.var i)
   | none=>if qS (Γ.names.lookup x)&&cR x then(g.cons.lookup x).map .con else none
  | .BinOp a o b _=>(cE n g Γ a).bind λa'=>(cE n g Γ b).bind λb'=>some (.bin o a' b')
  | .UnaryOp o a _=>(cE n g Γ a).bind λa'=>match o with
   | .USub=>some (.neg a')
   | .Not=>some (.nt a')
   | _=>none
  | .BoolOp o vs _=>cB n g Γ o vs
  | .Compare a os bs _=>match os,bs with
   | [o],[b]=>(cE n g Γ a).bind λa'=>(cE n g Γ b).bind λb'=>some (.cmp o a' b')
   | _,_=>none
  | .Subscript a b _=>match b with
   | .Slice (some l) none none _=>(cE n g Γ a).bind λa'=>(cE n g Γ l).bind λl'=>some (.sliL a' l')
   | .Slice none (some h) none _=>(cE n g Γ a).bind λa'=>(cE n g Γ h).bind λh'=>some (.sliH a' h')
   | b=>(cE n g Γ a).bind λa'=>(cE n g Γ b).bind λb'=>some (.idx a' b')
  | .Tuple es _ _=>(rV n g Γ es).bind λcc=>some (.tup cc)
  | .List es _=>(rV n g Γ es).bind λcc=>some (.lst cc)
  | .Call f as ks pos=>match f,as,ks with
   | .Name f _,a::as,[]=>pz n g Γ f a as
   | .Attribute o m ap,[a,b],[]=>if m==("get":Str)&&ap.endLine==pos.line then(match o with
    | .Name x _=>match slot Γ x with
     | some i=>if Γ.κ==some i&&cn Γ i then(cE n g Γ a).bind λa'=>(cE n g Γ b).bind λb'=>some (.n0 i a' b') else none
     | none=>none
    | _=>none) else none
   | _,_,_=>none
  | .ListComp elt gens sc _=>
   let b:=aM Γ sc
   if sc.kind== .function then(match gens with
   | [⟨tg,it,ifs,0⟩]=>(cI n g Γ tg it).bind λhZ=>(nN b.1 tg).bind λjj=>(vS n g b.1 ifs).bind λlD=>(cE n g b.1 elt).bind λe'=>
    if sF sc.names Γ.names b.1.N Γ.N b.2&&decide b.1.N.Nodup then some (.comp b.2 hZ jj lD e') else none
   | [⟨tg,it,ifs,0⟩,⟨lI,ia,bG,0⟩]=>(cI n g Γ tg it).bind λhZ=>(nN b.1 tg).bind λjj=>(vS n g b.1 ifs).bind λlD=>(cI n g b.1 lI ia).bind λmh=>(nN b.1 lI).bind λjk=>(vS n g b.1 bG).bind λmZ=>(cE n g b.1 elt).bind λe'=>
    if sF sc.names Γ.names b.1.N Γ.N b.2&&decide b.1.N.Nodup&&(aI jk).all (λi=> !(aI jj).contains i) then some (.jO b.2 hZ jj lD mh jk mZ e') else none
   | _=>none) else none
  | _=>none
noncomputable def rV:Nat->G->Gm->List Expr->Option Cs
 | 0,_,_,_=>none
 | n + 1,g,Γ,es=>match es with
  | []=>some .nil
  | e::es=>(cE n g Γ e).bind λe'=>(rV n g Γ es).bind λcc=>some (.cons e' cc)
noncomputable def vS:Nat->G->Gm->List Expr->Option Cs
 | 0,_,_,_=>none
 | n + 1,g,Γ,es=>match es with
  | []=>some .nil
  | [e]=>(cE n g Γ e).bind λe'=>some (.cons e' .nil)
  | _=>none
noncomputable def cB:Nat->G->Gm->BoolOp->List Expr->Option C
 | 0,_,_,_,_=>none
 | n + 1,g,Γ,o,es=>match es with
  | [e]=>cE n g Γ e
  | e::es=>(cE n g Γ e).bind λe'=>(cB n g Γ o es).bind λcc=>some (match o with | .And=> .and e' cc | .Or=> .or e' cc)
  | []=>none
noncomputable def cI:Nat->G->Gm->Expr->Expr->Option nk
 | 0,_,_,_,_=>none
 | n + 1,g,Γ,tg,e=>match e with
  | .Call (.Name f p) [a] [] q=>if f==("range":Str) then(if qS (Γ.names.lookup f)&&g.bls.contains f then(cE n g Γ a).bind λa'=>some (.rng1 a') else none)
   else if f==("enumerate":Str) then(match tg with
    | .Tuple ..=>if qS (Γ.names.lookup f)&&g.bls.contains f then(cE n g Γ a).bind λa'=>some (.enum a') else none
    | _=>none)
   else(cE n g Γ (.Call (.Name f p) [a] [] q)).bind λc=>some (.seq c)
  | .Call (.Name f p) [a,b] [] q=>if f==("range":Str) then(if qS (Γ.names.lookup f)&&g.bls.contains f then none else none)
   else if f==("zip":Str) then(match tg with
    | .Tuple ..=>if qS (Γ.names.lookup f)&&g.bls.contains f then(match b with
     | .Call (.Name r _) [c] [] _=>if r==("range":Str) then(if qS (Γ.names.lookup r)&&g.bls.contains r then(cE n g Γ a).bind λa'=>(cE n g Γ c).bind λc'=>some (.zipR a' c') else none)
       else(cE n g Γ a).bind λa'=>(cE n g Γ b).bind λb'=>some (.zip a' b')
     | _=>(cE n g Γ a).bind λa'=>(cE n g Γ b).bind λb'=>some (.zip a' b')) else none
    | _=>none)
   else(cE n g Γ (.Call (.Name f p) [a,b] [] q)).bind λc=>some (.seq c)
  | e=>(cE n g Γ e).bind λc=>some (.seq c)
noncomputable def pz:Nat->G->Gm->Str->Expr->List Expr->Option C
 | 0,_,_,_,_,_=>none
 | n + 1,g,Γ,f,a,as=>if qS (Γ.names.lookup f)&&cR f then(match nZ f g.fns with
  | some (k,np,dU,aS)=>if aS then(match a with
    | .Name x _=>match slot Γ x with
     | some i=>if Γ.δ==some i&&as.length + 1==np then none else none
     | none=>none
    | _=>none)
   else if as.length + 1<=np&&np - (as.length + 1)<=dU.length then(rV n g Γ (a::as)).bind λes=>some (.call k es (dU.drop (dU.length - (np - (as.length + 1))))) else none
  | none=>if g.bls.contains f then
    (if f==("len":Str)&&FL Γ a&&as.isEmpty then none
    else if f==("isinstance":Str) then(match as with
     | [.Name t _]=>if qS (Γ.names.lookup t)&&g.bls.contains t then(o7 t).bind λT=>(cE n g Γ a).bind λa'=>some (.bi (.isi T) (.cons a' .nil)) else none
     | _=>none)
    else match a,as with
     | .Call (.Name r _) [b] [] _,[]=>if r==("reversed":Str) then(if qS (Γ.names.lookup r)&&g.bls.contains r then(cE n g Γ b).bind λb'=>
       (if f==("list":Str) then some (.bi .revL (.cons b' .nil)) else if f==("tuple":Str) then some (.bi .revT (.cons b' .nil)) else none) else none)
       else if r==("set":Str) then none
       else(lP f (as.length + 1)).bind λi=>(rV n g Γ (a::as)).bind λes=>some (.bi i es)
     | .Call (.Name r _) [b,c] [] _,[]=>if r==("zip":Str) then none
       else(lP f (as.length + 1)).bind λi=>(rV n g Γ (a::as)).bind λes=>some (.bi i es)
     | .Call (.Attribute y m ap) [] [] ip,[]=>if m==("items":Str) then(if f==("sorted":Str)&&ap.endLine==ip.line then(match y with
       | .Name x _=>match slot Γ x with
        | some i=>if Γ.κ==some i&&cn Γ i then some (.srtI i) else none
        | none=>none
       | _=>none) else none)
       else(lP f (as.length + 1)).bind λi=>(rV n g Γ (a::as)).bind λes=>some (.bi i es)
     | _,_=>(lP f (as.length + 1)).bind λi=>(rV n g Γ (a::as)).bind λes=>some (.bi i es))
    else none)
  else none
end
section
variable {P:Program} {w:World} {K:Frag} {A B:Addr->Prop} {H:Hp} {s:Shared}
theorem elts (hok:cG P w H s.heap) {vG ff:List V} {i1 i2:List Dt} {bM aB:List Value} {R:Around} {n:Nat} (g1:ag K A H vG i1) (g2:ag K B H ff i2) (r1:aq vG bM) (r2:aq ff aB) (l1:bM.toArray.size=i1.length) (l2:aB.toArray.size=i2.length)
  (p1:gU i1=true) (p2:gU i2=true) (hd:iJ i1<=n) (hu:R.in1.units + n < cLine) (j:Nat) (h1:j < bM.toArray.size) (h2:j < aB.toArray.size):EqAt R.in1 s bM.toArray[j] aB.toArray[j] (qk i1 i2 j):=by
 have gG:j < vG.length:=by rw[g1.length,<-l1];exact h1
 have iS:j < ff.length:=by rw[g2.length,<-l2];exact h2
 obtain⟨d,c1,c2⟩:=g1.get (i:=j) (x:=vG[j]) (by simp[gG]);obtain⟨e,k1,k2⟩:=g2.get (i:=j) (x:=ff[j]) (by simp[iS]);obtain⟨u,pQ,ru⟩:=r1.get (i:=j) (x:=vG[j]) (by simp[gG]);obtain⟨v,tU,rv⟩:=r2.get (i:=j) (x:=ff[j]) (by simp[iS]);have eu:bM.toArray[j]=u:=by simp only[List.getElem_toArray];exact(JU.mp pQ).2
 have ev:aB.toArray[j]=v:=by simp only[List.getElem_toArray];exact(JU.mp tU).2
 rw[eu,ev,show qk i1 i2 j=bt d e by unfold qk;rw[c1,k1]];exact ya hok n d e vG[j] ff[j] u v R.in1 (J1 (iI c1) hd) (cU p1 c1) (cU p2 k1) hu c2 k2 ru rv
theorem C7 (hok:cG P w H s.heap) (n:Nat) (d e:Dt) (x y:V) (u v:Value) (R:Around) (hd:dp d<=n + 1) (kW:pl d=true) (dO:pl e=true) (hu:R.units + n + 1 < cLine) (hx:RV K A H x d) (hy:RV K B H y e) (rx:RelV x u) (ry:RelV y v):RcAt R s u v (bt d e):=by
 cases d with
 | ba=>
  have:=hx.az;subst this;cases rx;cases e with
  | ba=>have:=hy.az;subst this;cases ry;exact RcAt.none_none
  | bl i2=>have:=hy.ax;subst this;cases ry;exact RcAt.none_bool i2
  | int i2=>have:=hy.int_inv;subst this;obtain⟨t2,rfl⟩:=ry;exact RcAt.none_int i2 t2
  | str i2=>have:=hy.str_inv;subst this;obtain⟨t2,rfl⟩:=ry;exact RcAt.none_str i2 t2
  | tup i2=>obtain⟨a2,ff,q2,f2,g2⟩:=hy.ae;subst q2;cases ry;obtain⟨aB,r2,bF⟩:=Mx.au hok f2;exact RcAt.none_tuple bF (by lia)
  | lst i2=>obtain⟨a2,ff,q2,f2,_,g2⟩:=hy.lst_inv;subst q2;cases ry;obtain⟨aB,r2,bF⟩:=aA hok f2;exact RcAt.none_list bF (by lia)
  | _=>simp[pl] at dO
 | bl i1=>
  have:=hx.ax;subst this;cases rx;cases e with
  | ba=>have:=hy.az;subst this;cases ry;exact RcAt.bool_none i1
  | bl i2=>have:=hy.ax;subst this;cases ry;exact RcAt.bool_bool i1 i2
  | int i2=>have:=hy.int_inv;subst this;obtain⟨t2,rfl⟩:=ry;exact RcAt.bool_int i1 i2 t2
  | str i2=>have:=hy.str_inv;subst this;obtain⟨t2,rfl⟩:=ry;exact RcAt.bool_str i1 i2 t2
  | tup i2=>obtain⟨a2,ff,q2,f2,g2⟩:=hy.ae;subst q2;cases ry;obtain⟨aB,r2,bF⟩:=Mx.au hok f2;exact RcAt.bool_tuple i1 bF (by lia)
  | lst i2=>obtain⟨a2,ff,q2,f2,_,g2⟩:=hy.lst_inv;subst q2;cases ry;obtain⟨aB,r2,bF⟩:=aA hok f2;exact RcAt.bool_list i1 bF (by lia)
  | _=>simp[pl] at dO
 | int i1=>
  have:=hx.int_inv;subst this;obtain⟨t1,rfl⟩:=rx;cases e with
  | ba=>have:=hy.az;subst this;cases ry;exact RcAt.int_none i1 t1
  | bl i2=>have:=hy.ax;subst this;cases ry;exact RcAt.int_bool i1 t1 i2
  | int i2=>have:=hy.int_inv;subst this;obtain⟨t2,rfl⟩:=ry;exact RcAt.int_int i1 t1 i2 t2
  | str i2=>have:=hy.str_inv;subst this;obtain⟨t2,rfl⟩:=ry;exact RcAt.int_str i1 t1 i2 t2
  | tup i2=>obtain⟨a2,ff,q2,f2,g2⟩:=hy.ae;subst q2;cases ry;obtain⟨aB,r2,bF⟩:=Mx.au hok f2;exact RcAt.int_tuple i1 t1 bF (by lia)
  | lst i2=>obtain⟨a2,ff,q2,f2,_,g2⟩:=hy.lst_inv;subst q2;cases ry;obtain⟨aB,r2,bF⟩:=aA hok f2;exact RcAt.int_list i1 t1 bF (by lia)
  | _=>simp[pl] at dO
 | str i1=>
  have:=hx.str_inv;subst this;obtain⟨t1,rfl⟩:=rx;cases e with
  | ba=>have:=hy.az;subst this;cases ry;exact RcAt.str_none i1 t1
  | bl i2=>have:=hy.ax;subst this;cases ry;exact RcAt.str_bool i1 t1 i2
  | int i2=>have:=hy.int_inv;subst this;obtain⟨t2,rfl⟩:=ry;exact RcAt.str_int i1 t1 i2 t2
  | str i2=>have:=hy.str_inv;subst this;obtain⟨t2,rfl⟩:=ry;exact RcAt.str_str i1 t1 i2 t2
  | tup i2=>obtain⟨a2,ff,q2,f2,g2⟩:=hy.ae;subst q2;cases ry;obtain⟨aB,r2,bF⟩:=Mx.au hok f2;exact RcAt.str_tuple i1 t1 bF (by lia)
  | lst i2=>obtain⟨a2,ff,q2,f2,_,g2⟩:=hy.lst_inv;subst q2;cases ry;obtain⟨aB,r2,bF⟩:=aA hok f2;exact RcAt.str_list i1 t1 bF (by lia)
  | _=>simp[pl] at dO
 | tup i1=>
  obtain⟨a1,vG,q1,f1,g1⟩:=hx.ae;subst q1;cases rx;obtain⟨bM,r1,fG⟩:=Mx.au hok f1;cases e with
  | ba=>have:=hy.az;subst this;cases ry;exact RcAt.tuple_none fG (by lia)
  | bl i2=>have:=hy.ax;subst this;cases ry;exact RcAt.tuple_bool i2 fG (by lia)
  | int i2=>have:=hy.int_inv;subst this;obtain⟨t2,rfl⟩:=ry;exact RcAt.tuple_int i2 t2 fG (by lia)
  | str i2=>have:=hy.str_inv;subst this;obtain⟨t2,rfl⟩:=ry;exact RcAt.tuple_str i2 t2 fG (by lia)
  | tup i2=>
   obtain⟨a2,ff,q2,f2,g2⟩:=hy.ae;subst q2;cases ry;obtain⟨aB,r2,bF⟩:=Mx.au hok f2;have l1:bM.toArray.size=i1.length:=by rw[JS,<-r1.length,g1.length]
   have l2:aB.toArray.size=i2.length:=by rw[JS,<-r2.length,g2.length]
   have key:=RcAt.tuples (A:=R) (e:=qk i1 i2) fG bF (by lia) (elts hok g1 g2 r1 r2 l1 l2 (by simpa [pl] using kW) (by simpa [pl] using dO) (n:=n) (by unfold dp at hd;lia) (by show R.units + 1 + n < cLine;lia));have q:=bJ i1 i2;rw[<-l1,<-l2] at q;rw[q] at key;exact key
  | lst i2=>obtain⟨a2,ff,q2,f2,_,g2⟩:=hy.lst_inv;subst q2;cases ry;obtain⟨aB,r2,bF⟩:=aA hok f2;exact RcAt.tuple_list fG bF (by lia)
  | _=>simp[pl] at dO
 | lst i1=>
  obtain⟨a1,vG,q1,f1,_,g1⟩:=hx.lst_inv;subst q1;cases rx;obtain⟨bM,r1,fG⟩:=aA hok f1;cases e with
  | ba=>have:=hy.az;subst this;cases ry;exact RcAt.list_none fG (by lia)
  | bl i2=>have:=hy.ax;subst this;cases ry;exact RcAt.list_bool i2 fG (by lia)
  | int i2=>have:=hy.int_inv;subst this;obtain⟨t2,rfl⟩:=ry;exact RcAt.list_int i2 t2 fG (by lia)
  | str i2=>have:=hy.str_inv;subst this;obtain⟨t2,rfl⟩:=ry;exact RcAt.list_str i2 t2 fG (by lia)
  | tup i2=>obtain⟨a2,ff,q2,f2,g2⟩:=hy.ae;subst q2;cases ry;obtain⟨aB,r2,bF⟩:=Mx.au hok f2;exact RcAt.list_tuple fG bF (by lia)
  | lst i2=>
   obtain⟨a2,ff,q2,f2,_,g2⟩:=hy.lst_inv;subst q2;cases ry;obtain⟨aB,r2,bF⟩:=aA hok f2;have l1:bM.toArray.size=i1.length:=by rw[JS,<-r1.length,g1.length]
   have l2:aB.toArray.size=i2.length:=by rw[JS,<-r2.length,g2.length]
   have q:=bJ i1 i2;by_cases hl:i1.length=i2.length
   ·have key:=RcAt.lists (A:=R) (e:=qk i1 i2) fG bF (by lia) (by lia) (elts hok g1 g2 r1 r2 l1 l2 (by simpa [pl] using kW) (by simpa [pl] using dO) (n:=n) (by unfold dp at hd;lia) (by show R.units + 1 + n < cLine;lia));rw[hl,Nat.min_self,beq_self_eq_true,Bool.and_true] at q;rw[l1,hl,q] at key;exact key
   ·have key:=RcAt.lists_lengths (A:=R) fG bF (by rw[l1,l2];simpa using hl) (by lia);have hb:(i1.length==i2.length)=false:=by simpa using hl
    rw[hb,Bool.and_false] at q;show RcAt R s _ _ (bw i1 i2);rw[<-q];exact key
  | _=>simp[pl] at dO
 | _=>simp[pl] at kW
theorem xB (hok:cG P w H s.heap) (n:Nat) (d e:Dt) (x y:V) (u v:Value) (R:Around) (hd:dp d<=n + 1) (kW:pl d=true) (dO:pl e=true) (hu:R.units + n + 1 < cLine) (hx:RV K A H x d) (hy:RV K B H y e) (rx:RelV x u) (ry:RelV y v):RcNeAt R s u v (!bt d e):=by
 cases d with
 | ba=>
  have:=hx.az;subst this;cases rx;cases e with
  | ba=>have:=hy.az;subst this;cases ry;exact RcNeAt.none_none
  | bl i2=>have:=hy.ax;subst this;cases ry;exact RcNeAt.none_bool i2
  | int i2=>have:=hy.int_inv;subst this;obtain⟨t2,rfl⟩:=ry;exact RcNeAt.none_int i2 t2
  | str i2=>have:=hy.str_inv;subst this;obtain⟨t2,rfl⟩:=ry;exact RcNeAt.none_str i2 t2
  | tup i2=>obtain⟨a2,ff,q2,f2,g2⟩:=hy.ae;subst q2;cases ry;obtain⟨aB,r2,bF⟩:=Mx.au hok f2;exact RcNeAt.none_tuple bF (by lia)
  | lst i2=>obtain⟨a2,ff,q2,f2,_,g2⟩:=hy.lst_inv;subst q2;cases ry;obtain⟨aB,r2,bF⟩:=aA hok f2;exact RcNeAt.none_list bF (by lia)
  | _=>simp[pl] at dO
 | bl i1=>
  have:=hx.ax;subst this;cases rx;cases e with
  | ba=>have:=hy.az;subst this;cases ry;exact RcNeAt.bool_none i1
  | bl i2=>have:=hy.ax;subst this;cases ry;exact RcNeAt.bool_bool i1 i2
  | int i2=>have:=hy.int_inv;subst this;obtain⟨t2,rfl⟩:=ry;exact RcNeAt.bool_int i1 i2 t2
  | str i2=>have:=hy.str_inv;subst this;obtain⟨t2,rfl⟩:=ry;exact RcNeAt.bool_str i1 i2 t2
  | tup i2=>obtain⟨a2,ff,q2,f2,g2⟩:=hy.ae;subst q2;cases ry;obtain⟨aB,r2,bF⟩:=Mx.au hok f2;exact RcNeAt.bool_tuple i1 bF (by lia)
  | lst i2=>obtain⟨a2,ff,q2,f2,_,g2⟩:=hy.lst_inv;subst q2;cases ry;obtain⟨aB,r2,bF⟩:=aA hok f2;exact RcNeAt.bool_list i1 bF (by lia)
  | _=>simp[pl] at dO
 | int i1=>
  have:=hx.int_inv;subst this;obtain⟨t1,rfl⟩:=rx;cases e with
  | ba=>have:=hy.az;subst this;cases ry;exact RcNeAt.int_none i1 t1
  | bl i2=>have:=hy.ax;subst this;cases ry;exact RcNeAt.int_bool i1 t1 i2
  | int i2=>have:=hy.int_inv;subst this;obtain⟨t2,rfl⟩:=ry;exact RcNeAt.int_int i1 t1 i2 t2
  | str i2=>have:=hy.str_inv;subst this;obtain⟨t2,rfl⟩:=ry;exact RcNeAt.int_str i1 t1 i2 t2
  | tup i2=>obtain⟨a2,ff,q2,f2,g2⟩:=hy.ae;subst q2;cases ry;obtain⟨aB,r2,bF⟩:=Mx.au hok f2;exact RcNeAt.int_tuple i1 t1 bF (by lia)
  | lst i2=>obtain⟨a2,ff,q2,f2,_,g2⟩:=hy.lst_inv;subst q2;cases ry;obtain⟨aB,r2,bF⟩:=aA hok f2;exact RcNeAt.int_list i1 t1 bF (by lia)
  | _=>simp[pl] at dO
 | str i1=>
  have:=hx.str_inv;subst this;obtain⟨t1,rfl⟩:=rx;cases e with
  | ba=>have:=hy.az;subst this;cases ry;exact RcNeAt.str_none i1 t1
  | bl i2=>have:=hy.ax;subst this;cases ry;exact RcNeAt.str_bool i1 t1 i2
  | int i2=>have:=hy.int_inv;subst this;obtain⟨t2,rfl⟩:=ry;exact RcNeAt.str_int i1 t1 i2 t2
  | str i2=>have:=hy.str_inv;subst this;obtain⟨t2,rfl⟩:=ry;exact RcNeAt.str_str i1 t1 i2 t2
  | tup i2=>obtain⟨a2,ff,q2,f2,g2⟩:=hy.ae;subst q2;cases ry;obtain⟨aB,r2,bF⟩:=Mx.au hok f2;exact RcNeAt.str_tuple i1 t1 bF (by lia)
  | lst i2=>obtain⟨a2,ff,q2,f2,_,g2⟩:=hy.lst_inv;subst q2;cases ry;obtain⟨aB,r2,bF⟩:=aA hok f2;exact RcNeAt.str_list i1 t1 bF (by lia)
  | _=>simp[pl] at dO
 | tup i1=>
  obtain⟨a1,vG,q1,f1,g1⟩:=hx.ae;subst q1;cases rx;obtain⟨bM,r1,fG⟩:=Mx.au hok f1;cases e with
  | ba=>have:=hy.az;subst this;cases ry;exact RcNeAt.tuple_none fG (by lia)
  | bl i2=>have:=hy.ax;subst this;cases ry;exact RcNeAt.tuple_bool i2 fG (by lia)
  | int i2=>have:=hy.int_inv;subst this;obtain⟨t2,rfl⟩:=ry;exact RcNeAt.tuple_int i2 t2 fG (by lia)
  | str i2=>have:=hy.str_inv;subst this;obtain⟨t2,rfl⟩:=ry;exact RcNeAt.tuple_str i2 t2 fG (by lia)
  | tup i2=>
   obtain⟨a2,ff,q2,f2,g2⟩:=hy.ae;subst q2;cases ry;obtain⟨aB,r2,bF⟩:=Mx.au hok f2;have l1:bM.toArray.size=i1.length:=by rw[JS,<-r1.length,g1.length]
   have l2:aB.toArray.size=i2.length:=by rw[JS,<-r2.length,g2.length]
   have key:=RcNeAt.tuples (A:=R) (e:=qk i1 i2) fG bF (by lia) (elts hok g1 g2 r1 r2 l1 l2 (by simpa [pl] using kW) (by simpa [pl] using dO) (n:=n) (by unfold dp at hd;lia) (by show R.units + 1 + n < cLine;lia));have q:=bJ i1 i2;rw[<-l1,<-l2] at q;rw[q] at key;exact key
  | lst i2=>obtain⟨a2,ff,q2,f2,_,g2⟩:=hy.lst_inv;subst q2;cases ry;obtain⟨aB,r2,bF⟩:=aA hok f2;exact RcNeAt.tuple_list fG bF (by lia)
  | _=>simp[pl] at dO
 | lst i1=>
  obtain⟨a1,vG,q1,f1,_,g1⟩:=hx.lst_inv;subst q1;cases rx;obtain⟨bM,r1,fG⟩:=aA hok f1;cases e with
  | ba=>have:=hy.az;subst this;cases ry;exact RcNeAt.list_none fG (by lia)
  | bl i2=>have:=hy.ax;subst this;cases ry;exact RcNeAt.list_bool i2 fG (by lia)
  | int i2=>have:=hy.int_inv;subst this;obtain⟨t2,rfl⟩:=ry;exact RcNeAt.list_int i2 t2 fG (by lia)
  | str i2=>have:=hy.str_inv;subst this;obtain⟨t2,rfl⟩:=ry;exact RcNeAt.list_str i2 t2 fG (by lia)
  | tup i2=>obtain⟨a2,ff,q2,f2,g2⟩:=hy.ae;subst q2;cases ry;obtain⟨aB,r2,bF⟩:=Mx.au hok f2;exact RcNeAt.list_tuple fG bF (by lia)
  | lst i2=>
   obtain⟨a2,ff,q2,f2,_,g2⟩:=hy.lst_inv;subst q2;cases ry;obtain⟨aB,r2,bF⟩:=aA hok f2;have l1:bM.toArray.size=i1.length:=by rw[JS,<-r1.length,g1.length]
   have l2:aB.toArray.size=i2.length:=by rw[JS,<-r2.length,g2.length]
   have q:=bJ i1 i2;by_cases hl:i1.length=i2.length
   ·have key:=RcNeAt.lists (A:=R) (e:=qk i1 i2) fG bF (by lia) (by lia) (elts hok g1 g2 r1 r2 l1 l2 (by simpa [pl] using kW) (by simpa [pl] using dO) (n:=n) (by unfold dp at hd;lia) (by show R.units + 1 + n < cLine;lia));rw[hl,Nat.min_self,beq_self_eq_true,Bool.and_true] at q;rw[l1,hl,q] at key;exact key
   ·have key:=RcNeAt.lists_lengths (A:=R) fG bF (by rw[l1,l2];simpa using hl) (by lia);have hb:(i1.length==i2.length)=false:=by simpa using hl
    rw[hb,Bool.and_false] at q;show RcNeAt R s _ _ (!bw i1 i2);rw[<-q];exact key
  | _=>simp[pl] at dO
 | _=>simp[pl] at kW
end
end Rx
end
section
namespace HT
open PySem PyProof.Rows
section
variable {prog:Program} {w:World} {A:Around} {E:Value->Shared->Prop} {s:Shared}
theorem eC {t sl:Addr} {items:Array Value} {vl vu:Value} {lo hi:Option Int} {Q:Value->Shared->Prop} (ht:IsTup s.heap t items) (hs:s.heap.IsSliceOf sl vl vu .none) (pl:IsPart vl lo) (pu:IsPart vu hi)
  (hw:bA items.size 0 lo=0/\bA items.size items.size hi=items.size) (h:Q (.ref t) s) (jW:items.size<=sizeLine):wpAny (model prog w) A (getItem (.ref t) (.ref sl)) Q E s:=by
 obtain⟨os,zK,tM,zC⟩:=id hs;have Fq:s.TypeIs (.ref sl) "slice":=⟨os,zK,tM⟩;unfold getItem
 try with_reducible refine wpAny_holding ?_
 first | refine JN (JQ ?_) | skip
 refine JN (wpAny_sequenceKey ht.typeIs (by decide) ?_);refine JN (wpAny_callSpecial?_slot (name:=Str.ofString "__getitem__") ht.typeIs PyProof.Rows.slot_tuple_getitem
  (wpAny_call_entry PyProof.Rows.slot_tuple_getitem ht.typeIs entry_tuple_getitem ?_ (args_tuple_getitem _ _)))
 show wpAny _ _ (Builtin.Tuple.tupleItemsOf (.ref t) >>=_) _ _ s;refine JN (tupleItemsOf_ ht ?_);refine JN (wpAny_typeOf Fq ?_);rw[if_pos (by decide)];refine JN (c9 hs pl pu ?_);show wpAny _ _ (if (((bA items.size 0 lo:Nat):Int)==0&&(1:Int)==1&&(bA items.size items.size hi - bA items.size 0 lo)==items.size)=true then _ else _) _ _ s;rw[if_pos (by rw[hw.1,hw.2];simp)];refine JN (JN (wpAny_typeOf ht.typeIs (JQ ?_)));rw[if_pos (by decide)];refine JN (wpAny_rule ?_);exact JQ ⟨_,rfl,JQ h⟩
end
end HT
namespace Rx
open PySem PySem.W PySem.Spec PyProof.Rows L2 PySem.SeqAt
noncomputable abbrev N0:Addr->Prop:=λ_=>False
noncomputable def dC (K:Frag) (A:Addr->Prop) (H:Hp) (v:V):Dt->Prop
 | .lst ds=>∃a xs,v= .ref a/\H a=some (.lst xs)/\ag K A H xs ds
 | d=>RV K A H v d
noncomputable def kv (K:Frag) (A:Addr->Prop) (H:Hp):List V->List Dt->Prop
 | [],[]=>True
 | x::xs,d::ds=>dC K A H x d/\kv K A H xs ds
 | _,_=>False
section
variable {K:Frag} {A B:Addr->Prop} {H H':Hp}
theorem RV.one {v d} (h:RV K A H v d):dC K A H v d:=by
 cases d with
 | lst ds=>obtain⟨a,xs,h1,h2,_,h3⟩:=h.lst_inv;exact⟨a,xs,h1,h2,h3⟩
 | _=>exact h
theorem dC.ext {X:Addr->Prop} {v d} (h:dC K A H v d) (e:aF X H H') (hX:∀b,X b->A b) (hv:∀ds a,d= .lst ds->v= .ref a->¬X a):dC K A H' v d:=by
 cases d with
 | lst ds=>obtain⟨a,xs,h1,h2,h3⟩:=h;exact⟨a,xs,h1,e.kp _ _ h2 (hv ds a rfl h1),h3.mono e hX λ_ z=>z⟩
 | _=>exact RV.mono e hX (λ_ z=>z) h
theorem ag.ones:∀{vs ds},ag K A H vs ds->kv K A H vs ds
 | [],[],_=>trivial
 | [],_::_,h=>by unfold ag at h;exact h.elim
 | _::_,[],h=>by unfold ag at h;exact h.elim
 | _::_,_::_,h=>by unfold ag at h;exact⟨h.1.one,h.2.ones⟩
end
structure PR (K:Frag) (fr:Bool) (xs:List V) (ds:List Dt) (H:Hp) (d:Dt) (v:V) (H':Hp):Prop where
 same:a8 H H'
 val:∀A:Addr->Prop,(∀a,A a->∃o,H a=some o)->kv K A H xs ds->RV K A H' v d
 dG:fr=true->∀es,d= .lst es->∃a ys,v= .ref a/\H a=none/\H' a=some (.lst ys)/\∀A:Addr->Prop,(∀a,A a->∃o,H a=some o)->kv K A H xs ds->ag K (λb=>A b\/b=a) H' ys es
noncomputable def rP (K:Frag) (fr:Bool) (f:List Dt->R Dt):List V->Hp->VK->Prop:=λxs H Q=>∃ds d,ag K N0 H xs ds/\f ds= .ok d/\∀v H',PR K fr xs ds H d v H'->Q v H'
section
variable {K:Frag} {fr:Bool} {xs:List V} {ds:List Dt} {H H':Hp} {d:Dt} {v:V}
noncomputable def lH:Dt->Bool
 | .ba | .bl _ | .int _ | .str _=>true
 | _=>false
noncomputable def ny:Dt->V
 | .bl b=> .bl b
 | .int b=> .int b
 | .str b=> .str b
 | _=> .ba
theorem mP {A:Addr->Prop} (h:lH d=true):RV K A H (ny d) d:=by
 cases d with
 | ba=>exact RV.eR
 | bl b=>exact RV.mC
 | int b=>exact RV.b8
 | str b=>exact RV.gq
 | _=>simp[lH] at h
theorem PR.sc (h:lH d=true):PR K fr xs ds H d (ny d) H:=⟨a8.refl _,λA _ _=>mP h,λ_ es e=>by subst e;simp[lH] at h⟩
theorem PR.k8 {p:Addr} {ys:List V} {es:List Dt} (hp:H p=none) (h:∀A:Addr->Prop,kv K A H xs ds->ag K A H ys es):PR K fr xs ds H (.lst es) (.ref p) (upd H p (.lst ys)):=by
 have s:=Mx.bu hp (.lst ys);refine⟨s,λA hA q=>RV.du ar (λz=>?_) ((h A q).same s),λ_ cc e=>?_⟩
 ·obtain⟨o,e⟩:=hA p z;rw[hp] at e;cases e
 ·cases e;exact⟨p,ys,rfl,hp,ar,λA hA q=>((h A q).avoid hp).same s⟩
theorem PR.wW {p:Addr} {ys:List V} {es:List Dt} (hp:H p=none) (h:∀A:Addr->Prop,kv K A H xs ds->ag K A H ys es):PR K fr xs ds H (.tup es) (.ref p) (upd H p (.tup ys)):=by have s:=Mx.bu hp (.tup ys);exact⟨s,λA hA q=>RV.b9 ar ((h A q).same s),λ_ cc e=>by cases e⟩
theorem PR.p6 {p:Addr} {ys:List V} {es:List Dt} (hp:H p=some (.tup ys)) (h:∀A:Addr->Prop,kv K A H xs ds->ag K A H ys es):PR K fr xs ds H (.tup es) (.ref p) H:=
 ⟨a8.refl _,λA hA q=>RV.b9 hp (h A q),λ_ cc e=>by cases e⟩
theorem bH:lim<=sizeLine:=by rw[sizeLine_eq];decide
theorem aE {b:Bool} {α:Type} {r:R α} {a:α} (h:af b r= .ok a):b=true/\r= .ok a:=by
 cases b with
 | true=>exact⟨rfl,h⟩
 | false=>cases h
theorem dC.aA {A:Addr->Prop} {a:Addr} {xs:List V} {es:List Dt} (h:dC K A H (.ref a) (.lst es)) (e:H a=some (.lst xs)):ag K A H xs es:=by obtain⟨b,ys,q,h1,h2⟩:=h;cases q;rw[e] at h1;cases h1;exact h2
theorem dC.au {A:Addr->Prop} {a:Addr} {xs:List V} {es:List Dt} (h:dC K A H (.ref a) (.tup es)) (e:H a=some (.tup xs)):ag K A H xs es:=by obtain⟨b,ys,q,h1,h2⟩:=RV.ae h;cases q;rw[e] at h1;cases h1;exact h2
end
section
variable {X:Cx}
noncomputable def r2 (K:Frag) (f:Dt->Dt->R Dt):R2:=λx y H Q=>∃d e z,RV K N0 H x d/\RV K N0 H y e/\f d e= .ok z/\∀v H',PR K true [x,y] [d,e] H z v H'->Q v H'
theorem j7 {i:Int} (h:i.natAbs < 2 ^ 64): -(2 ^ 64) < i/\i < 2 ^ 64:=by lia
theorem Ak:jo X (binaryOp .FloorDiv) (rI (λ_ j=>0 < j/\j.natAbs.log2 < 9000) λi j=> .int (i / j)):=CQ λi j _ _ _ _ _ hc q=>by have h1:(0:Int) < j:=hc.1;exact floordiv_int (by lia) (by rw[Int.fdiv_eq_ediv_of_nonneg i (by lia)];exact q) (.inl (PyProof.noPylong_of_log2 hc.2))
theorem Aj (o:Operator):jo X (binaryOp o) (r2 X.K (oI o)):=by
 intro pins s σ H x y v u Q I rx ry h;obtain⟨d,e,z,hx,hy,he,q⟩:=h;have Ck:=bH;unfold oI at he;split at he
 ·split at he
  ·rename_i i j;cases he;exact Ai pins s σ H x y v u Q I rx ry ⟨i,j,hx.int_inv,hy.int_inv,q _ _ (PR.sc (d:= .int _) rfl)⟩
  ·rename_i i j;obtain⟨g,he⟩:=aE he;cases he;exact oJ pins s σ H x y v u Q I rx ry ⟨i,j,hx.str_inv,hy.str_inv,J1 (JT g) Ck,q _ _ (PR.sc (d:= .str _) rfl)⟩
  ·rename_i i j;obtain⟨g,he⟩:=aE he;cases he;obtain⟨a,xs,rfl,h1,_,h2⟩:=hx.lst_inv;obtain⟨b,ys,rfl,k1,_,k2⟩:=hy.lst_inv;refine d4 pins s σ H _ _ v u Q I rx ry ⟨a,b,xs,ys,rfl,rfl,h1,k1,?_,λp hp=>q _ _ (PR.k8 hp λA w=>?_)⟩
   ·rw[h2.length,k2.length];exact J1 (JT g) Ck
   ·exact(dC.aA w.1 h1).append (dC.aA w.2.1 k1)
  ·rename_i i j;obtain⟨g,he⟩:=aE he;cases he;obtain⟨a,xs,rfl,h1,h2⟩:=hx.ae;obtain⟨b,ys,rfl,k1,k2⟩:=hy.ae;by_cases hd:xs=[]
   ·subst hd;cases h2.cv;cases rx;cases ry;obtain⟨its,r1,p1,_⟩:=I.tuple (de.of h1);obtain⟨aB,r2,p2,_⟩:=I.tuple (de.of k1);cases r1;obtain⟨⟨cls,dd,data,sl⟩,ho,hc,n,qW⟩:=p1;obtain⟨⟨BR,vp,data2,se⟩,pO,qU,n2,oj⟩:=p2;simp only at hc qW qU oj;subst hc qW qU oj;exact concat_meets ⟨_,ho,rfl⟩ ⟨_,pO,rfl⟩ noFill_tuple_add seq_tuple_add PySem.F.slot_tuple_add PySem.F.entry_tuple_add (PySem.F.args_tuple_add_2 _ _)
     (Mx.tuple_addW0 a b _ _ n n2 dd vp sl se rfl) ⟨ho,pO,⟨.ref b,H,I,rfl,q _ _ (PR.p6 k1 λA w=>dC.au w.2.1 k1)⟩⟩
   ·refine w6 pins s σ H (.ref a) (.ref b) v u Q I rx ry ⟨a,b,xs,ys,rfl,rfl,de.of h1,de.of k1,hd,?_,λe=>?_,λe p hp=>?_⟩
    ·rw[h2.length,k2.length];exact J1 (JT g) Ck
    ·subst e;cases k2.cv;rw[Ku] at q;exact q _ _ (PR.p6 h1 λA w=>dC.au w.1 h1)
    ·exact q _ _ (PR.wW hp λA w=>(dC.au w.1 h1).append (dC.au w.2.1 k1))
  ·cases he
 ·split at he
  ·rename_i i j;cases he;exact Ao pins s σ H x y v u Q I rx ry ⟨i,j,hx.int_inv,hy.int_inv,q _ _ (PR.sc (d:= .int _) rfl)⟩
  ·cases he
 ·split at he
  ·rename_i i j;obtain⟨g,he⟩:=aE he;cases he;refine Am pins s σ H x y v u Q I rx ry ⟨i,j,hx.int_inv,hy.int_inv,?_,q _ _ (PR.sc (d:= .int _) rfl)⟩;rw[Kv] at g;rcases g with g | g
   ·exact .inl (j7 (JT g))
   ·exact .inr (j7 (JT g))
  ·cases he
 ·split at he
  ·rename_i i j;obtain⟨g,he⟩:=aE he;cases he;rw[JR] at g;exact Ak pins s σ H x y v u Q I rx ry ⟨i,j,hx.int_inv,hy.int_inv,⟨JT g.1,JT g.2⟩,q _ _ (PR.sc (d:= .int _) rfl)⟩
  ·cases he
 ·split at he
  ·rename_i i j;obtain⟨g,he⟩:=aE he;cases he;exact Al pins s σ H x y v u Q I rx ry ⟨i,j,hx.int_inv,hy.int_inv,JT g,q _ _ (PR.sc (d:= .int _) rfl)⟩
  ·cases he
 ·split at he
  ·rename_i i j;obtain⟨g,he⟩:=aE he;cases he;rw[JR,JR] at g;have g1:=JT g.1.1;have g2:=JT g.1.2;have g3:=JT g.2;exact An pins s σ H x y v u Q I rx ry ⟨i,j,hx.int_inv,hy.int_inv,⟨g1,by lia,g3⟩,q _ _ (PR.sc (d:= .int _) rfl)⟩
  ·cases he
 ·cases he
noncomputable def rC (K:Frag) (o:CmpOp):R2:=λx y H Q=>∃d e z,RV K N0 H x d/\RV K N0 H y e/\ck o d e= .ok z/\Q (.bl z) H
theorem gX {pins:List (Addr×Obj)} {s:Shared} {σ:L2.St} {H:Hp} {K:Frag} (I:Inv X pins σ H s) (hu:X.A.units + 150 < cLine) {xs:List V} {ds:List Dt} {its:List Value} {x:V} {u:Value} {d:Dt} (r:aq xs its) (g:ag K N0 H xs ds) (rx:RelV x u) (hx:RV K N0 H x d) (p1:pl d=true) (p2:gU ds=true) (hd:iJ ds<=100):
  ∃e:Value->Bool,(∀y,y∈its.toArray->EqAt X.A.in1 s y u (e y))/\its.toArray.any e=inD d ds:=by
 classical
 let e:Value->Bool:=λy=>decide (∃(j:Nat) (d':Dt),its[j]?=some y/\ds[j]?=some d'/\bt d' d=true)
 have key:∀(j:Nat) (y:Value) (d':Dt),its[j]?=some y->ds[j]?=some d'->e y=bt d' d:=λj y d' h1 h2=>by
  rw[Bool.eq_iff_iff];constructor
  ·intro h;obtain⟨j',Jx,k1,k2,k3⟩:=JT h;have hj:j < xs.length:=by rw[r.length];exact(JU.mp h1).1
   have pN:j' < xs.length:=by rw[r.length];exact(JU.mp k1).1
   obtain⟨u1,a1,a2⟩:=r.get (i:=j) (x:=xs[j]) (by simp[hj]);obtain⟨u2,b1,b2⟩:=r.get (i:=j') (x:=xs[j']) (by simp[pN]);rw[h1] at a1;cases a1;rw[k1] at b1;cases b1;have ex:=RelV.inj a2 b2;obtain⟨d1,c1,c2⟩:=g.get (i:=j) (x:=xs[j]) (by simp[hj]);obtain⟨d2,e1,e2⟩:=g.get (i:=j') (x:=xs[j']) (by simp[pN]);rw[h2] at c1;cases c1;rw[k2] at e1;cases e1;rw[<-ex] at e2;rw[RV.inj c2 e2 (cU p2 h2) (cU p2 k2)];exact k3
  ·intro h;exact Kk ⟨j,d',h1,h2,h⟩
 refine⟨e,λy hy=>?_,?_⟩
 ·obtain⟨j,hj⟩:=List.mem_iff_getElem?.mp (by simpa using hy:y∈its);have G9:j < xs.length:=by rw[r.length];exact(JU.mp hj).1
  obtain⟨d',h1,h2⟩:=g.get (i:=j) (x:=xs[j]) (by simp[G9]);obtain⟨u1,a1,a2⟩:=r.get (i:=j) (x:=xs[j]) (by simp[G9]);rw[hj] at a1;cases a1;rw[key j y d' hj h1];exact ya I.hok 100 d' d xs[j] x y u X.A.in1 (J1 (iI h1) hd) (cU p2 h1) p1 (by show X.A.units + 1 + 100 < cLine;lia) h2 hx a2 rx
 ·rw[List.any_toArray];unfold inD;have hlen:its.length=ds.length:=by rw[<-r.length,g.length]
  clear_value e
  clear r g p2 hd
  induction its generalizing ds with
  | nil=>
   cases ds with
   | nil=>rfl
   | cons=>simp at hlen
  | cons y ys ih=>
   cases ds with
   | nil=>simp at hlen
   | cons d' qP=>rw[List.any_cons,List.any_cons,key 0 y d' rfl rfl,ih (λj y d' h1 h2=>key (j + 1) y d' (by simpa using h1) (by simpa using h2)) (by simpa using hlen)]
theorem uq (o:CmpOp) (hu:X.A.units + 150 < cLine):jo X (compareOp o) (rC X.K o):=by
 intro pins s σ H x y v u Q I rx ry h;obtain⟨d,e,z,hx,hy,he,q⟩:=h;unfold ck at he;split at he
 ·obtain⟨g,he⟩:=aE he;cases he;unfold jz at g;rw[JR,JR] at g;exact C7 I.hok 100 d e x y v u X.A (Nat.le_succ_of_le (JT g.2)) g.1.1 g.1.2 (by lia) hx hy rx ry X.prog X.w X.xe (EP X pins σ Q) ⟨.bl _,H,I,rfl,q⟩
 ·obtain⟨g,he⟩:=aE he;cases he;unfold jz at g;rw[JR,JR] at g;exact xB I.hok 100 d e x y v u X.A (Nat.le_succ_of_le (JT g.2)) g.1.1 g.1.2 (by lia) hx hy rx ry X.prog X.w X.xe (EP X pins σ Q) ⟨.bl _,H,I,rfl,q⟩
 ·rename_i i j;cases he;exact CW pins s σ H x y v u Q I rx ry ⟨i,j,hx.int_inv,hy.int_inv,q⟩
 ·rename_i i j;cases he;exact CV pins s σ H x y v u Q I rx ry ⟨i,j,hx.int_inv,hy.int_inv,q⟩
 ·rename_i i j;cases he;exact CU pins s σ H x y v u Q I rx ry ⟨i,j,hx.int_inv,hy.int_inv,q⟩
 ·rename_i i j;cases he;exact CT pins s σ H x y v u Q I rx ry ⟨i,j,hx.int_inv,hy.int_inv,q⟩
 ·obtain⟨g,he⟩:=aE he;cases he;rw[JR,JR] at g;obtain⟨a,xs,rfl,h1,_,h2⟩:=hy.lst_inv;cases ry;obtain⟨its,r,t⟩:=aA I.hok h1;obtain⟨e,k1,k2⟩:=gX I hu r h2 rx hx g.1.1 g.1.2 (JT g.2);exact in_listAt e t k1 ⟨.bl _,H,I,by rw[k2];rfl,q⟩
 ·obtain⟨g,he⟩:=aE he;cases he;rw[JR,JR] at g;obtain⟨a,xs,rfl,h1,h2⟩:=hy.ae;cases ry;obtain⟨its,r,t⟩:=Mx.au I.hok h1;obtain⟨e,k1,k2⟩:=gX I hu r h2 rx hx g.1.1 g.1.2 (JT g.2);exact in_tupleAt e t k1 ⟨.bl _,H,I,by rw[k2];rfl,q⟩
 ·obtain⟨g,he⟩:=aE he;cases he;rw[JR,JR] at g;obtain⟨a,xs,rfl,h1,_,h2⟩:=hy.lst_inv;cases ry;obtain⟨its,r,t⟩:=aA I.hok h1;obtain⟨e,k1,k2⟩:=gX I hu r h2 rx hx g.1.1 g.1.2 (JT g.2);exact notIn_listAt e t k1 ⟨.bl _,H,I,by rw[k2];rfl,q⟩
 ·obtain⟨g,he⟩:=aE he;cases he;rw[JR,JR] at g;obtain⟨a,xs,rfl,h1,h2⟩:=hy.ae;cases ry;obtain⟨its,r,t⟩:=Mx.au I.hok h1;obtain⟨e,k1,k2⟩:=gX I hu r h2 rx hx g.1.1 g.1.2 (JT g.2);exact notIn_tupleAt e t k1 ⟨.bl _,H,I,by rw[k2];rfl,q⟩
 ·cases he
theorem nI {ds:List Dt} {i:Int} {d:Dt} (h:vN ds i= .ok d):lM ds i=some d:=by
 unfold vN at h;split at h
 ·cases h;assumption
 ·cases h
theorem gY {K:Frag} {A:Addr->Prop} {H:Hp} {xs:List V} {ds:List Dt} {i:Int} {d:Dt} (g:ag K A H xs ds) (h:lM ds i=some d):∃v,lM xs i=some v/\RV K A H v d:=by
 unfold lM at h ⊢;rw[g.length];cases e:t7 ds.length i with
 | none=>rw[e] at h;cases h
 | some j=>rw[e] at h;obtain⟨v,h1,h2⟩:=g.getD (i:=j) h;exact⟨v,h1,h2⟩
noncomputable def rX (K:Frag):R2:=λx y H Q=>∃d e z,RV K N0 H x d/\RV K N0 H y e/\cQ d e= .ok z/\∀v,PR K false [x,y] [d,e] H z v H->Q v H
theorem zU:BG X (rX X.K):=by
 intro value slice pins s σ H x y v u Q I rx ry h hs;obtain⟨d,e,z,hx,hy,he,q⟩:=h;unfold cQ at he;split at he
 ·rename_i ds i;obtain⟨a,xs,rfl,h1,_,h2⟩:=hx.lst_inv;have l7:=nI he;obtain⟨w,k1,k2⟩:=gY h2 l7;refine pY value slice pins s σ H _ y v u Q I rx ry ⟨a,xs,i,w,rfl,hy.int_inv,cY.of h1,k1,q w ⟨a8.refl _,λA _ q'=>?_,λz=>by cases z⟩⟩ hs;obtain⟨w',m1,m2⟩:=gY (dC.aA q'.1 h1) l7;rw[k1] at m1;cases m1;exact m2
 ·rename_i ds i;obtain⟨a,xs,rfl,h1,h2⟩:=hx.ae;have l7:=nI he;obtain⟨w,k1,k2⟩:=gY h2 l7;refine zW value slice pins s σ H _ y v u Q I rx ry ⟨a,xs,i,w,rfl,hy.int_inv,de.of h1,k1,q w ⟨a8.refl _,λA _ q'=>?_,λz=>by cases z⟩⟩ hs;obtain⟨w',m1,m2⟩:=gY (dC.au q'.1 h1) l7;rw[k1] at m1;cases m1;exact m2
 ·rename_i ns i;obtain⟨a,rfl,h1⟩:=hx.gu;have l7:=nI he;have e1:lM ((ns.map V.int)) i=some (ny z)/\lH z=true:=by
   unfold lM at l7 ⊢;rw[JZ] at l7 ⊢;cases e:t7 ns.length i with
   | none=>rw[e] at l7;cases l7
   | some j=>
    rw[e] at l7;simp only[Option.bind_some,Ka] at l7 ⊢;cases en:ns[j]? with
    | none=>rw[en] at l7;cases l7
    | some k=>rw[en] at l7;simp at l7;subst l7;exact⟨rfl,rfl⟩
  exact pY value slice pins s σ H _ y v u Q I rx ry ⟨a,_,i,_,rfl,hy.int_inv,h1,e1.1,q _ (PR.sc e1.2)⟩ hs
 ·rename_i w i;obtain⟨g,he⟩:=aE he;split at he
  ·rename_i c hc;cases he;exact zV value slice pins s σ H _ y v u Q I rx ry ⟨w,i,c,hx.str_inv,hy.int_inv,J1 (JT g) bH,hc,q _ (PR.sc (d:= .str _) rfl)⟩ hs
  ·cases he
 ·cases he
noncomputable def rS (K:Frag):V->Option Int->Option Int->Hp->VK->Prop:=λx lo hi H Q=>∃d z,RV K N0 H x d/\gv d lo hi= .ok z/\∀v H',PR K true [x] [d] H z v H'->Q v H'
theorem ag.cut {K:Frag} {A:Addr->Prop} {H:Hp} {xs:List V} {ds:List Dt} {lo hi:Option Int} (g:ag K A H xs ds):ag K A H (jy xs lo hi) (cutD ds lo hi):=by unfold jy cutD;rw[g.length];exact(g.drop _).take _
theorem nR {xs:List V} {lo hi:Option Int} (h:HT.bA xs.length 0 lo=0/\HT.bA xs.length xs.length hi=xs.length):jy xs lo hi=xs:=by unfold jy;rw[h.1,h.2];simp
theorem ll:Bn X (λx lo hi H Q=>∃a xs,x= .ref a/\H a=some (.tup xs)/\(HT.bA xs.length 0 lo=0/\HT.bA xs.length xs.length hi=xs.length)/\Q (.ref a) H):=by
 intro pins s σ H x v vl vu lo hi sl Q I rx hs pl pu h;obtain⟨a,xs,rfl,hx,hw,q⟩:=h;cases rx;obtain⟨its,r,ht,hz⟩:=I.tuple (de.of hx);have hlen:its.toArray.size=xs.length:=by rw[JS];exact r.length.symm
 refine⟨"tuple",_,PyProof.Rows.slot_tuple_getitem.lookup,ht.typeIs,?_⟩;refine HT.eC ht hs pl pu (by rw[hlen];exact hw) ⟨.ref a,H,I,rfl,q⟩ (by rw[hlen];exact hz)
theorem fH {K:Frag} {A:Addr->Prop} {H:Hp}:∀{ns:List Int},ag K A H (ns.map V.int) (ns.map Dt.int)
 | []=>ag.nil
 | _::_=>ag.cons RV.b8 fH
theorem uS:Bn X (rS X.K):=by
 intro pins s σ H x v vl vu lo hi sl Q I rx hs pl pu h;obtain⟨d,z,hx,he,q⟩:=h;unfold gv at he;split at he
 ·cases he;obtain⟨a,xs,rfl,h1,_,h2⟩:=hx.lst_inv;exact qq pins s σ H _ v vl vu lo hi sl Q I rx hs pl pu ⟨a,xs,rfl,cY.of h1,λp hp=>q _ _ (PR.k8 hp λA w=>(dC.aA w.1 h1).cut)⟩
 ·cases he;obtain⟨a,rfl,h1⟩:=hx.gu;exact qq pins s σ H _ v vl vu lo hi sl Q I rx hs pl pu ⟨a,_,rfl,h1,λp hp=>q _ _ (PR.k8 hp λA w=>ag.cut fH)⟩
 ·cases he;obtain⟨a,xs,rfl,h1,h2⟩:=hx.ae;by_cases hw:HT.bA xs.length 0 lo=0/\HT.bA xs.length xs.length hi=xs.length
  ·refine ll pins s σ H _ v vl vu lo hi sl Q I rx hs pl pu ⟨a,xs,rfl,h1,hw,q _ _ (PR.p6 h1 λA w=>?_)⟩;have:=(dC.au w.1 h1).cut (lo:=lo) (hi:=hi);rw[nR hw] at this;exact this
  ·exact A5 pins s σ H _ v vl vu lo hi sl Q I rx hs pl pu ⟨a,xs,rfl,de.of h1,hw,λp hp=>q _ _ (PR.wW hp λA w=>(dC.au w.1 h1).cut)⟩
 ·obtain⟨g,he⟩:=aE he;cases he;exact Mx.A4 pins s σ H _ v vl vu lo hi sl Q I rx hs pl pu ⟨_,hx.str_inv,J1 (JT g) bH,q _ _ (PR.sc (d:= .str _) rfl)⟩
 ·cases he
theorem eM:∀{l l':List Mx.D},l.Perm l'->(l.Pairwise λa b=>Mx.D.lt b a=false)->(l'.Pairwise λa b=>Mx.D.lt b a=false)->l=l'
 | [],l',p,_,_=>(List.nil_perm.mp p).symm
 | a::t,l',p,h1,h2=>by
  cases l' with
  | nil=>exact absurd p.length_eq (by simp)
  | cons b t'=>
   rw[List.pairwise_cons] at h1 h2;have gN:a=b:=by
    have ha:a∈b::t':=p.mem_iff.mp JX;have hb:b∈a::t:=p.mem_iff.mpr JX;rcases J3.mp ha with e | ha
    ·exact e
    rcases J3.mp hb with e | hb
    ·exact e.symm
    exact Mx.D.fL a b (h2.1 a ha) (h1.1 b hb)
   subst gN;rw[eM (List.perm_cons a |>.mp p) h1.2 h2.2]
theorem jf (ms:List Mx.D):(cg ms).Perm ms/\(cg ms).Pairwise λa b=>Mx.D.lt b a=false:=by
 unfold cg;refine⟨List.mergeSort_perm ms Bw,?_⟩;have h:=List.pairwise_mergeSort (le:=Bw) (λa b c h1 h2=>by
  unfold Bw at *;simp only[Bool.not_eq_true'] at *;cases h3:Mx.D.lt c a with
  | false=>rfl
  | true=>
   rcases Mx.BS.negTrans c b a h3 with h | h
   ·have h:Mx.D.lt c b=true:=h;rw[h2] at h;cases h
   ·have h:Mx.D.lt b a=true:=h;rw[h1] at h;cases h) (λa b=>by
  unfold Bw;cases h:Mx.D.lt b a with
  | false=>rfl
  | true=>
   cases h':Mx.D.lt a b with
   | false=>rfl
   | true=>have:=Mx.D.lt_trans a b a h' h;rw[Mx.D.lt_irrefl] at this;cases this) ms
 exact h.imp λq=>by unfold Bw at q;simpa using q
theorem mU {ms es:List Mx.D} (h:Mx.fj ms es):es=cg ms:=eM (h.1.trans (jf ms).1.symm) h.2 (jf ms).2
mutual
theorem qb:∀{d e:Mx.D},gR d e=true->Mx.D.dH d e
 | .int _,.int _,_=>by unfold Mx.D.dH;trivial
 | .str _,.str _,_=>by unfold Mx.D.dH;trivial
 | .tup a,.tup b,h=>by unfold Mx.D.dH;exact j0 (by simpa [gR] using h)
 | .int _,.str _,h=>by simp[gR] at h
 | .int _,.tup _,h=>by simp[gR] at h
 | .str _,.int _,h=>by simp[gR] at h
 | .str _,.tup _,h=>by simp[gR] at h
 | .tup _,.int _,h=>by simp[gR] at h
 | .tup _,.str _,h=>by simp[gR] at h
theorem j0:∀{d e:List Mx.D},fK d e=true->Mx.D.eK d e
 | [],_,_=>by unfold Mx.D.eK;trivial
 | _::_,[],_=>by unfold Mx.D.eK;trivial
 | x::xs,y::ys,h=>by simp only[fK,JR] at h;unfold Mx.D.eK;exact⟨qb h.1,j0 h.2⟩
end
theorem zX {k:Mx.SK} {d:Mx.D} (h:CD k d=true):k.ok d:=by
 unfold CD at h;split at h
 ·have e:=Ke h;subst e;exact⟨_,_,rfl⟩
 ·have e:=Ke h;subst e;exact⟨_,_,rfl⟩
 ·have e:=Ke h;subst e;exact⟨_,_,rfl⟩
 ·have e:=Ke h;subst e;exact⟨_,rfl⟩
 ·have e:=Ke h;subst e;exact⟨_,rfl⟩
 ·cases h
theorem pA {ms:List Mx.D} (h:fu ms=true):Mx.fg ms:=by
 unfold fu at h;rw[JR,Kv] at h;obtain⟨h1,h2⟩:=h;refine⟨JT h1,λh3=>?_⟩;rcases h2 with h2 | h2
 ·have:=JT h2
  lia
 ·rw[JR,JR] at h2;obtain⟨⟨h4,h5⟩,h6⟩:=h2;refine⟨JT h4,?_,λd hd e he=>qb (Kr.mp (Kr.mp h6 d hd) e he)⟩;obtain⟨k,_,hk⟩:=List.any_eq_true.mp h5;exact⟨k,λd hd=>zX (Kr.mp hk d hd)⟩
end
end Rx
end
section
namespace Rx
open PySem PySem.W PySem.Spec PyProof.Rows L2 PySem.SeqAt
section
variable {X:Cx}
noncomputable def Bo:BI->Value
 | .len=> .builtin "len" | .min2=> .builtin "min"
 | .sorted=> .builtin "sorted" | .tuple=> .type "tuple" | .list=> .type "list" | _=> .none
noncomputable def AI:BI->Bool
 | .isi _=>false | .revL=>false | .revT=>false | _=>true
theorem bI {K:Frag} {A:Addr->Prop} {H:Hp} {xs:List V} {d:Dt} (h:ag K A H xs [d]):∃x,xs=[x]/\RV K A H x d:=by obtain⟨x,r,rfl,h1,h2⟩:=h.cons_inv;rw[h2.nil_inv];exact⟨x,rfl,h1⟩
theorem xO {K:Frag} {A:Addr->Prop} {H:Hp} {xs:List V} {d e:Dt} (h:ag K A H xs [d,e]):∃x y,xs=[x,y]/\RV K A H x d/\RV K A H y e:=by obtain⟨x,r,rfl,h1,h2⟩:=h.cons_inv;obtain⟨y,rfl,h3⟩:=bI h2;exact⟨x,y,rfl,h1,h3⟩
theorem vP (b:BI) (hr:AI b=true) (hc:X.calm=true) (hu:X.A.units + 150 < cLine):eE X (Bo b) (rP X.K true (dD b)):=by
 intro pins s σ H xs us Q I r h;obtain⟨ds,d,hx,he,q⟩:=h;have Ck:=bH;unfold dD at he;split at he
 ·split at he
  ·obtain⟨g,he⟩:=aE he;cases he;obtain⟨x,rfl,h1⟩:=bI hx;exact ft pins s σ H _ us Q I r ⟨x,_,rfl,by rw[h1.str_inv];exact⟨J1 (JT g) Ck,rfl⟩,q _ _ (PR.sc (d:= .int _) rfl)⟩
  ·cases he;obtain⟨x,rfl,h1⟩:=bI hx;obtain⟨a,ys,rfl,h2,_,h3⟩:=h1.lst_inv;exact ft pins s σ H _ us Q I r ⟨_,_,rfl,.inl ⟨ys,cY.of h2,rfl⟩,by rw[h3.length];exact q _ _ (PR.sc (d:= .int _) rfl)⟩
  ·cases he;obtain⟨x,rfl,h1⟩:=bI hx;obtain⟨a,ys,rfl,h2,h3⟩:=h1.ae;exact ft pins s σ H _ us Q I r ⟨_,_,rfl,.inr ⟨ys,de.of h2,rfl⟩,by rw[h3.length];exact q _ _ (PR.sc (d:= .int _) rfl)⟩
  ·cases he;obtain⟨x,rfl,h1⟩:=bI hx;obtain⟨a,rfl,h2⟩:=h1.gu;exact ft pins s σ H _ us Q I r ⟨_,_,rfl,.inl ⟨_,h2,rfl⟩,by rw[JZ];exact q _ _ (PR.sc (d:= .int _) rfl)⟩
  ·cases he
 ·split at he
  ·cases he;obtain⟨x,y,rfl,h1,h2⟩:=xO hx;exact qJ hc pins s σ H _ us Q I r ⟨_,_,by rw[h1.int_inv,h2.int_inv],q _ _ (PR.sc (d:= .int _) rfl)⟩
  ·cases he
 ·split at he
  ·rename_i d0;split at he
   ·rename_i es tO;split at he
    ·rename_i ms vD;obtain⟨g,he⟩:=aE he;cases he;have cs:=pA g;obtain⟨x,rfl,h1⟩:=bI hx;have E4:=fQ vD;have go:∀{a:Addr} {ys:List V},x= .ref a->(cY X.K H a ys\/de X.K H a ys)->ag X.K N0 H ys es->wpAny (model X.prog X.w) X.A (call (Bo .sorted) us) (EP X pins σ Q) X.xe s:=by intro a ys ex hs g;subst ex;rw[E4] at g;refine Mx.kE hu pins s σ H _ us Q I r ⟨a,ys,ms,rfl,hs,g.pG,cs,λm zs qs hm hz hso=>q _ _ ?_⟩;have e:=mU hso;subst e;exact PR.k8 hm λA _=>ag.lg hz
     unfold itemsOf at tO;split at tO
     ·cases tO;obtain⟨a,ys,e1,h2,_,h3⟩:=h1.lst_inv;exact go e1 (.inl (cY.of h2)) h3
     ·cases tO;obtain⟨a,ys,e1,h2,h3⟩:=h1.ae;exact go e1 (.inr (de.of h2)) h3
     ·cases tO;obtain⟨a,e1,h2⟩:=h1.gu;exact go e1 (.inl h2) fH
     ·cases tO
    ·cases he
   ·cases he
  ·cases he
 ·split at he
  ·cases he;obtain⟨x,rfl,h1⟩:=bI hx;obtain⟨a,ys,rfl,h2,_,h3⟩:=h1.lst_inv;exact eG pins s σ H _ us Q I r ⟨a,ys,rfl,.inl ⟨cY.of h2,λl hl=>q _ _ (PR.wW hl λA w=>dC.aA w.1 h2)⟩⟩
  ·cases he;obtain⟨x,rfl,h1⟩:=bI hx;obtain⟨a,ys,rfl,h2,h3⟩:=h1.ae;exact eG pins s σ H _ us Q I r ⟨a,ys,rfl,.inr ⟨de.of h2,q _ _ (PR.p6 h2 λA w=>dC.au w.1 h2)⟩⟩
  ·cases he
 ·split at he
  ·cases he;obtain⟨x,rfl,h1⟩:=bI hx;obtain⟨a,ys,rfl,h2,_,h3⟩:=h1.lst_inv;exact df pins s σ H _ us Q I r ⟨a,ys,rfl,.inl (cY.of h2),λl hl=>q _ _ (PR.k8 hl λA w=>dC.aA w.1 h2)⟩
  ·cases he;obtain⟨x,rfl,h1⟩:=bI hx;obtain⟨a,ys,rfl,h2,h3⟩:=h1.ae;exact df pins s σ H _ us Q I r ⟨a,ys,rfl,.inr (de.of h2),λl hl=>q _ _ (PR.k8 hl λA w=>dC.au w.1 h2)⟩
  ·cases he;obtain⟨x,rfl,h1⟩:=bI hx;obtain⟨a,rfl,h2⟩:=h1.gu;exact df pins s σ H _ us Q I r ⟨a,_,rfl,.inl h2,λl hl=>q _ _ (PR.k8 hl λA w=>fH)⟩
  ·cases he
 ·cases hr
 ·cases hr
 ·cases hr
end
end Rx
end
section
namespace Mx
open PySem PySem.W PySem.Spec PyProof.Rows L2
theorem zc.keep {S it d:Addr} {i n ep:Nat} {h h':Heap} (st:zc S it d i n ep h) (hS:it≠S) (kk:∀b o,b≠S->h.get? b=some o->h'.get? b=some o):zc S it d i n ep h':=by
 rcases st with z | ⟨a,f,k,v,o,z,ha,na,nS⟩
 ·exact .inl (kk _ _ hS z)
 ·exact .inr ⟨a,f,k,v,o,kk _ _ hS z,kk _ _ nS ha,na,nS⟩
theorem bX.at_ {xs:Ent} {ys:List (D×Addr×Value)} (r:bX xs ys):∀{i:Nat} {x:D×Addr×V},xs[i]?=some x->∃y,ys[i]?=some y/\(x.1=y.1/\x.2.1=y.2.1/\RelV x.2.2 y.2.2):=by
 unfold bX at r
 induction r with
 | nil=>intro i x h;cases h
 | cons h _ ih=>
  intro i x hx;cases i with
  | zero=>cases hx;exact⟨_,rfl,h⟩
  | succ i=>exact ih hx
section
variable {X:Cx} {pins:List (Addr×Obj)} {σ:L2.St} {S it d:Addr} {xs:Ent} {H0:Hp}
noncomputable def iy (xs:Ent) (H:Hp) (ps:List Addr):Prop:=∀(j:Nat) (x:D×Addr×V) (p:Addr),xs[j]?=some x->ps[j]?=some p->H p=some (.tup [.ref x.2.1,x.2.2])
theorem sT {A:Around} {R:Result->Shared->Prop} {res:Value} {od:Obj} {es:Array DictEntry} {ep:Nat} {ys:List (D×Addr×Value)} (hh:A.in1.handled=none) (Bs:it≠S) (eQ:xs.length<=sizeLine) (D7:H0 S=none)
  (kT:od.data= .dict es ep) (tO:es.toList=ys.map (entryOfKey (cq X.prog X.w))) (er:bX xs ys):
  ∀(k i:Nat) (s:Shared) (H:Hp) (ps:List Addr),xs.length - i=k->i<=xs.length->Inv X pins σ H s->dQ X pins H it->(∃u,H d=some u)->d≠S->s.heap.get? d=some od->zc S it d i es.size ep s.heap->
   H S=some (.lst (ps.map V.ref))->ps.length=i->iy xs H ps->a8 H0 H->
   (∀s' H' ps',Inv X pins σ H' s'->H' S=some (.lst (ps'.map V.ref))->ps'.length=xs.length->iy xs H' ps'->a8 H0 H'->R (.ok (.ret res)) s')->
   codeAny (model X.prog X.w) A (.builtin "list.extend.loop" ⟨[.ref S,.ref it,res],[]⟩) R s:=by
 have jW:es.size=xs.length:=by rw[er.length,<-Kb,tO,JZ]
 intro k
 induction k with
 | zero=>
  intro i s H ps hk hi I hf Cr ndS me st hS FG hz jq hR;have Fx:i=es.size:=by lia
  subst Fx;refine codeAny_builtin PySem.F.entry_extend_loop ?_;rw[Around.under_plainId PySem.F.plain_extend_loop _];refine JN (m:=pyNext (.ref it)) (zd hh st me kT λh' kk=>JQ (hR _ H ps ?_ hS (by lia) hz jq));have gS:∀b u,H b=some u->b≠it:=λb u e z=>by subst z;rw[hf.1] at e;cases e
  have gQ:∀b o,b∉[it]->s.heap.get? b=some o->h'.get? b=some o:=λb o hb e=>kk b o (λz=>hb (by simp[z])) e
  refine I.step (g':=s.gens) (d':=s.drawn) (t':=s.toks) (h':=h') (ch:=[it]) (λb hb=>by cases Kp.mp hb;exact⟨hf.2.2.2.1,hf.2.1,hf.2.2.2.2.1,hf.2.2.2.2.2⟩) (λb o _ _ hb e _=>gQ b o hb e) (λb o _ _ hb e _=>⟨o.slots,gQ b o hb e⟩)
   (λb o hb e n=>n) (λb o hb e=>⟨o,gQ b o hb e⟩) (λb zs e=>e) (λb o u e=>e) (λb ps e=>⟨#[],by rw[e];simp⟩) (λm hm=>?_) (λb u e=>?_) I.bare
  ·obtain⟨o,cc,zf,ho,rr⟩:=hm;exact⟨o,cc,zf,kk _ o (λz=>hf.2.1 z.symm) ho,rr⟩
  ·refine(I.hok b u e).fX (λc v hc q=>kk c v ?_ q) (λc q=>q) λc zs q=>q
   rcases hc with rfl | hc
   ·exact gS c u e
   ·exact gS c _ hc
 | succ k ih=>
  intro i s H ps hk hi I hf Cr ndS me st hS FG hz jq hR;have bZ:i < xs.length:=by lia
  obtain⟨x,hx⟩:∃x,xs[i]?=some x:=⟨xs[i],by simp[bZ]⟩;obtain⟨y,hy,ry⟩:∃y,ys[i]?=some y/\(x.1=y.1/\x.2.1=y.2.1/\RelV x.2.2 y.2.2):=er.at_ hx;have he:es[i]?=some (entryOfKey (cq X.prog X.w) y):=by rw[entry_at tO,hy];rfl
  obtain⟨_,tZ,nS,rS,Fp⟩:=I.hok S _ hS;refine codeAny_builtin PySem.F.entry_extend_loop ?_;rw[Around.under_plainId PySem.F.plain_extend_loop _];refine JN (m:=pyNext (.ref it)) (vW st Fp me kT he λh' jt hp kk=>?_);have gS:∀b u,H b=some u->b≠it:=λb u e z=>by subst z;rw[hf.1] at e;cases e
  have gQ:∀b o,b∉[it]->s.heap.get? b=some o->h'.get? b=some o:=λb o hb e=>kk b o (λz=>hb (by simp[z])) e
  have lt:∀{b:Addr} {o:Obj},s.heap.get? b=some o->b≠s.heap.objs.size:=λe=>Km (J0 e)
  have gf:H s.heap.objs.size=none:=I.fresh;have G1:S≠s.heap.objs.size:=lt Fp;have I2:Inv X pins σ (upd H s.heap.objs.size (.tup [.ref x.2.1,x.2.2])) {s with heap:=h',toks:=s.toks}:=by
   refine I.step (g':=s.gens) (d':=s.drawn) (ch:=[it]) (λb hb=>by cases Kp.mp hb;exact⟨hf.2.2.2.1,hf.2.1,hf.2.2.2.2.1,hf.2.2.2.2.2⟩) (λb o _ _ hb e _=>gQ b o hb e) (λb o _ _ hb e _=>⟨o.slots,gQ b o hb e⟩)
    (λb o hb e n=>by rw[ah (lt e)];exact n) (λb o hb e=>⟨o,gQ b o hb e⟩) (λb zs e=>by rw[ah (ak e gf)];exact e) (λb o u e=>by rw[ah (ak e gf)];exact e)
    (λb ps e=>⟨#[],by rw[ah (ak e gf),e];simp⟩) (λm hm=>?_) (λb u e=>?_) I.bare
   ·obtain⟨o,cc,zf,ho,rr⟩:=hm;exact⟨o,cc,zf,kk _ o (λz=>hf.2.1 z.symm) ho,rr⟩
   ·by_cases hb:b=s.heap.objs.size
    ·subst hb;rw[ar] at e;cases e;exact⟨by show 2<=sizeLine;decide,[.ref y.2.1,y.2.2],.cons (by rw[ry.2.1];rfl) (.cons ry.2.2 .nil),_,hp,rfl,0,rfl⟩
    ·rw[ah hb] at e;refine(I.hok b u e).fX (λc v hc q=>kk c v ?_ q) (λc q=>by rw[ah (ak q gf)];exact q) λc zs q=>by rw[ah (ak q gf)];exact q
     rcases hc with rfl | hc
     ·exact gS c u e
     ·exact gS c _ hc
  have pL:h'.get? S=some {cls:= .type "list",data:= .seq tZ.toArray nS}:=kk S _ (gS S _ hS) Fp;have JE:tZ.length=i:=by
   have:=rS.length;rw[JZ] at this
   lia
  refine JN (m:=updateSeq S (·.push (.ref s.heap.objs.size))) (wpAny_updateSeq pL rfl (JQ ⟨plainId_quiet PySem.F.plain_extend_loop _,?_⟩) (by simp;lia) (by show (tZ.toArray.push _).size<=sizeLine + 1;rw[Array.size_push];simp;lia));have Ij:upd H s.heap.objs.size (.tup [.ref x.2.1,x.2.2]) S=some (.lst (ps.map V.ref)):=by rw[ah G1];exact hS
  have kS:∀b u,b≠S->h'.get? b=some u->(h'.update S (Obj.mapSeq (·.push (.ref s.heap.objs.size)))).get? b=some u:=λb u hb e=>(Kj _ _ (Ne.symm hb)).trans e
  obtain⟨c,G0⟩:∃c,(h'.update S (Obj.mapSeq (·.push (.ref s.heap.objs.size)))).get? S=some {cls:= .type "list",data:= .seq (tZ.toArray.push (.ref s.heap.objs.size)) c}:=⟨_,get?_update_seq pL λa=>a.push _⟩;have I3:Inv X pins σ (upd (upd H s.heap.objs.size (.tup [.ref x.2.1,x.2.2])) S (.lst ((ps++[s.heap.objs.size]).map V.ref))) {s with heap:=h'.update S (Obj.mapSeq (·.push (.ref s.heap.objs.size))),toks:=s.toks}:=by
   refine I2.write (t':=s.toks) (e:=S) (by rw[Ij];trivial) (.inl rfl) kS ⟨_,G0⟩ ⟨by simp;lia,tZ++[.ref s.heap.objs.size],c,?_,?_⟩
   ·rw[Kz];exact rS.append (.cons rfl .nil)
   ·rw[G0];simp
  have sd:s.heap.objs.size≠it:=λz=>by
   rcases st with q | ⟨_,_,_,_,_,q,_⟩
   ·exact lt q z.symm
   ·exact lt q z.symm
  have old:∀b o,b≠S->H b=some o->upd (upd H s.heap.objs.size (.tup [.ref x.2.1,x.2.2])) S (.lst ((ps++[s.heap.objs.size]).map V.ref)) b=some o:=λb o hb e=>by rw[ah hb,ah (ak e gf)];exact e
  obtain⟨ud,Cr⟩:=Cr;refine ih (i + 1) _ _ (ps++[s.heap.objs.size]) (by lia) (by lia) I3 ⟨by rw[ah Bs,ah (Ne.symm sd)];exact hf.1,hf.2⟩ ⟨ud,old d ud ndS Cr⟩ ndS (kS d _ ndS (kk d _ (gS d _ Cr) me)) (jt.keep Bs λb o hb e=>kS b o hb e) ar (by simp;lia) (λj x' p' h1 h3=>?_)
   (λb o e=>old b o (ak e D7) (jq b o e)) hR
  by_cases hj:j < ps.length
  ·rw[Kw hj] at h3;have q:=hz j x' p' h1 h3;exact old p' _ (λe=>by subst e;rw[hS] at q;cases q) q
  ·rw[Kx (by lia)] at h3;have Iv:j=ps.length:=by
    have:=(JU.mp h3).1;simp at this
    lia
   subst Iv;rw[FG,hx] at h1;cases h1;simp at h3;subst h3;rw[ah (Ne.symm G1)];exact ar
end
theorem pd {M:Model} {A:Around} {α:Type} {E:Value->Shared->Prop} {s:Shared} {m:Sem α} {Q:α->Shared->Prop} (h:wpAny M A m Q E s):wpAny M A m Q E s:=h
section
variable {prog:Program} {w:World} {A:Around} {E:Value->Shared->Prop} {s:Shared}
theorem mn (d:Addr) (hd:(d==sysModules)=false):MeetsIn prog w (Builtin.«dict.items» ⟨[.ref d],[]⟩) (λ_ R s=>s.TypeIs (.ref d) "dict"/\
   R (.ok (.ret (.ref s.heap.objs.size))) {s with heap:=s.heap.push {cls:= .type "dict_items",data:= .fields #[.ref d]}}):=
 .of_wp λA R s ⟨ht,h⟩=>by unfold Builtin.«dict.items» Builtin.Dict.noArgs;refine JN (JN (wpAny_notOrdered_dict ht (JQ (JN (m:=Builtin.Dict.showsAll d) ?_))));unfold Builtin.Dict.showsAll;refine ite_no (by rw[hd];simp) (JQ ?_);refine JN ?_;refine wpAny_newObj_type ?_;exact JQ ⟨_,rfl,h⟩
theorem ou {v d:Addr} {od:Obj} {es:Array DictEntry} {ep:Nat} {Q:Value->Shared->Prop} (hv:s.heap.IsItemsView v d) (me:s.heap.get? d=some od) (kT:od.data= .dict es ep)
  (hQ:∀h',yK h' s.heap.objs.size d 0 es.size ep .none (.bool false) .none .none->(∀b o,s.heap.get? b=some o->h'.get? b=some o)->Q (.ref s.heap.objs.size) {s with heap:=h'}):wpAny (model prog w) A (pyIter (.ref v)) Q E s:=by
 have ty:=hv.typeIs;obtain⟨ov,IH,JD,jA⟩:=hv;refine wpAny_pyIter_slot ty PySem.F.slot_dict_items_iter (wpAny_call_entry PySem.F.slot_dict_items_iter ty PySem.F.entry_dict_items_iter ?_ (PySem.F.args_dict_items_iter_1 _));unfold Builtin.«dict_items.__iter__» Builtin.Dict_items.dictOf Builtin.Dict_items.newIterator;have ow:Builtin.Dict_items.ownsTuple "dict_itemiterator"=true:=by decide
 simp only[ow,if_true];refine JN (JQ (JN (JN (wpAny_field IH jA (x:= .ref d) rfl (JQ (JN (JN (wpAny_dictEntries me kT (JN (wpAny_dictEpoch me kT ?_))))))))));refine wpAny_newObj_type (JQ ⟨_,rfl,"dict_itemiterator",_,⟨_,JY _ rfl,rfl⟩,PySem.F.slot_dict_itemiterator_next.lookup,?_⟩) (by simp[sizeOk,Builtin.Dict_items.ownedTupleFields,sizeLine_eq]);exact hQ _ (JY _ rfl) λb o q=>JP _ q
end
theorem td {H:Hp}:∀{xs:List V} {ds:List D},xs.length=ds.length->(∀(j:Nat) (x:V) (e:D),xs[j]?=some x->ds[j]?=some e->DV H x e)->aC H xs ds
 | [],[],_,_=> .nil
 | [],_::_,h,_=>by cases h
 | _::_,[],h,_=>by cases h
 | x::xs,d::ds,h,f=> .cons (f 0 x d rfl rfl) (td (Nat.succ.inj h) λj y e h1 h2=>f (j + 1) y e h1 h2)
section
variable {X:Cx} {pins:List (Addr×Obj)} {σ:L2.St} {H:Hp} {s:Shared} {v d:Addr} {xs:Ent}
theorem lV {A:Around} {E:Value->Shared->Prop} {Q:List Value->Shared->Prop} (hh:A.handled=none) (I:Inv X pins σ H s) (hv:s.heap.IsItemsView v d) (hd:H d=some (cL X.prog X.w d xs)) (eQ:xs.length<=sizeLine)
  (hQ:∀s' H' ps us,Inv X pins σ H' s'->aq (ps.map V.ref) us->ps.length=xs.length->iy xs H' ps->a8 H H'->Q us s'):wpAny (model X.prog X.w) A (collect (.ref v)) Q E s:=by
 obtain⟨⟨_,ys,er,od,es,ep,me,_,kT,tO⟩,_⟩:=I.hok d _ hd;have Js:v < s.heap.objs.size:=by obtain⟨o,ho,_⟩:=hv;exact J0 ho
 have HG:d < s.heap.objs.size:=J0 me;unfold collect;refine JN (wpAny_runValue (codeAny_builtin PySem.F.entry_proto_collect ?_));rw[Around.under_plainId PySem.F.plain_proto_collect _];refine JN (m:=newList []) (wpAny_newObj_type (JQ ⟨plainId_quiet PySem.F.plain_list_iadd _,codeAny_builtin PySem.F.entry_list_iadd ?_⟩));rw[Around.under_plainId PySem.F.plain_list_iadd _];generalize Cg:s.heap.push {cls:= .type "list",data:= .seq ([]:List Value).toArray}=h1;have k1:∀b o,s.heap.get? b=some o->h1.get? b=some o:=λb o e=>by rw[<-Cg];exact JP _ e
 have z1:h1.objs.size=s.heap.objs.size + 1:=by rw[<-Cg,Kl]
 have t1:h1.get? s.heap.objs.size=some (seqObj "list" #[] 0):=by rw[<-Cg];exact JY _ rfl
 have I1:Inv X pins σ (upd H s.heap.objs.size (.lst ([].map V.ref))) {s with heap:=h1,toks:=s.toks}:=I.laid k1 (JW _) ⟨Nat.zero_le _,[],0,.nil,t1⟩;have tU:h1.IsItemsView v d:=by obtain⟨o,ho,r⟩:=hv;exact⟨o,k1 _ _ ho,r⟩
 have nv:s.heap.objs.size≠v:=Nat.ne_of_gt Js;have nd:d≠s.heap.objs.size:=Km HG;have IM:Builtin.List.listSameRef (.ref s.heap.objs.size) (.ref v)=false:=by simp[Builtin.List.listSameRef,nv]
 refine pd (m:=Builtin.List.listExtendWith (.ref s.heap.objs.size) (.ref v) (.ref s.heap.objs.size)) ?_;unfold Builtin.List.listExtendWith;refine JN (wpAny_typeOf (s:={s with heap:=h1}) (T:="dict_items") tU.typeIs (ite_no (by rw[IM];decide) ?_));refine JN (ou (s:={s with heap:=h1}) tU (k1 _ _ me) kT λh2 ia k2=>?_);dsimp only at ia;have Ik:Shared.TypeIs {s with heap:=h2} (.ref v) "dict_items":=by obtain⟨o,ho,hc,_⟩:=tU;exact⟨o,k2 _ _ ho,hc⟩
 refine JN (wpAny_holding (kdx_hint Ik ?_));have sd:h1.objs.size≠s.heap.objs.size:=by rw[z1];exact Nat.succ_ne_self _
 have D7:H s.heap.objs.size=none:=I.fresh;have I2:Inv X pins σ (upd H s.heap.objs.size (.lst ([].map V.ref))) {s with heap:=h2,toks:=s.toks}:=I1.kept k2;have fit:dQ X pins (upd H s.heap.objs.size (.lst ([].map V.ref))) h1.objs.size:=I1.kQ (JW _) (I1.hok.fresh (JW _));have key:∀(h:Heap) (c:Nat),(∀b o,b≠s.heap.objs.size->h2.get? b=some o->h.get? b=some o)->h.get? s.heap.objs.size=some (seqObj "list" #[] c)->∀R:Result->Shared->Prop,(∀s' H' ps its n,Inv X pins σ H' s'->s'.heap.get? s.heap.objs.size=some (seqObj "list" its n)->aq (ps.map V.ref) its.toList->ps.length=xs.length->iy xs H' ps->a8 H H'->R (.ok (.ret (.ref s.heap.objs.size))) s')->
   codeAny (model X.prog X.w) A (.builtin "list.extend.loop" ⟨[.ref s.heap.objs.size,.ref h1.objs.size,.ref s.heap.objs.size],[]⟩) R {s with heap:=h}:=λh c kh hS R hR=>by
  have I3:=I2.write (x:=s.heap.objs.size) (e:=s.heap.objs.size) (t':=s.toks) (h':=h) (o:= .lst ([].map V.ref)) (by rw[ar];trivial) (.inl rfl) (λb o hb e=>kh b o hb e) ⟨_,hS⟩ ⟨Nat.zero_le _,[],c,.nil,hS⟩;rw[xQ] at I3;refine sT (od:=od) (es:=es) (ep:=ep) (ys:=ys) (H0:=H) hh sd eQ D7 kT tO er xs.length 0 _ _ [] (Nat.sub_zero _) (Nat.zero_le _) I3 fit ⟨_,by rw[ah nd];exact hd⟩ nd (kh d _ nd (k2 _ _ (k1 _ _ me))) (.inl (kh _ _ sd ia)) ar rfl
   (λj x p _ q=>by simp at q) (λb o e=>by rw[ah (ak e D7)];exact e) λs' H' ps hI pL hl hD jq=>?_
  obtain⟨_,its,n,rv,ho⟩:=hI.hok _ _ pL;exact hR s' H' ps its.toArray n hI ho rv hl hD jq
 have fin:∀(s':Shared) (H':Hp) (ps:List Addr) (its:Array Value) (n:Nat),Inv X pins σ H' s'->s'.heap.get? s.heap.objs.size=some (seqObj "list" its n)->aq (ps.map V.ref) its.toList->ps.length=xs.length->iy xs H' ps->a8 H H'->Q its.toList s':=λs' H' ps its n hI _ rv hl hD jq=>hQ s' H' ps _ hI rv hl hD jq
 refine wpAny_ite_split (λ_=>?_) (λ_=>JQ ⟨plainId_quiet PySem.F.plain_extend_loop _,key h2 0 (λb o _ e=>e) (k2 _ _ t1) _ ?_⟩)
 ·refine JN (wpAny_rule (JN ?_));unfold Builtin.List.listTouch;have t2:h2.get? s.heap.objs.size=some (seqObj "list" #[] 0):=k2 _ _ t1;refine JN (listUpdate_at (s:={s with heap:=h2}) t2 rfl ?_ (by decide) (by decide));obtain⟨c3,t3⟩:∃c,(h2.update s.heap.objs.size (Obj.mapSeq λx=>x.push .none)).get? s.heap.objs.size=some (seqObj "list" #[.none] c):=⟨_,get?_update_seq t2 λx=>x.push .none⟩;refine listUpdate_at (s:={s with heap:=h2.update s.heap.objs.size (Obj.mapSeq λx=>x.push .none)}) t3 rfl ?_ (by decide) (by decide);obtain⟨c4,t4⟩:∃c,((h2.update s.heap.objs.size (Obj.mapSeq λx=>x.push .none)).update s.heap.objs.size (Obj.mapSeq λx=>x.pop)).get? s.heap.objs.size=some (seqObj "list" #[] c):=⟨_,get?_update_seq t3 λx=>x.pop⟩;refine JQ ⟨plainId_quiet PySem.F.plain_extend_loop _,key _ c4 (λb o hb e=>(Kj _ _ (Ne.symm hb)).trans ((Kj _ _ (Ne.symm hb)).trans e)) t4 _ ?_⟩;intro s' H' ps its n hI ho rv hl hD jq;exact JN (m:=load s.heap.objs.size) (wpAny_load ho (JQ (fin s' H' ps its n hI ho rv hl hD jq)))
 ·intro s' H' ps its n hI ho rv hl hD jq;refine JN (m:=load s.heap.objs.size) (wpAny_load ho (JQ (fin s' H' ps its n hI ho rv hl hD jq)))
theorem lr (hu:X.A.units + 150 < cLine) (hc:X.calm=true) {Q:VK} {ds:List D} (I:Inv X pins σ H s) (hv:s.heap.IsItemsView v d) (hd:H d=some (cL X.prog X.w d xs)) (hk:cX H xs) (hlen:ds.length=xs.length)
  (zC:∀(j:Nat) (x:D×Addr×V) (e:D),xs[j]?=some x->ds[j]?=some e->aC H [.ref x.2.1,x.2.2] [x.1,e]) (tM:fg ((xs.zip ds).map λz=> .tup [z.1.1,z.2]))
  (q:∀H' l zs es,a8 H H'->H' l=none->aC H' zs es->fj ((xs.zip ds).map λz=> .tup [z.1.1,z.2]) es->Q (.ref l) (upd H' l (.lst zs))):wpAny (model X.prog X.w) X.A (call (.builtin "sorted") [.ref v]) (EP X pins σ Q) X.xe s:=by
 refine Calls.call_function_entry kind_sorted plain_sorted entry_sorted (args_sorted1 _) ?_;unfold Builtin.«sorted»;refine JN (m:=checkCount "sorted" 1 1 _) (JQ (JN (lV (I.ok.hd hc) I hv hd hk.len λs' H' ps us I1 rv hl hD jq=>?_)));have jA:aC H' (ps.map V.ref) ((xs.zip ds).map λz=> .tup [z.1.1,z.2]):=by
  refine td (by simp[hl,hlen]) λj a e h1 h2=>?_
  rw[Ka] at h1 h2;obtain⟨p,hp,rfl⟩:=J6.mp h1;obtain⟨z,hz,rfl⟩:=J6.mp h2;obtain⟨g1,g2⟩:=List.getElem?_zip_eq_some.mp hz;exact DV.tup (hD j z.1 p g1 hp) ((zC j z.1 z.2 g1 g2).mono λa xs e=>jq _ _ e)
 exact kc (A:=X.A.in1) (by show X.A.units + 1 + 148 < cLine;lia) I1 rv jA tM λl zs es s2 h1 hz hso I2=>⟨_,rfl,.ref l,_,I2,rfl,q H' l zs es jq h1 hz hso⟩
end
end Mx
end
section
namespace Rx
open PySem PySem.W PySem.Spec PyProof.Rows L2 PySem.SeqAt
structure Fm where
 K:Frag
 H0:Hp
 d0:Option Addr
 Ek:Nat->Prop
 P:Program
 w:World
structure Ow where
 W:Addr->Prop
 A:Addr->Prop
 dr:Option Addr
noncomputable def Ow.wd (o:Ow):Addr->Prop:=λa=>o.W a\/o.dr=some a
noncomputable def Ow.d (o:Ow):Addr->Prop:=λa=>o.dr=some a
noncomputable def OV (Φ:Fm) (o:Ow) (H:Hp) (v:V):Dt->Prop
 | .lst ds=>∃a xs,v= .ref a/\H a=some (.lst xs)/\o.A a/\¬o.W a/\o.dr≠some a/\Φ.H0 a=none/\ag Φ.K o.A H xs ds
 | .bK ks vs=>∃(a:Addr) (xs:Mx.Ent),v= .ref a/\H a=some (Mx.cL Φ.P Φ.w a xs)/\o.A a/\¬o.W a/\o.dr≠some a/\Φ.H0 a=none/\Mx.cX H xs/\ks=xs.map (λx=>ofD x.1)/\ag Φ.K o.A H (xs.map (·.2.2)) vs
 | d=>RV Φ.K o.A H v d
structure ER (Φ:Fm) (Γ:Gm) (o:Ow) (ρ:aj) (S:Sx) (σ:L2.St) (H:Hp):Prop where
 len:σ.length=ρ.length
 wa:∀a,o.W a->o.A a
 da:∀a,o.dr=some a->o.A a
 al:∀a,o.A a->∃x,H a=some x
 val:∀(i:Nat) (d:Dt),ρ[i]?=some (some d)->∃v,σ[i]?=some (some v)/\(if cn Γ i=true then OV Φ o H v d else RV Φ.K o.A H v d)
 dk:∀(i:Nat) (ks vs:List Dt),ρ[i]?=some (some (.bK ks vs))->Γ.κ=some i
 inj:∀(i j:Nat) (a:Addr) (d e:List Dt),cn Γ i=true->cn Γ j=true->ρ[i]?=some (some (.lst d))->ρ[j]?=some (some (.lst e))->σ[i]?=some (some (.ref a))->σ[j]?=some (some (.ref a))->i=j
 drw:∀a,o.dr=some a->∃ns:List Int,S=some ns/\H a=some (.lst (ns.map V.int))
 drn:o.dr=none->S=none
 drs:∀(i:Nat) (a:Addr),Γ.δ=some i->o.dr=some a->σ[i]?=some (some (.ref a))
 dr0:∀a,o.dr=some a->Φ.d0=some a\/Φ.H0 a=none
 ent:aF (λb=>Φ.d0=some b) Φ.H0 H
section
variable {Φ:Fm} {Γ:Gm} {o:Ow} {ρ:aj} {S S':Sx} {σ:L2.St} {H H':Hp}
noncomputable def nD:Dt->Bool
 | .bK _ _=>false
 | _=>true
theorem OV.val {v:V} {d:Dt} (h:OV Φ o H v d) (nd:nD d=true) (wa:∀a,o.W a->o.A a) (da:∀a,o.dr=some a->o.A a):RV Φ.K o.wd H v d:=by
 have hw:∀b,o.wd b->o.A b:=λb z=>z.elim (wa b) (da b)
 cases d with
 | lst ds=>obtain⟨a,xs,rfl,h1,h2,h3,h4,_,h5⟩:=h;exact RV.du h1 (λz=>z.elim h3 h4) (h5.weak hw)
 | bK=>cases nd
 | _=>exact RV.weak h hw
theorem OV.one {v:V} {d:Dt} (h:OV Φ o H v d) (nd:nD d=true):dC Φ.K o.A H v d:=by
 cases d with
 | lst ds=>obtain⟨a,xs,rfl,h1,h2,h3,h4,_,h5⟩:=h;exact⟨a,xs,rfl,h1,h5⟩
 | bK=>cases nd
 | _=>exact h
theorem cX.tups {xs:Mx.Ent} (h:Mx.cX H xs) (t:Mx.nB H H'):Mx.cX H' xs:=⟨λx m=>⟨(h.key x m).1.mono t,(h.key x m).2⟩,h.nd,h.len⟩
theorem OV.ext {v:V} {d:Dt} (h:OV Φ o H v d) (da:∀a,o.dr=some a->o.A a) (e:aF o.d H H'):OV Φ o H' v d:=by
 cases d with
 | lst ds=>obtain⟨a,xs,rfl,h1,h2,h3,h4,h6,h5⟩:=h;exact⟨a,xs,rfl,e.kp _ _ h1 h4,h2,h3,h4,h6,h5.mono e da λ_ z=>z⟩
 | bK=>obtain⟨a,xs,rfl,h1,h2,h3,h4,h6,h7,h8,h5⟩:=h;exact⟨a,xs,rfl,e.kp _ _ h1 h4,h2,h3,h4,h6,cX.tups h7 e.tp,h8,h5.mono e da λ_ z=>z⟩
 | _=>exact RV.mono e da (λ_ z=>z) h
theorem Dk.set {κ:Option Nat} {i:Nat} {d:Dt} (h:∀(i:Nat) (ks vs:List Dt),ρ[i]?=some (some (.bK ks vs))->κ=some i) (nd:nD d=true):∀(j:Nat) (ks vs:List Dt),(ρ.set i (some d))[j]?=some (some (.bK ks vs))->κ=some j:=λj ks vs hj=>by
 by_cases e:j=i
 ·subst e;rw[List.getElem?_set] at hj;simp only[if_true] at hj;split at hj
  ·cases hj;cases nd
  ·cases hj
 ·rw[J8 (Ne.symm e)] at hj;exact h j ks vs hj
theorem RV.nd {K:Frag} {A:Addr->Prop} {v:V} {d:Dt} (h:RV K A H v d):nD d=true:=by
 cases d with
 | bK=>unfold RV at h;exact h.elim
 | _=>rfl
theorem ER.nd (er:ER Φ Γ o ρ S σ H) {i:Nat} {d:Dt} (h:ρ[i]?=some (some d)) (n:Γ.κ≠some i):nD d=true:=by
 cases d with
 | bK ks vs=>exact absurd (er.dk i ks vs h) n
 | _=>rfl
theorem ER.d8 (er:ER Φ Γ o ρ S σ H):∀b,o.wd b->o.A b:=λb z=>z.elim (er.wa b) (er.da b)
theorem ER.sk (er:ER Φ Γ o ρ S σ H):∀b,o.wd b->∃x,H b=some x:=λb z=>er.al b (er.d8 b z)
theorem aF.al {X:Addr->Prop} (e:aF X H H') {b:Addr} {x:HO} (h:H b=some x) (hx:X b->∃y,H' b=some y):∃y,H' b=some y:=by
 by_cases z:X b
 ·exact hx z
 ·exact⟨x,e.kp _ _ h z⟩
theorem ER.step (er:ER Φ Γ o ρ S σ H) (e:aF o.d H H') (hd:∀a,o.dr=some a->∃ns:List Int,S'=some ns/\H' a=some (.lst (ns.map V.int))) (hn:o.dr=none->S'=none):ER Φ Γ o ρ S' σ H' where
 len:=er.len
 wa:=er.wa
 da:=er.da
 al:=λa ha=>by obtain⟨x,hx⟩:=er.al a ha;exact e.al hx λz=>by obtain⟨ns,_,h⟩:=hd a z;exact⟨_,h⟩
 val:=λi d h=>by
  obtain⟨v,h1,h2⟩:=er.val i d h;refine⟨v,h1,?_⟩;by_cases m:cn Γ i=true
  ·rw[if_pos m] at h2 ⊢;exact h2.ext er.da e
  ·rw[if_neg m] at h2 ⊢;exact h2.mono e er.da λ_ z=>z
 dk:=er.dk
 inj:=er.inj
 drw:=hd
 drn:=hn
 drs:=er.drs
 dr0:=er.dr0
 ent:=⟨λb x h n=>by
   refine e.kp _ _ (er.ent.kp b x h n) λz=>?_
   rcases er.dr0 b z with q | q
   ·exact n q
   ·(rw[h] at q;cases q),λb xs h=>e.tp _ _ (er.ent.tp b xs h)⟩
theorem ER.grow (er:ER Φ Γ o ρ S σ H) (s:a8 H H'):ER Φ Γ o ρ S σ H':=er.step (aF.of_same s) (λa h=>by
 obtain⟨ns,h1,h2⟩:=er.drw a h;exact⟨ns,h1,s _ _ h2⟩) er.drn
end
noncomputable def mR (Ek:Nat->Prop) {α:Type} (r:R α) (P:α->Prop):Prop:=match r with
 | .ok a=>P a
 | .ex k=>Ek k
 | .bad=>False
section
variable {Ek:Nat->Prop} {α β:Type}
theorem aa {r:R α} {f:α->R β} {P:β->Prop}:mR Ek (r.bind f) P↔mR Ek r λa=>mR Ek (f a) P:=by cases r <;> rfl
theorem ab {r:R α} {P Q:α->Prop} (h:mR Ek r P) (hq:∀a,r= .ok a->P a->Q a):mR Ek r Q:=by
 cases r with
 | ok a=>exact hq a rfl h
 | ex k=>exact h
 | bad=>exact h
theorem ay {b:Bool} {r:R α} {P:α->Prop} (h:mR Ek (af b r) P):b=true/\mR Ek r P:=by
 cases b with
 | true=>exact⟨rfl,h⟩
 | false=>exact h.elim
end
structure EO (K:Frag) (fr:Nat->Bool) (o:Ow) (c:C) (H:Hp) (d:Dt) (v:V) (H':Hp):Prop where
 ext:aF o.d H H'
 val:RV K o.wd H' v d
 ju:lk c=0->RV K o.A H' v d
 qu:lk c<=1->dC K o.A H' v d
 dG:fresh fr c=true->∀ds,d= .lst ds->∃a xs,v= .ref a/\H a=none/\H' a=some (.lst xs)/\ag K (λb=>o.wd b\/b=a) H' xs ds/\(lk c=0->ag K (λb=>o.A b\/b=a) H' xs ds)
structure Hz (K:Frag) (o:Ow) (cs:Cs) (H:Hp) (ds:List Dt) (vs:List V) (H':Hp):Prop where
 ext:aF o.d H H'
 val:ag K o.wd H' vs ds
 ju:iW cs=0->ag K o.A H' vs ds
 qu:iW cs<=1->kv K o.A H' vs ds
section
variable (Φ:Fm) (Γ:Gm) (F:FT) (fr:Nat->Bool)
inductive bb (c:C) (σ:L2.St) (H:Hp) (Q:VK):Prop
 | mk (o:Ow) (ρ:aj) (S:Sx) (e:ER Φ Γ o ρ S σ H) (m:mR Φ.Ek (ev F c ρ S) λp=>∀v H',EO Φ.K fr o c H p.1 v H'->ER Φ Γ o ρ p.2 σ H'->Q v H'):bb c σ H Q
inductive dI (c:C) (σ:L2.St) (H:Hp) (Q:Bool->Hp->Prop):Prop
 | mk (o:Ow) (ρ:aj) (S:Sx) (e:ER Φ Γ o ρ S σ H) (m:mR Φ.Ek (bR F c ρ S) λp=>∀H',aF o.d H H'->ER Φ Γ o ρ p.2 σ H'->Q p.1 H'):dI c σ H Q
inductive jE (cs:Cs) (σ:L2.St) (H:Hp) (Q:List V->Hp->Prop):Prop
 | mk (o:Ow) (ρ:aj) (S:Sx) (e:ER Φ Γ o ρ S σ H) (m:mR Φ.Ek (eh F cs ρ S) λp=>∀vs H',Hz Φ.K o cs H p.1 vs H'->ER Φ Γ o ρ p.2 σ H'->Q vs H'):jE cs σ H Q
inductive kl (cs:Cs) (σ:L2.St) (H:Hp) (Q:Bool->Hp->Prop):Prop
 | mk (o:Ow) (ρ:aj) (S:Sx) (e:ER Φ Γ o ρ S σ H) (m:mR Φ.Ek (cO F cs ρ S) λp=>∀H',aF o.d H H'->ER Φ Γ o ρ p.2 σ H'->Q p.1 H'):kl cs σ H Q
end
structure Wk (K:Frag) (A X:Addr->Prop) (J:It) (H:Hp) (ds:List Dt):Prop where
 go:∀(i:Nat) (H1:Hp),i < ds.length->aF X H H1->J.go i H1
 stop:∀(H1:Hp),aF X H H1->J.stop ds.length H1
 yld:∀(i:Nat) (x:V) (H1 H2:Hp),i < ds.length->aF X H H1->J.yld i H1 x H2->a8 H1 H2/\∃d,ds[i]?=some d/\∀B:Addr->Prop,(∀b,B b->A b\/H b=none)->RV K B H2 x d
structure IO (K:Frag) (o:Ow) (it:nk) (nl:Bool) (H:Hp) (ds:List Dt) (J:It) (H':Hp):Prop where
 ext:aF o.d H H'
 w1:r8 it<=1->Wk K o.A o.d J H' ds
 w0:r8 it=0->Wk K o.A o.A J H' ds
 w2:nl=true->Wk K o.A o.A J H' ds
inductive ji (Φ:Fm) (Γ:Gm) (F:FT) (it:nk) (σ:L2.St) (H:Hp) (Q:It->Hp->Prop):Prop
 | mk (o:Ow) (ρ:aj) (S:Sx) (e:ER Φ Γ o ρ S σ H) (m:mR Φ.Ek (dF F it ρ S) λp=>∀J H',IO Φ.K o it (iL F it ρ S) H p.1 J H'->ER Φ Γ o ρ p.2 σ H'->Q J H'):ji Φ Γ F it σ H Q
structure GX (g:G) (Γ:Gm) (X:Cx):Prop where
 N:X.N=Γ.N
 nd:Γ.N.Nodup
 vis:∀x,u6 (Γ.names.lookup x)=true->BK X.env.scope x
 loc:∀x,ue (Γ.names.lookup x)=true->Loc X.env.scope x/\(X.fn x=true\/X.env.scope.names.lookup x=some .local)
 gl:∀x,qS (Γ.names.lookup x)=true->Gl X x
 fre:∀x,(Γ.names.lookup x=some .cell\/Γ.names.lookup x=some .free)->(X.env.scope.names.lookup x=some .cell\/X.env.scope.names.lookup x=some .free)
 calm:X.calm=true
 un:X.A.units + 150 < cLine
 con:∀x d,g.cons.lookup x=some d->∃u,lH d=true/\X.mg x=some u/\RelV (ny d) u
 bl:∀x∈g.bls,X.mg x=none
structure FO (K:Frag) (W:Addr->Prop) (dr:Option Addr) (fr:Bool) (H:Hp) (d:Dt) (S':Sx) (v:V) (H':Hp):Prop where
 ext:aF (λb=>dr=some b) H H'
 val:RV K W H' v d
 drw:∀a,dr=some a->∃ns:List Int,S'=some ns/\H' a=some (.lst (ns.map V.int))
 dG:fr=true->∀ds,d= .lst ds->∃a xs,v= .ref a/\H a=none/\H' a=some (.lst xs)/\ag K (λb=>W b\/b=a) H' xs ds
noncomputable def Ht (K:Frag) (xv:Nat->Value) (F:List Dt->Sx->R (Dt×Sx)) (np:Nat) (fr aS:Bool):Sp:=λvs H Q E=>
 vs.length=np/\∃(W:Addr->Prop) (dr:Option Addr) (args:List Dt) (S:Sx) (kn:List V),
  (if aS=true then∃(a:Addr) (ns:List Int),vs= .ref a::kn/\dr=some a/\W a/\S=some ns/\H a=some (.lst (ns.map V.int)) else vs=kn/\dr=none/\S=none)/\
  ag K W H kn args/\(∀a,W a->∃x,H a=some x)/\
  match F args S with
  | .ok p=>∀v H',FO K W dr fr H p.1 p.2 v H'->Q v H'
  | .ex k=>∀H',aF (λb=>dr=some b) H H'->E (xv k) none H'
  | .bad=>False
noncomputable def jG (Φ:Fm) (xv:Nat->Value):XK:=λv _ H'=>∃k,v=xv k/\Φ.Ek k/\aF (λb=>Φ.d0=some b) Φ.H0 H'
structure FX (g:G) (xv:Nat->Value) (CX:iw) (P:Program) (w:World) (K:Frag) (mg:Str->Option Value) (base:Heap) (n k:Nat) (F:FT):Prop where
 fn:∀x f np dU aS,nZ x g.fns=some (f,np,dU,aS)->∃(fa:Addr) (fd:FuncData) (ps:List Str),ps.length=np/\mg x=some (.ref fa)/\PySem.W.keepIn K (.ref fa)=true/\
  f7 P w K mg base CX k fa fd ps (Ht K xv (F f) np (g.fr f) aS)/\(∀j,j<=dU.length->∃ds,aq ((dU.drop j).map ny) ds/\Binds K fd ps ds)/\dU.all lH=true
end Rx
end
section
namespace L2
open PySem PySem.Spec PyProof.Rows
abbrev BO:List Value:=[.type "ValueError",.type "Exception",.type "BaseException",.type "object"]
structure BL (K:PySem.W.Frag) (D:Addr):Prop where
 ga:PySem.W.findIn K (.ref D) "__getattribute__"=some (some (.builtin "BaseException.__getattribute__"))
 na:PySem.W.findIn K (.ref D) "__getattr__"=some none
 sb:PySem.W.subIn K (.ref D) (.type "BaseException")=some true
 fi:PySem.W.findIn K (.ref D) "__class__"=some (some (.builtin "object.__class__"))
 sp:PySem.W.specialIn K (.builtin "object.__class__") "__get__"=some (some (.builtin "getset_descriptor.__get__"))
 tk:PySem.W.takesIn K (.builtin "object.__class__")=some true
 mr:PySem.W.mroIn K D (.type "object")=some true
noncomputable def EJ (X:Cx) (st:Stmt) (t:TS):Prop:=∀(s:Shared) (σ:St) (H:Hp) (D:Ends),Inv X [] σ H s->t D σ H->wpAny (model X.prog X.w) X.A (exec st X.env) (SP X [] D) X.xe s
noncomputable def kr (X:Cx) (st:List Stmt) (t:TS):Prop:=∀(s:Shared) (σ:St) (H:Hp) (D:Ends),Inv X [] σ H s->t D σ H->wpAny (model X.prog X.w) X.A (execs st X.env) (SP X [] D) X.xe s
theorem AC {X:Cx} {st:Stmt} {t:TS} (h:PS X st t):EJ X st t:=λs σ H D=>h [] s σ H D
theorem xq {X:Cx} {st:List Stmt} {t:TS} (h:qG X st t):kr X st t:=λs σ H D=>h [] s σ H D
theorem rD {X:Cx} {st:Stmt} {rest:List Stmt} {t u:TS} (h1:EJ X st t) (h2:kr X rest u):kr X (st::rest) (DF t u):=by
 intro s σ H D I hq;refine wpAny_execs_cons (bo (h1 s σ H {D with nx:=u D} I hq) λf s1 z=>?_);cases f with
 | next=>obtain⟨σ1,H1,I1,q1⟩:=z;exact h2 s1 σ1 H1 D I1 q1
 | brk=>exact z
 | cont=>exact z
 | ret v=>exact z
theorem zj {CX:iw} {P:Program} {w:World} {K:PySem.W.Frag} {mg:Str->Option Value} {base:Heap} {k:Nat} {f:Addr} {name qual:Str} {params:Arguments} {body:List Stmt} {scope:Scope} {dV kV doc pm dM ct oc:Value} {an od:Option Addr}
  {qe:Array (Option Value)} {N ps:List Str} {sp:Sp} (lk:K.lookup f=some ⟨oc,od,.func (PySem.W.fnOf name qual params body scope dV kV doc pm an dM ct),qe⟩) (vz:PySem.W.codeIn K dM qual=true) (S:dc N ps scope)
  (len:∀vs H Q E,sp vs H Q E->vs.length=ps.length)
  (Ca:∀(A:Around) (outer:List Env) (s:Shared) (H:Hp) (vs:List V) (Q:VK) (E:XK),fh k (A.deeper (envOfC qual scope s.heap.objs.size f dM))->sp vs H Q E->
   ∃t,kr (iF CX P w K mg base N qual scope f dM A outer s H E) body t/\t {nx:=λ_ H'=>Q .ba H',rt:=Q} (start N vs) H):
  f7 P w K mg base CX (k + 1) f (PySem.W.fnOf name qual params body scope dV kV doc pm an dM ct) ps sp:=by
 refine⟨len,λA outer s H args us vs Q E hr e0 hb r Bu=>?_⟩;have KX:K.In s.heap:=e0.mod.FN.keeps λb o e=>(e0.bs b o e).1
 have Ci:∀y∈ps.zip us,scope.names.lookup y.1=some .local\/(scope.names.lookup y.1=some .cell/\((cellsFrom (s.heap.objs.size + 1) scope.names []).lookup y.1).isSome=true):=λ⟨n,v⟩ hy=>by
  rcases S.par n (List.of_mem_zip hy).1 with q | q
  ·exact .inl q
  ·exact .inr ⟨q,PySem.W.cellsFrom_some _ _ _ (.inl q)⟩
 refine codeAny_call_function hr.depth (KX _ _ lk) rfl S.co S.gen rfl (PySem.W.codeRec_of KX vz) (hb _ _ _ _ (wpAny_newFunctionEnv_cells S.kind Ci λenv he s1 x=>?_));subst he;refine⟨(e0.mod.nolimit.keeps λb o e=>(e0.bs b o e).1).keeps x.toInCall.keep,codeAny_func ?_⟩;obtain⟨t,ht,hq⟩:=Ca A outer s H vs Q E (hr.deeper _) Bu;have I:Inv (iF CX P w K mg base N qual scope f dM A outer s H E) [] (start N vs) H s1:=rd S hr.hd e0 (len _ _ _ _ Bu) r x;refine wpAny_mono (ht s1 (start N vs) H _ I hq) (λfl s' hs=>?_) λe s' hs=>hs
 have fin:∀{σ':St} {H':Hp} {v:V} {u:Value},Inv (iF CX P w K mg base N qual scope f dM A outer s H E) [] σ' H' s'->RelV v u->Q v H'->CE outer P w H s Q u s':=
  λ {σ' H' v u} J rv q=>⟨v,H',J.os,J.bare,J.base,J.hok,rv,q⟩
 cases fl with
 | ret u=>obtain⟨v,σ',H',J,rv,q⟩:=hs;exact fin J rv q
 | next=>obtain⟨σ',H',J,q⟩:=hs;exact fin (v:=V.ba) (u:=Value.none) J rfl q
 | brk=>obtain⟨_,_,_,q⟩:=hs;exact q.elim
 | cont=>obtain⟨_,_,_,q⟩:=hs;exact q.elim
end L2
end
section
namespace Rx
open PySem PySem.W PySem.Spec PyProof.Rows L2 PySem.SeqAt
noncomputable def EN (K:Frag) (mg:Str->Option Value) (C:Addr) (ts:List (Str×Bool)):Prop:=excIn K C BO "ValueError.__new__"=true/\BL K C/\
 ∀t b,ts.lookup t=some b->∃c,(mg t=some c/\(∃D,c= .ref D)\/mg t=none/\t="ValueError"/\c= .type "ValueError")/\kitOne K (.ref C) c=some b/\(b=true->exmOne K (.ref C) c=some true)
structure HX (g:G) (xv:Nat->Value) (CX:iw) (k:Nat) (F:FT) (Φ:Fm) (X:Cx):Prop where
 K:Φ.K=X.K
 P:Φ.P=X.prog
 w:Φ.w=X.w
 fx:∃n,FX g xv CX X.prog X.w X.K X.mg X.base n k F
 room:fh k X.A
 cx:CX=lF X.prog X.w
 st:dR X
 xgx:∀e s',iz X (jG Φ xv) e s'->X.xe e s'
 xk:∀k x ts,g.xs[k]?=some (x,ts)->∃C,xv k= .ref C/\X.mg x=some (.ref C)/\EN X.K X.mg C ts
theorem HX.pass {g:G} {xv:Nat->Value} {CX:iw} {k:Nat} {F:FT} {Φ:Fm} {X:Cx} (h:HX g xv CX k F Φ X):nz CX X (jG Φ xv):=λpins σ H s e s' I c=>by have hc:=h.cx;subst hc;exact h.xgx e s' (vd I h.st.pn c)
theorem aN {X:Cx} {e:Expr} {t t':TE} (h:PE X e t) (hi:∀σ H Q,t' σ H Q->t σ H Q):PE X e t':=λpins s σ H Q I q=>h pins s σ H Q I (hi σ H Q q)
theorem oP {X:Cx} {e:Expr} {t t':TT} (h:PT X e t) (hi:∀σ H Q,t' σ H Q->t σ H Q):PT X e t':=λpins s σ H Q I q=>h pins s σ H Q I (hi σ H Q q)
theorem uH {X:Cx} {e:Expr} {t t':TT} (h:PW X e t) (hi:∀σ H Q,t' σ H Q->t σ H Q):PW X e t':=λwh pins s σ H Q I q=>h wh pins s σ H Q I (hi σ H Q q)
theorem uw {X:Cx} {e:List Expr} {t t':TA} (h:PA X e t) (hi:∀σ H Q,t' σ H Q->t σ H Q):PA X e t':=λpos pins s σ H Q I q=>h pos pins s σ H Q I (hi σ H Q q)
theorem i0 {X:Cx} {tg e:Expr} {t t':TI} (h:PI X tg e t) (hi:∀σ H Q,t' σ H Q->t σ H Q):PI X tg e t':=λpins s σ H Q I q=>h pins s σ H Q I (hi σ H Q q)
section
variable {Φ:Fm} {Γ:Gm} {F:FT} {fr:Nat->Bool} {o:Ow} {ρ:aj} {S:Sx} {σ:L2.St} {H H':Hp}
theorem EO.sc {c:C} {d:Dt} (h:lH d=true):EO Φ.K fr o c H d (ny d) H:=⟨aF.refl,mP h,λ_=>mP h,λ_=>(mP h).one,λ_ ds e=>by subst e;simp[lH] at h⟩
theorem EO.qR {c:C} {d:Dt} {v:V} {H1:Hp} (e:aF o.d H H1) (h:EO Φ.K fr o c H1 d v H') (hf:fresh fr c=true->∀ds,d= .lst ds->∀a,H1 a=none->H a=none):EO Φ.K fr o c H d v H':=
 ⟨e.trans h.ext,h.val,h.ju,h.qu,λf ds ed=>by
  obtain⟨a,xs,h1,h2,h3⟩:=h.dG f ds ed;exact⟨a,xs,h1,hf f ds ed a h2,h3⟩⟩
theorem tv {X:Addr->Prop} {H1:Hp} (e:aF X H H1) (hx:∀b,X b->∃y,H1 b=some y) {a:Addr} (h:H1 a=none):H a=none:=by
 cases q:H a with
 | none=>rfl
 | some x=>obtain⟨y,z⟩:=e.al q (hx a);rw[h] at z;cases z
theorem ER.c8 {S1:Sx} {H1:Hp} (aw:ER Φ Γ o ρ S1 σ H1) (e:aF o.d H H1) {a:Addr} (h:H1 a=none):H a=none:=tv e (λb z=>aw.al b (aw.da b z)) h
theorem EO.keep {c:C} {d:Dt} {v:V} {H1 H2:Hp} (h:EO Φ.K fr o c H d v H1) (e:aF o.d H1 H2) (wa:∀b,o.wd b->o.A b):RV Φ.K o.wd H2 v d/\(lk c=0->RV Φ.K o.A H2 v d)/\(lk c<=1->dC Φ.K o.A H2 v d):=by
 have hd:∀b,o.d b->o.wd b:=λb z=> .inr z
 refine⟨h.val.mono e hd λ_ z=>z,λl=>(h.ju l).mono e (λb z=>wa b (hd b z)) λ_ z=>z,λl=>?_⟩;refine(h.qu l).ext e (λb z=>wa b (hd b z)) λds a ed ev z=>?_
 subst ed ev;obtain⟨b,xs,q,_,n,_⟩:=h.val.lst_inv;cases q;exact n (.inr z)
theorem EO.pr {c:C} {xs:List V} {ds:List Dt} {d:Dt} {v:V} {H1 H2:Hp} {S1:Sx} {f:Bool} (aw:ER Φ Γ o ρ S1 σ H1) (e:aF o.d H H1) (hv:ag Φ.K o.wd H1 xs ds) (h1:lk c<=1->kv Φ.K o.A H1 xs ds) (hl:lk c=0\/lk c=2)
  (pr:PR Φ.K f xs ds H1 d v H2) (hf:fresh fr c=true->f=true):EO Φ.K fr o c H d v H2/\ER Φ Γ o ρ S1 σ H2:=by
 have q0:lk c=0->RV Φ.K o.A H2 v d:=λl=>pr.val o.A aw.al (h1 (by lia))
 refine⟨⟨e.trans (aF.of_same pr.same),pr.val o.wd aw.sk hv.ones,q0,λl=>(q0 (by lia)).one,λfc es ed=>?_⟩,aw.grow pr.same⟩;obtain⟨a,ys,k1,k2,k3,k4⟩:=pr.dG (hf fc) es ed;exact⟨a,ys,k1,aw.c8 e k2,k3,k4 o.wd aw.sk hv.ones,λl=>k4 o.A aw.al (h1 (by lia))⟩
theorem fN {A:Addr->Prop} {K:Frag} {v:V} {d:Dt} (h:RV K A H v d):RV K N0 H v d:=h.weak λ_ z=>z.elim
theorem Ae {A:Addr->Prop} {K:Frag} {v:List V} {d:List Dt} (h:ag K A H v d):ag K N0 H v d:=h.weak λ_ z=>z.elim
end
section
variable {X:Cx} {Φ:Fm} {Γ:Gm} {F:FT} {fr:Nat->Bool} {g:G}
theorem mQ {e:Expr} {d:Dt} (hd:lH d=true) (h:PE X e (tC (ny d))):PE X e (bb Φ Γ F fr (.con d)):=aN h λσ H Q q=>by obtain⟨o,ρ,S,er,q⟩:=q;exact q _ _ (EO.sc hd) er
theorem hJ {Ek:Nat->Prop} {ρ:aj} {i:Nat} {P:Dt->Prop} (h:mR Ek (cD ρ i) P):∃d,ρ[i]?=some (some d)/\P d:=by
 unfold cD at h;split at h
 ·exact⟨_,by assumption,h⟩
 ·exact h.elim
theorem Dp {e:Expr} {i:Nat} (h:PE X e (gw i)) (hm:cn Γ i=false):PE X e (bb Φ Γ F fr (.var i)):=aN h λσ H Q q=>by obtain⟨o,ρ,S,er,q⟩:=q;unfold ev at q;rw[aa] at q;obtain⟨d,hd,q⟩:=hJ q;obtain⟨v,h1,h2⟩:=er.val i d hd;rw[hm,if_neg (by simp)] at h2;exact⟨v,h1,q v H ⟨aF.refl,h2.weak er.d8,λ_=>h2,λ_=>h2.one,λz=>by simp[fresh] at z⟩ er⟩
theorem Dh {e:Expr} {i:Nat} (h:PE X e (gw i)) (hm:cn Γ i=true) (hκ:Γ.κ≠some i):PE X e (bb Φ Γ F fr (.mvr i)):=aN h λσ H Q q=>by obtain⟨o,ρ,S,er,q⟩:=q;unfold ev at q;rw[aa] at q;obtain⟨d,hd,q⟩:=hJ q;obtain⟨v,h1,h2⟩:=er.val i d hd;rw[hm,if_pos rfl] at h2;exact⟨v,h1,q v H ⟨aF.refl,h2.val (er.nd hd hκ) er.wa er.da,λz=>by simp[lk] at z,λ_=>h2.one (er.nd hd hκ),λz=>by simp[fresh] at z⟩ er⟩
theorem ie {Ek:Nat->Prop} {r:R Dt} {P:Dt->Prop} (nr:∀k,r≠ .ex k) (h:mR Ek r P):∃d,r= .ok d/\P d:=by
 cases r with
 | ok a=>exact⟨a,rfl,h⟩
 | ex k=>exact absurd rfl (nr k)
 | bad=>exact h.elim
theorem bU {b:Bool} {α:Type} {r:R α} (h:∀k,r≠ .ex k):∀k,af b r≠ .ex k:=by
 intro k;cases b
 ·intro z;cases z
 ·exact h k
theorem Ah (o:Operator) (d e:Dt):∀k,oI o d e≠ .ex k:=by intro k;unfold oI;split <;> first | (intro z;cases z;done) | (split <;> first | (intro z;cases z;done) | (exact bU (λk z=>by cases z) k))
theorem pC (o:CmpOp) (d e:Dt):∀k,ck o d e≠ .ex k:=by intro k;unfold ck;split <;> first | (intro z;cases z;done) | (exact bU (λk z=>by cases z) k)
theorem nG (ds:List Dt) (i:Int):∀k,vN ds i≠ .ex k:=by intro k;unfold vN;split <;> (intro z;cases z)
theorem wB (d e:Dt):∀k,cQ d e≠ .ex k:=by
 intro k;unfold cQ;split
 ·exact nG _ _ k
 ·exact nG _ _ k
 ·exact nG _ _ k
 ·exact bU (λk=>by split <;> (intro z;cases z)) k
 ·intro z;cases z
theorem xF (d:Dt) (lo hi:Option Int):∀k,gv d lo hi≠ .ex k:=by intro k;unfold gv;split <;> first | (intro z;cases z;done) | (exact bU (λk z=>by cases z) k)
theorem xM (d:Dt):∀k,cF d≠ .ex k:=by intro k;unfold cF;split <;> first | (intro z;cases z;done) | (exact bU (λk z=>by cases z) k)
theorem fM {Ek:Nat->Prop} {r:R Bool} {P:Bool->Prop} (nr:∀k,r≠ .ex k) (h:mR Ek r P):∃d,r= .ok d/\P d:=by
 cases r with
 | ok a=>exact⟨a,rfl,h⟩
 | ex k=>exact absurd rfl (nr k)
 | bad=>exact h.elim
theorem oz {op:Operator} {a b:C}:(lk (.bin op a b)=0\/lk (.bin op a b)=2)/\(lk (.bin op a b)<=1->lk a<=1/\lk b<=1):=by
 have e:lk (.bin op a b)=if lk a<=1/\lk b<=1 then 0 else 2:=by rw[lk]
 rw[e];split
 ·rename_i h;exact⟨.inl rfl,λ_=>h⟩
 ·exact⟨.inr rfl,λz=>by lia⟩
theorem Dc {a b:Expr} {a' b':C} {op:Operator} {pos:Pos} (hK:Φ.K=X.K) (ha:PE X a (bb Φ Γ F fr a')) (hb:PE X b (bb Φ Γ F fr b')):PE X (.BinOp a op b pos) (bb Φ Γ F fr (.bin op a' b')):=aN (C0 (Aj op) ha hb) λσ H Q q=>by
 obtain⟨o,ρ,S,er,q⟩:=q;unfold ev at q;rw[aa] at q;refine⟨o,ρ,S,er,ab q λp _ q x H1 aG aw=>?_⟩;rw[aa] at q;refine⟨o,ρ,p.2,aw,ab q λp2 _ q y H2 eo2 cC=>?_⟩;rw[aa] at q;obtain⟨z,hz,q⟩:=ie (Ah _ _ _) q;obtain⟨k1,k2,k3⟩:=aG.keep eo2.ext er.d8;refine⟨p.1,p2.1,z,hK▸fN k1,hK▸fN eo2.val,hz,λv H3 pr=>?_⟩;rw[<-hK] at pr;obtain⟨e1,e2⟩:=EO.pr (fr:=fr) (H:=H) (c:= .bin op a' b') cC (aG.ext.trans eo2.ext) (ag.cons k1 (ag.cons eo2.val ag.nil)) (λl=>⟨k3 (oz.2 l).1,eo2.qu (oz.2 l).2,trivial⟩) oz.1 pr λ_=>rfl
 exact q v H3 e1 e2
theorem Dd {a b:Expr} {a' b':C} {op:CmpOp} {pos:Pos} (hK:Φ.K=X.K) (hu:X.A.units + 150 < cLine) (hm:behindInMarks op b=false) (ha:PE X a (bb Φ Γ F fr a')) (hb:PE X b (bb Φ Γ F fr b')):PE X (.Compare a [op] [b] pos) (bb Φ Γ F fr (.cmp op a' b')):=aN (xf (uq op hu) ha hb hm) λσ H Q q=>by obtain⟨o,ρ,S,er,q⟩:=q;unfold ev at q;rw[aa] at q;refine⟨o,ρ,S,er,ab q λp _ q x H1 aG aw=>?_⟩;rw[aa] at q;refine⟨o,ρ,p.2,aw,ab q λp2 _ q y H2 eo2 cC=>?_⟩;rw[aa] at q;obtain⟨z,hz,q⟩:=fM (pC _ _ _) q;obtain⟨k1,k2,k3⟩:=aG.keep eo2.ext er.d8;refine⟨p.1,p2.1,z,hK▸fN k1,hK▸fN eo2.val,hz,q _ _ ?_ cC⟩;have:=EO.sc (Φ:=Φ) (fr:=fr) (o:=o) (H:=H2) (c:= .cmp op a' b') (d:= .bl z) rfl;exact this.qR (aG.ext.trans eo2.ext) λf=>by simp[fresh] at f
theorem AO {a b:Expr} {a' b':C} {op:CmpOp} {pos:Pos} (hK:Φ.K=X.K) (hu:X.A.units + 150 < cLine) (hm:behindInMarks op b=false) (ha:PE X a (bb Φ Γ F fr a')) (hb:PE X b (bb Φ Γ F fr b')):PT X (.Compare a [op] [b] pos) (dI Φ Γ F (.cmp op a' b')):=oP (xu (uq op hu) ha hb hm) λσ H Q q=>by obtain⟨o,ρ,S,er,q⟩:=q;unfold bR at q;rw[aa] at q;refine⟨o,ρ,S,er,ab q λp _ q x H1 aG aw=>?_⟩;rw[aa] at q;refine⟨o,ρ,p.2,aw,ab q λp2 _ q y H2 eo2 cC=>?_⟩;rw[aa] at q;obtain⟨z,hz,q⟩:=fM (pC _ _ _) q;obtain⟨k1,k2,k3⟩:=aG.keep eo2.ext er.d8;exact⟨p.1,p2.1,z,hK▸fN k1,hK▸fN eo2.val,hz,z,rfl,q _ (aG.ext.trans eo2.ext) cC⟩
end
section
variable {X:Cx} {Φ:Fm} {Γ:Gm} {F:FT} {fr:Nat->Bool} {g:G}
theorem ag.emp {K:Frag} {A:Addr->Prop} {H:Hp} {xs:List V} {ds:List Dt} (h:ag K A H xs ds):ds.isEmpty=xs.isEmpty:=by
 have:=h.length;cases xs with
 | nil=>cases ds with
  | nil=>rfl
  | cons=>simp at this
 | cons=>cases ds with
  | nil=>simp at this
  | cons=>rfl
theorem Di {a:Expr} {a':C} {pos:Pos} (ha:PE X a (bb Φ Γ F fr a')):PE X (.UnaryOp .USub a pos) (bb Φ Γ F fr (.neg a')):=aN (C2 Bb ha) λσ H Q q=>by
 obtain⟨o,ρ,S,er,q⟩:=q;unfold ev at q;rw[aa] at q;refine⟨o,ρ,S,er,ab q λp _ q x H1 aG aw=>?_⟩;split at q
 ·rename_i i hi;have:=aG.val;rw[hi] at this;refine⟨i,this.int_inv,q _ _ ?_ aw⟩;exact(EO.sc (Φ:=Φ) (fr:=fr) (o:=o) (H:=H1) (c:= .neg a') (d:= .int (-i)) rfl).qR aG.ext λf=>by simp[fresh] at f
 ·exact q.elim
theorem Gk {a:Expr} {a':C} {pos:Pos} (ha:PE X a (bb Φ Γ F fr a')):PE X (.UnaryOp .Not a pos) (bb Φ Γ F fr (.nt a')):=aN (Aw ha) λσ H Q q=>by
 obtain⟨o,ρ,S,er,q⟩:=q;unfold ev at q;rw[aa] at q;refine⟨o,ρ,S,er,ab q λp _ q x H1 aG aw=>?_⟩;split at q
 ·rename_i i hi;have:=aG.val;rw[hi] at this;refine⟨i,this.ax,q _ _ ?_ aw⟩;exact(EO.sc (Φ:=Φ) (fr:=fr) (o:=o) (H:=H1) (c:= .nt a') (d:= .bl (!i)) rfl).qR aG.ext λf=>by simp[fresh] at f
 ·exact q.elim
theorem Dl {a:Expr} {a':C} {pos:Pos} (ha:PT X a (dI Φ Γ F a')):PT X (.UnaryOp .Not a pos) (dI Φ Γ F (.nt a')):=oP (AE ha) λσ H Q q=>by obtain⟨o,ρ,S,er,q⟩:=q;unfold bR at q;rw[aa] at q;exact⟨o,ρ,S,er,ab q λp _ q H1 e1 aw=>q _ e1 aw⟩
theorem Da {a b:Expr} {rest:List Expr} {a' b':C} {pos:Pos} (ha:PE X a (bb Φ Γ F fr a')) (hb:PE X (.BoolOp .And (b::rest) pos) (bb Φ Γ F fr b')):PE X (.BoolOp .And (a::b::rest) pos) (bb Φ Γ F fr (.and a' b')):=aN (Ap ha hb) λσ H Q q=>by
 obtain⟨o,ρ,S,er,q⟩:=q;unfold ev at q;rw[aa] at q;refine⟨o,ρ,S,er,ab q λp _ q x H1 aG aw=>?_⟩;have sc:∀(H3:Hp) (t:Bool),aF o.d H H3->EO Φ.K fr o (.and a' b') H (.bl t) (.bl t) H3:=λH3 t e3=>
  (EO.sc (Φ:=Φ) (fr:=fr) (o:=o) (H:=H3) (c:= .and a' b') (d:= .bl t) rfl).qR e3 λf=>by simp[fresh] at f
 split at q
 ·rename_i hi;have:=aG.val;rw[hi] at this;refine⟨true,this.ax,?_⟩;rw[aa] at q;refine⟨o,ρ,p.2,aw,ab q λp2 _ q y H2 eo2 cC=>?_⟩;split at q
  ·rename_i c hc;have h2:=eo2.val;rw[hc] at h2;rw[h2.ax];exact q _ _ (sc H2 c (aG.ext.trans eo2.ext)) cC
  ·exact q.elim
 ·rename_i hi;have:=aG.val;rw[hi] at this;exact⟨false,this.ax,q _ _ (sc H1 false aG.ext) aw⟩
 ·exact q.elim
theorem Gn {a b:Expr} {rest:List Expr} {a' b':C} {pos:Pos} (ha:PE X a (bb Φ Γ F fr a')) (hb:PE X (.BoolOp .Or (b::rest) pos) (bb Φ Γ F fr b')):PE X (.BoolOp .Or (a::b::rest) pos) (bb Φ Γ F fr (.or a' b')):=aN (C1 ha hb) λσ H Q q=>by
 obtain⟨o,ρ,S,er,q⟩:=q;unfold ev at q;rw[aa] at q;refine⟨o,ρ,S,er,ab q λp _ q x H1 aG aw=>?_⟩;have sc:∀(H3:Hp) (t:Bool),aF o.d H H3->EO Φ.K fr o (.or a' b') H (.bl t) (.bl t) H3:=λH3 t e3=>
  (EO.sc (Φ:=Φ) (fr:=fr) (o:=o) (H:=H3) (c:= .or a' b') (d:= .bl t) rfl).qR e3 λf=>by simp[fresh] at f
 split at q
 ·rename_i hi;have:=aG.val;rw[hi] at this;refine⟨false,this.ax,?_⟩;rw[aa] at q;refine⟨o,ρ,p.2,aw,ab q λp2 _ q y H2 eo2 cC=>?_⟩;split at q
  ·rename_i c hc;have h2:=eo2.val;rw[hc] at h2;rw[h2.ax];exact q _ _ (sc H2 c (aG.ext.trans eo2.ext)) cC
  ·exact q.elim
 ·rename_i hi;have:=aG.val;rw[hi] at this;exact⟨true,this.ax,q _ _ (sc H1 true aG.ext) aw⟩
 ·exact q.elim
theorem AN {a b:Expr} {rest:List Expr} {a' b':C} {pos:Pos} (ha:PT X a (dI Φ Γ F a')) (hb:PW X (.BoolOp .And (b::rest) pos) (dI Φ Γ F b')):PW X (.BoolOp .And (a::b::rest) pos) (dI Φ Γ F (.and a' b')):=uH (AF ha hb) λσ H Q q=>by
 obtain⟨o,ρ,S,er,q⟩:=q;unfold bR at q;rw[aa] at q;refine⟨o,ρ,S,er,ab q λp _ q H1 e1 aw=>?_⟩;cases hp:p.1 with
 | true=>rw[hp] at q;rw[if_pos rfl];exact⟨o,ρ,p.2,aw,ab q λp2 _ q H2 e2 cC=>q _ (e1.trans e2) cC⟩
 | false=>rw[hp] at q;rw[if_neg (by simp)];exact q _ e1 aw
theorem Dm {a b:Expr} {rest:List Expr} {a' b':C} {pos:Pos} (ha:PT X a (dI Φ Γ F a')) (hb:PW X (.BoolOp .Or (b::rest) pos) (dI Φ Γ F b')):PW X (.BoolOp .Or (a::b::rest) pos) (dI Φ Γ F (.or a' b')):=uH (C4 ha hb) λσ H Q q=>by
 obtain⟨o,ρ,S,er,q⟩:=q;unfold bR at q;rw[aa] at q;refine⟨o,ρ,S,er,ab q λp _ q H1 e1 aw=>?_⟩;cases hp:p.1 with
 | false=>rw[hp] at q;rw[if_neg (by simp)];exact⟨o,ρ,p.2,aw,ab q λp2 _ q H2 e2 cC=>q _ (e1.trans e2) cC⟩
 | true=>rw[hp] at q;rw[if_pos rfl];exact q _ e1 aw
theorem uc {a b:C}:(lk (.idx a b)=0\/lk (.idx a b)=2)/\(lk (.idx a b)<=1->lk a<=1):=by
 have e:lk (.idx a b)=if lk a<=1 then 0 else 2:=by rw[lk]
 rw[e];split
 ·rename_i h;exact⟨.inl rfl,λ_=>h⟩
 ·exact⟨.inr rfl,λz=>by lia⟩
theorem De {a b:Expr} {a' b':C} {pos:Pos} (hK:Φ.K=X.K) (hs:ku b) (ha:PE X a (bb Φ Γ F fr a')) (hb:PE X b (bb Φ Γ F fr b')):PE X (.Subscript a b pos) (bb Φ Γ F fr (.idx a' b')):=aN (CZ zU ha hb hs) λσ H Q q=>by
 obtain⟨o,ρ,S,er,q⟩:=q;unfold ev at q;rw[aa] at q;refine⟨o,ρ,S,er,ab q λp _ q x H1 aG aw=>?_⟩;rw[aa] at q;refine⟨o,ρ,p.2,aw,ab q λp2 _ q y H2 eo2 cC=>?_⟩;rw[aa] at q;obtain⟨z,hz,q⟩:=ie (wB _ _) q;obtain⟨k1,k2,k3⟩:=aG.keep eo2.ext er.d8;refine⟨p.1,p2.1,z,hK▸fN k1,hK▸fN eo2.val,hz,λv pr=>?_⟩;rw[<-hK] at pr;have HS:∃i,p2.1= .int i:=by
  cases hd:p2.1 with
  | int i=>exact⟨i,rfl⟩
  | _=>rw[hd] at hz;unfold cQ at hz;split at hz <;> first | (rename_i h;cases h;done) | (cases hz;done) | contradiction
 obtain⟨i,hi⟩:=HS;have v2:∀A:Addr->Prop,dC Φ.K A H2 y p2.1:=λA=>by have:=eo2.val;rw[hi] at this ⊢;rw[this.int_inv];exact(RV.b8 (K:=Φ.K) (A:=A)).one
 obtain⟨e1,e2⟩:=EO.pr (fr:=fr) (H:=H) (c:= .idx a' b') cC (aG.ext.trans eo2.ext) (ag.cons k1 (ag.cons eo2.val ag.nil)) (λl=>⟨k3 (uc.2 l),v2 _,trivial⟩) uc.1 pr λz=>by simp[fresh] at z
 exact q v H2 e1 e2
theorem iq {a:Expr} {a':C} (hK:Φ.K=X.K) (ha:PE X a (bb Φ Γ F fr a')) (he:∀whole,isTrue a X.env whole=(do let v<-whole;standAt a.pos;holding [v] (truthy v)))
  (G7:∀ρ S,bR F a' ρ S=(ev F a' ρ S).bind λx=>(cF x.1).bind λb=> .ok (b,x.2)):PT X a (dI Φ Γ F a'):=oP (uG ha he) λσ H Q q=>by
 obtain⟨o,ρ,S,er,q⟩:=q;rw[G7,aa] at q;refine⟨o,ρ,S,er,ab q λp _ q x H1 aG aw=>?_⟩;rw[aa] at q;obtain⟨b,hb,q⟩:=fM (xM _) q;refine⟨b,?_,q _ aG.ext aw⟩;have hv:=aG.val;rw[hK] at hv;unfold cF at hb;split at hb
 ·rename_i hd;rw[hd] at hv;cases hb;rw[hv.az];rfl
 ·rename_i hd;rw[hd] at hv;cases hb;rw[hv.ax];rfl
 ·rename_i hd;rw[hd] at hv;cases hb;rw[hv.int_inv];rfl
 ·rename_i hd;rw[hd] at hv;obtain⟨g1,hb⟩:=aE hb;cases hb;rw[hv.str_inv];exact⟨J1 (JT g1) bH,rfl⟩
 ·rename_i hd;rw[hd] at hv;cases hb;obtain⟨a,xs,rfl,h1,_,h2⟩:=hv.lst_inv;refine .inl ⟨xs,cY.of h1,?_⟩;rw[h2.emp]
 ·rename_i hd;rw[hd] at hv;cases hb;obtain⟨a,xs,rfl,h1,h2⟩:=hv.ae;refine .inr (.inl ⟨xs,de.of h1,?_⟩);rw[h2.emp]
 ·rename_i hd;rw[hd] at hv;cases hb;obtain⟨a,rfl,h1⟩:=hv.gu;refine .inl ⟨_,h1,?_⟩;simp
 ·cases hb
end
section
variable {X:Cx} {Φ:Fm} {Γ:Gm} {F:FT} {fr:Nat->Bool} {g:G}
theorem Ac {a b:C} {c:C} (hc:lk c=if lk a<=1 then 0 else 2):(lk c=0\/lk c=2)/\(lk c<=1->lk a<=1):=by
 rw[hc];split
 ·rename_i h;exact⟨.inl rfl,λ_=>h⟩
 ·exact⟨.inr rfl,λz=>by lia⟩
theorem pJ {o:Ow} {ρ:aj} {S:Sx} {σ:L2.St} {H H1 H2:Hp} {a' c:C} {d:Dt} {x:V} {lo hi:Option Int} {Q:VK} (hK:Φ.K=X.K) (hc:lk c=if lk a'<=1 then 0 else 2) (hf:fresh fr c=true->True) (er:ER Φ Γ o ρ S σ H2) (aG:EO Φ.K fr o a' H d x H1) (e:aF o.d H1 H2)
  (q:mR Φ.Ek (gv d lo hi) λz=>∀v H3,EO Φ.K fr o c H z v H3->ER Φ Γ o ρ S σ H3->Q v H3):rS X.K x lo hi H2 Q:=by
 obtain⟨z,hz,q⟩:=ie (xF _ _ _) q;obtain⟨k1,k2,k3⟩:=aG.keep e er.d8;refine⟨d,z,hK▸fN k1,hz,λv H3 pr=>?_⟩;rw[<-hK] at pr;have hl:=Ac (b:=c) hc;obtain⟨e1,e2⟩:=EO.pr (fr:=fr) (H:=H) (c:=c) er (aG.ext.trans e) (ag.cons k1 ag.nil) (λl=>⟨k3 (hl.2 l),trivial⟩) hl.1 pr λ_=>rfl
 exact q v H3 e1 e2
theorem AY {a l:Expr} {a' l':C} {p2 pos:Pos} (hK:Φ.K=X.K) (ha:PE X a (bb Φ Γ F fr a')) (hl:PE X l (bb Φ Γ F fr l')):PE X (.Subscript a (.Slice (some l) none none p2) pos) (bb Φ Γ F fr (.sliL a' l')):=aN (mL uS ha (qi hl) qh) λσ H Q q=>by
 obtain⟨o,ρ,S,er,q⟩:=q;unfold ev at q;rw[aa] at q;refine⟨o,ρ,S,er,ab q λp _ q x H1 aG aw=>?_⟩;rw[aa] at q;refine⟨o,ρ,p.2,aw,ab q λp2 _ q y H2 eo2 cC=>?_⟩;split at q
 ·rename_i i hi;have hv:=eo2.val;rw[hi] at hv;refine⟨i,hv.int_inv,?_⟩;rw[aa] at q;exact pJ hK (by rw[lk]) (λ_=>trivial) cC aG eo2.ext (ab q λz _ q v H3 e1 e2=>q v H3 e1 e2)
 ·exact q.elim
theorem AX {a l:Expr} {a' l':C} {p2 pos:Pos} (hK:Φ.K=X.K) (ha:PE X a (bb Φ Γ F fr a')) (hl:PE X l (bb Φ Γ F fr l')):PE X (.Subscript a (.Slice none (some l) none p2) pos) (bb Φ Γ F fr (.sliH a' l')):=aN (mL uS ha qh (qi hl)) λσ H Q q=>by
 obtain⟨o,ρ,S,er,q⟩:=q;unfold ev at q;rw[aa] at q;refine⟨o,ρ,S,er,ab q λp _ q x H1 aG aw=>?_⟩;rw[aa] at q;refine⟨o,ρ,p.2,aw,ab q λp2 _ q y H2 eo2 cC=>?_⟩;split at q
 ·rename_i i hi;have hv:=eo2.val;rw[hi] at hv;refine⟨i,hv.int_inv,?_⟩;rw[aa] at q;exact pJ hK (by rw[lk]) (λ_=>trivial) cC aG eo2.ext (ab q λz _ q v H3 e1 e2=>q v H3 e1 e2)
 ·exact q.elim
theorem Dj:PA X [] (jE Φ Γ F .nil):=uw cT λσ H Q q=>by obtain⟨o,ρ,S,er,q⟩:=q;exact q _ _ ⟨aF.refl,ag.nil,λ_=>ag.nil,λ_=>trivial⟩ er
theorem AQ {e:Expr} {es:List Expr} {c:C} {cs:Cs} (hs:starEach (e::es) X.env=(false,eval e X.env)::starEach es X.env) (h:PE X e (bb Φ Γ F fr c)) (hr:PA X es (jE Φ Γ F cs)):PA X (e::es) (jE Φ Γ F (.cons c cs)):=uw (bh h hr hs) λσ H Q q=>by
 obtain⟨o,ρ,S,er,q⟩:=q;unfold eh at q;rw[aa] at q;refine⟨o,ρ,S,er,ab q λp _ q x H1 aG aw=>?_⟩;rw[aa] at q;refine⟨o,ρ,p.2,aw,ab q λp2 _ q xs H2 eo2 cC=>?_⟩;obtain⟨k1,k2,k3⟩:=aG.keep eo2.ext er.d8;have el:iW (.cons c cs)=max (lk c) (iW cs):=by rw[iW]
 exact q _ _ ⟨aG.ext.trans eo2.ext,ag.cons k1 eo2.val,λl=>ag.cons (k2 (by lia)) (eo2.ju (by lia)),λl=>⟨k3 (by lia),eo2.qu (by lia)⟩⟩ cC
theorem ym {cs:Cs} {c:C} (hc:lk c=if iW cs=0 then 0 else 2):(lk c<=1->lk c=0)/\(lk c=0->iW cs=0):=by
 rw[hc];split
 ·rename_i h;exact⟨λ_=>rfl,λ_=>h⟩
 ·exact⟨λz=>by lia,λz=>by lia⟩
theorem Do {es:List Expr} {cs:Cs} {x1:Nat} {pos:Pos} (h:PA X es (jE Φ Γ F cs)):PE X (.Tuple es x1 pos) (bb Φ Γ F fr (.tup cs)):=aN (Az h) λσ H Q q=>by
 obtain⟨o,ρ,S,er,q⟩:=q;unfold ev at q;rw[aa] at q;refine⟨o,ρ,S,er,ab q λp _ q xs H1 aG aw=>?_⟩;obtain⟨g1,q⟩:=ay q;refine⟨by rw[aG.val.length];exact J1 (JT g1) bH,λa ha=>?_⟩;have s:=Mx.bu ha (.tup xs);have hl:=ym (cs:=cs) (c:= .tup cs) (by rw[lk]);have q0:lk (.tup cs)=0->RV Φ.K o.A (upd H1 a (.tup xs)) (.ref a) (.tup p.1):=λl=>RV.b9 ar ((aG.ju (hl.2 l)).same s)
 exact q _ _ ⟨aG.ext.trans (aF.of_same s),RV.b9 ar (aG.val.same s),q0,λl=>(q0 (hl.1 l)).one,λz=>by simp[fresh] at z⟩ (aw.grow s)
theorem Dg {es:List Expr} {cs:Cs} {pos:Pos} (h:PA X es (jE Φ Γ F cs)):PE X (.List es pos) (bb Φ Γ F fr (.lst cs)):=aN (Au h) λσ H Q q=>by
 obtain⟨o,ρ,S,er,q⟩:=q;unfold ev at q;rw[aa] at q;refine⟨o,ρ,S,er,ab q λp _ q xs H1 aG aw=>?_⟩;obtain⟨g1,q⟩:=ay q;refine⟨by rw[aG.val.length];exact J1 (JT g1) bH,λa ha=>?_⟩;have s:=Mx.bu ha (.lst xs);have hl:=ym (cs:=cs) (c:= .lst cs) (by rw[lk]);have na:¬o.A a:=λz=>by obtain⟨y,hy⟩:=aw.al a z;rw[ha] at hy;cases hy
 have q0:lk (.lst cs)=0->RV Φ.K o.A (upd H1 a (.lst xs)) (.ref a) (.lst p.1):=λl=>RV.du ar na ((aG.ju (hl.2 l)).same s)
 refine q _ _ ⟨aG.ext.trans (aF.of_same s),RV.du ar (λz=>na (aw.d8 a z)) (aG.val.same s),q0,λl=>(q0 (hl.1 l)).one,λ_ ds e=>?_⟩ (aw.grow s);cases e;exact⟨a,xs,rfl,aw.c8 aG.ext ha,ar,(aG.val.avoid ha).same s,λl=>((aG.ju (hl.2 l)).avoid ha).same s⟩
theorem yU (b:BI) (ds:List Dt):∀k,dD b ds≠ .ex k:=by
 intro k;unfold dD;split <;> split
 all_goals first
  | (intro z;cases z;done)
  | (exact bU (λk z=>by cases z) k)
  | (split <;> first | (intro z;cases z;done) | (exact bU (λk z=>by cases z) k) | (split <;> first | (intro z;cases z;done) | (exact bU (λk z=>by cases z) k)))
  | (rename_i T d;unfold rf;split <;> (intro z;cases z))
theorem qa {b:BI} {cs:Cs}:(lk (.bi b cs)=0\/lk (.bi b cs)=2)/\(lk (.bi b cs)<=1->iW cs<=1):=by
 have e:lk (.bi b cs)=if iW cs<=1 then 0 else 2:=by rw[lk]
 rw[e];split
 ·rename_i h;exact⟨.inl rfl,λ_=>h⟩
 ·exact⟨.inr rfl,λz=>by lia⟩
theorem tB {b:BI} {cs:Cs} {σ:L2.St} {H:Hp} {Q:VK} (hK:Φ.K=X.K) (q:bb Φ Γ F fr (.bi b cs) σ H Q):Gv (rP X.K true (dD b)) (jE Φ Γ F cs) σ H Q:=by
 obtain⟨o,ρ,S,er,q⟩:=q;unfold ev at q;rw[aa] at q;refine⟨o,ρ,S,er,ab q λp _ q xs H1 aG aw=>?_⟩;rw[aa] at q;obtain⟨z,hz,q⟩:=ie (yU _ _) q;refine⟨p.1,z,hK▸Ae aG.val,hz,λv H3 pr=>?_⟩;rw[<-hK] at pr;obtain⟨e1,e2⟩:=EO.pr (fr:=fr) (H:=H) (c:= .bi b cs) aw aG.ext aG.val (λl=>aG.qu (qa.2 l)) qa.1 pr λ_=>rfl
 exact q v H3 e1 e2
end
noncomputable def Cs.len:Cs->Nat
 | .nil=>0
 | .cons _ cs=>cs.len + 1
theorem pI {F:FT}:∀{cs:Cs} {ρ:aj} {S:Sx} {p:List Dt×Sx},eh F cs ρ S= .ok p->p.1.length=cs.len
 | .nil,ρ,S,p,h=>by unfold eh at h;cases h;rfl
 | .cons c cs,ρ,S,p,h=>by
  unfold eh at h;cases h1:ev F c ρ S with
  | ok x=>
   rw[h1] at h;simp only[R.ai] at h;cases h2:eh F cs ρ x.2 with
   | ok y=>rw[h2] at h;cases h;simp[Cs.len,pI h2]
   | ex k=>rw[h2] at h;cases h
   | bad=>rw[h2] at h;cases h
  | ex k=>rw[h1] at h;cases h
  | bad=>rw[h1] at h;cases h
section
variable {X:Cx} {Φ:Fm} {Γ:Gm} {F:FT} {g:G} {xv:Nat->Value} {CX:iw} {k:Nat}
theorem lY {H H':Hp} (e:aF (λb=>(none:Option Addr)=some b) H H'):a8 H H':=λb o h=>e.kp b o h (by simp)
theorem oU {K:Frag} {A:Addr->Prop} {H:Hp}:∀{ds:List Dt},ds.all lH=true->ag K A H (ds.map ny) ds
 | [],_=>ag.nil
 | d::ds,h=>by rw[List.all_cons,JR] at h;exact ag.cons (mP h.1) (oU h.2)
theorem s_call {x:Str} {f np j:Nat} {dU:List Dt} {e:Expr} {es:List Expr} {cs:Cs} {p pos:Pos} (hX:HX g xv CX k F Φ X) (hG:Gl X x) (wq:(x==("__debug__":Str))=false) (tP:nZ x g.fns=some (f,np,dU,false)) (hj:j<=dU.length) (hn:cs.len + (dU.drop j).length=np)
  (hs:starEach (e::es) X.env=(false,eval e X.env)::starEach es X.env) (nu:(backTo pos (starEach es X.env)).any (·.1)=false) (ha:PA X (e::es) (jE Φ Γ F cs)):PE X (.Call (.Name x p) (e::es) [] pos) (bb Φ Γ F g.fr (.call f cs (dU.drop j))):=by
 obtain⟨n,fx⟩:=hX.fx;obtain⟨fa,fd,ps,FG,hmg,Iz,hok,hb,IK⟩:=fx.fn x f np dU false tP;obtain⟨pG,jA,Ip⟩:=hb j hj;refine aN (xc hok hX.room hG hmg Iz Ip jA hX.pass ha wq hs nu) λσ H Q q=>?_
 obtain⟨o,ρ,S,er,q⟩:=q;unfold ev at q;rw[aa] at q;refine⟨o,ρ,S,er,ab q λp hp q vs H1 aG aw=>?_⟩;have Hi:(dU.drop j).all lH=true:=Kr.mpr λd hd=>Kr.mp IK d (List.mem_of_mem_drop hd)
 rw[aa] at q;have el:lk (.call f cs (dU.drop j))=if iW cs=0 then 0 else 2:=by rw[lk]
 refine⟨?_,?_⟩
 ·rw[J7,aG.val.length,JZ,pI hp];exact hn
 by_cases hl:iW cs=0
 ·rw[if_pos hl] at el;refine⟨o.A,none,p.1++dU.drop j,none,vs++(dU.drop j).map ny,⟨rfl,rfl,rfl⟩,?_,aw.al,?_⟩
  ·rw[<-hX.K];exact(aG.ju hl).append (oU Hi)
  ·cases hr:F f (p.1++dU.drop j) none with
   | ok y=>rw[hr] at q;intro v H' fo;rw[<-hX.K] at fo;have sm:=lY fo.ext;refine q v H' ⟨aG.ext.trans (aF.of_same sm),fo.val.weak aw.d8,λ_=>fo.val,λ_=>fo.val.one,λfc ds ed=>?_⟩ (aw.grow sm);obtain⟨a,xs,h1,h2,h3,h4⟩:=fo.dG fc ds ed;exact⟨a,xs,h1,aw.c8 aG.ext h2,h3,h4.weak λb z=>z.elim (λz=> .inl (aw.d8 b z)) .inr,λ_=>h4⟩
   | ex kk=>rw[hr] at q;intro H' e';exact⟨kk,rfl,q,aw.ent.trans (e'.mono λb z=>by cases z)⟩
   | bad=>rw[hr] at q;exact q.elim
 ·rw[if_neg hl] at el;refine⟨o.wd,none,p.1++dU.drop j,none,vs++(dU.drop j).map ny,⟨rfl,rfl,rfl⟩,?_,aw.sk,?_⟩
  ·rw[<-hX.K];exact aG.val.append (oU Hi)
  ·cases hr:F f (p.1++dU.drop j) none with
   | ok y=>rw[hr] at q;intro v H' fo;rw[<-hX.K] at fo;have sm:=lY fo.ext;refine q v H' ⟨aG.ext.trans (aF.of_same sm),fo.val,λz=>by rw[el] at z;lia,λz=>by rw[el] at z;lia,λfc ds ed=>?_⟩ (aw.grow sm);obtain⟨a,xs,h1,h2,h3,h4⟩:=fo.dG fc ds ed;exact⟨a,xs,h1,aw.c8 aG.ext h2,h3,h4,λz=>by rw[el] at z;lia⟩
   | ex kk=>rw[hr] at q;intro H' e';exact⟨kk,rfl,q,aw.ent.trans (e'.mono λb z=>by cases z)⟩
   | bad=>rw[hr] at q;exact q.elim
theorem vQ {t:Str} {T:String} (h:o7 t=some T):bootBuiltins t=some (.type T):=by
 unfold o7 at h;split at h
 ·rename_i e;cases h;rw[Ke e];exact PyProof.Rows.boot_str
 split at h
 ·rename_i e;cases h;rw[Ke e];exact PyProof.Rows.boot_int
 split at h
 ·rename_i e;cases h;rw[Ke e];exact PyProof.Rows.boot_bool
 split at h
 ·rename_i e;cases h;rw[Ke e];exact PyProof.Rows.boot_list
 split at h
 ·rename_i e;cases h;rw[Ke e];exact PyProof.Rows.boot_tuple
 ·cases h
theorem xP {t:Str} {T:String} (h:o7 t=some T):T="str"\/T="int"\/T="bool"\/T="list"\/T="tuple":=by
 unfold o7 at h;split at h
 ·cases h;simp
 split at h
 ·cases h;simp
 split at h
 ·cases h;simp
 split at h
 ·cases h;simp
 split at h
 ·cases h;simp
 ·cases h
theorem zS {K:Frag} {A:Addr->Prop} {H:Hp} {x:V} {d:Dt} {T:String} {b:Bool} (hT:T="str"\/T="int"\/T="bool"\/T="list"\/T="tuple") (hx:RV K A H x d) (h:rf T d= .ok b):∃t,fm K H x t/\PySem.W.kitOne K t (.type T)=some b:=by
 unfold rf at h;split at h
 ·cases h;rw[hx.str_inv];refine⟨_,.str _,?_⟩;rcases hT with rfl | rfl | rfl | rfl | rfl <;> rfl
 ·cases h;rw[hx.int_inv];refine⟨_,.int _,?_⟩;rcases hT with rfl | rfl | rfl | rfl | rfl <;> rfl
 ·cases h;rw[hx.ax];refine⟨_,.bl _,?_⟩;rcases hT with rfl | rfl | rfl | rfl | rfl <;> rfl
 ·cases h;obtain⟨a,xs,rfl,h1,_⟩:=hx.lst_inv;refine⟨_,.lst h1,?_⟩;rcases hT with rfl | rfl | rfl | rfl | rfl <;> rfl
 ·cases h;obtain⟨a,xs,rfl,h1,_⟩:=hx.ae;refine⟨_,.tup h1,?_⟩;rcases hT with rfl | rfl | rfl | rfl | rfl <;> rfl
 ·cases h;rw[hx.az];refine⟨_,.ba,?_⟩;rcases hT with rfl | rfl | rfl | rfl | rfl <;> rfl
 ·cases h
theorem wF (T:String) (d:Dt):∀k,rf T d≠ .ex k:=by intro k;unfold rf;split <;> (intro z;cases z)
theorem Df {a:Expr} {a':C} {t:Str} {T:String} {p tp pos:Pos} (hK:Φ.K=X.K) (hG:Gl X "isinstance") (hm:X.mg "isinstance"=none) (Ic:Gl X t) (IE:X.mg t=none) (hT:o7 t=some T) (hn:t≠"__name__") (wq:(t==("__debug__":Str))=false)
  (hs:starEach (a::[.Name t tp]) X.env=(false,eval a X.env)::starEach [.Name t tp] X.env) (ha:PE X a (bb Φ Γ F g.fr a')):PE X (.Call (.Name "isinstance" p) [a,.Name t tp] [] pos) (bb Φ Γ F g.fr (.bi (.isi T) (.cons a' .nil))):=by
 refine aN (mJ Mx.sH hG hm PyProof.Rows.boot_isinstance (bh ha (bh (xa (v:= .ty T) Ic IE (vQ hT) rfl hn wq) cT) hs) (by decide) (by decide) hs) λσ H Q q=>?_
 obtain⟨o,ρ,S,er,q⟩:=q;unfold ev eh eh at q;rw[aa,aa] at q;refine⟨o,ρ,S,er,ab q λp hp q x H1 aG aw=>?_⟩;simp only[R.ai] at q;have q:mR Φ.Ek ((dD (.isi T) [p.1]).bind λd=>R.ok (d,p.2)) _:=q;unfold dD at q;simp only at q;rw[aa,aa] at q;obtain⟨b,hb,q⟩:=fM (wF _ _) q;obtain⟨ty,k1,k2⟩:=zS (xP hT) (hK▸aG.val) hb;refine⟨x,T,ty,b,rfl,k1,k2,q _ _ ?_ aw⟩;exact(EO.sc (Φ:=Φ) (fr:=g.fr) (o:=o) (H:=H1) (c:= .bi (.isi T) (.cons a' .nil)) (d:= .bl b) rfl).qR aG.ext λf=>by simp[fresh] at f
theorem AU {a:Expr} {a':C} {p p2 pos eV:Pos} (hK:Φ.K=X.K) (hc:X.calm=true) (hG:Gl X "list") (hm:X.mg "list"=none) (B3:Gl X "reversed") (rZ:X.mg "reversed"=none) (hs:starEach [a] X.env=[(false,eval a X.env)]) (ha:PE X a (bb Φ Γ F g.fr a')):
  PE X (.Call (.Name "list" p) [.Call (.Name "reversed" p2) [a] [] eV] [] pos) (bb Φ Γ F g.fr (.bi .revL (.cons a' .nil))):=by
 refine aN (Mx.oK hc hG hm B3 rZ ha hs) λσ H Q q=>?_
 obtain⟨o,ρ,S,er,q⟩:=q;unfold ev eh eh at q;rw[aa,aa] at q;refine⟨o,ρ,S,er,ab q λp hp q x H1 aG aw=>?_⟩;simp only[R.ai] at q;have q:mR Φ.Ek ((dD .revL [p.1]).bind λd=>R.ok (d,p.2)) _:=q;cases hd:p.1 with
 | lst ds=>
  rw[hd] at q;have hv:=aG.val;have h1:=aG.qu;rw[hd] at hv h1;obtain⟨b,xs,rfl,f1,_,f2⟩:=hv.lst_inv;refine⟨b,xs,rfl,f1,λn hn=>?_⟩;have pr:PR Φ.K true [.ref b] [.lst ds] H1 (.lst ds.reverse) (.ref n) (upd H1 n (.lst xs.reverse)):=PR.k8 hn λA w=>(dC.aA w.1 f1).reverse
  have hl:=qa (b:= .revL) (cs:= .cons a' .nil);have el:iW (.cons a' .nil)=max (lk a') 0:=by rw[iW,iW]
  obtain⟨e1,e2⟩:=EO.pr (fr:=g.fr) (H:=H) (c:= .bi .revL (.cons a' .nil)) aw aG.ext (ag.cons hv ag.nil) (λl=>⟨h1 (by have:=hl.2 l;lia),trivial⟩) hl.1 pr λ_=>rfl
  exact q _ _ e1 e2
 | _=>rw[hd] at q;exact q.elim
theorem AV {a:Expr} {a':C} {p p2 pos eV:Pos} (hK:Φ.K=X.K) (hc:X.calm=true) (hG:Gl X "tuple") (hm:X.mg "tuple"=none) (B3:Gl X "reversed") (rZ:X.mg "reversed"=none) (hs:starEach [a] X.env=[(false,eval a X.env)]) (ha:PE X a (bb Φ Γ F g.fr a')):
  PE X (.Call (.Name "tuple" p) [.Call (.Name "reversed" p2) [a] [] eV] [] pos) (bb Φ Γ F g.fr (.bi .revT (.cons a' .nil))):=by
 refine aN (Mx.rz hc hG hm B3 rZ ha hs) λσ H Q q=>?_
 obtain⟨o,ρ,S,er,q⟩:=q;unfold ev eh eh at q;rw[aa,aa] at q;refine⟨o,ρ,S,er,ab q λp hp q x H1 aG aw=>?_⟩;simp only[R.ai] at q;have q:mR Φ.Ek ((dD .revT [p.1]).bind λd=>R.ok (d,p.2)) _:=q;cases hd:p.1 with
 | lst ds=>
  rw[hd] at q;have hv:=aG.val;have h1:=aG.qu;rw[hd] at hv h1;obtain⟨b,xs,rfl,f1,_,f2⟩:=hv.lst_inv;refine⟨b,xs,rfl,f1,λn hn=>?_⟩;have pr:PR Φ.K true [.ref b] [.lst ds] H1 (.tup ds.reverse) (.ref n) (upd H1 n (.tup xs.reverse)):=PR.wW hn λA w=>(dC.aA w.1 f1).reverse
  have hl:=qa (b:= .revT) (cs:= .cons a' .nil);have el:iW (.cons a' .nil)=max (lk a') 0:=by rw[iW,iW]
  obtain⟨e1,e2⟩:=EO.pr (fr:=g.fr) (H:=H) (c:= .bi .revT (.cons a' .nil)) aw aG.ext (ag.cons hv ag.nil) (λl=>⟨h1 (by have:=hl.2 l;lia),trivial⟩) hl.1 pr λ_=>rfl
  exact q _ _ e1 e2
 | _=>rw[hd] at q;exact q.elim
end
noncomputable def FK (K:Frag) (tl:TE):TI:=λσ H R=>tl σ H λx H1=>(∃a xs,x= .ref a/\cY K H1 a xs/\R (DX K a) H1)\/(∃a xs,x= .ref a/\de K H1 a xs/\R (EG K a) H1)
theorem AB {X:Cx} {tg l:Expr} {tl:TE} (hl:PE X l tl):PI X tg l (FK X.K tl):=by
 intro pins s σ H R I h;refine bo (hl pins s σ H _ I h) λv s1 ⟨x,H1,I1,r1,q1⟩=>?_
 rcases q1 with ⟨a,xs,e,hq,q⟩ | ⟨a,xs,e,hq,q⟩
 ·subst e;cases r1;obtain⟨its,rv,p,hz⟩:=I1.list hq;refine wpAny_pyIter_list p.isList ?_;refine⟨s1.heap.objs.size,[s1.heap.objs.size],_,_,H1,rfl,I1.kept (t':=s1.toks) λb o e=>JP _ e,rL a _,⟨_,JY _ rfl,rfl,rfl⟩,λb hb=>?_,q⟩;have e:b=s1.heap.objs.size:=by simpa using hb
  subst e;exact I1.kQ (JW _) (I1.hok.fresh (JW _))
 ·subst e;cases r1;obtain⟨its,rv,p,hz⟩:=I1.tuple hq;refine wpAny_pyIter_tuple (show s1.heap.IsTuple a its.toArray from p) ?_;refine⟨s1.heap.objs.size,[s1.heap.objs.size],_,_,H1,rfl,I1.kept (t':=s1.toks) λb o e=>JP _ e,o6 a _,⟨_,JY _ rfl,rfl,rfl⟩,λb hb=>?_,q⟩;have e:b=s1.heap.objs.size:=by simpa using hb
  subst e;exact I1.kQ (JW _) (I1.hok.fresh (JW _))
section
variable {X:Cx} {Φ:Fm} {Γ:Gm} {F:FT} {g:G} {xv:Nat->Value} {CX:iw} {k:Nat} {K:Frag}
theorem qC {A Y:Addr->Prop} {a:Addr} {xs:List V} {ds:List Dt} {H:Hp} (ha:H a=some (.lst xs)) (hn:¬Y a) (hY:∀b,Y b->A b) (h:ag K A H xs ds):Wk K A Y (DX K a) H ds where
 go:=λi H1 hi e=>⟨xs,xs[i]'(by rw[h.length];exact hi),cY.of (e.kp _ _ ha hn),by simp⟩
 stop:=λH1 e=>⟨xs,cY.of (e.kp _ _ ha hn),by rw[h.length];exact JW _⟩
 yld:=λi x H1 H2 hi e y=>by obtain⟨rfl,y⟩:=y;obtain⟨d,h1,h2⟩:=h.get (y xs (cY.of (e.kp _ _ ha hn)));exact⟨a8.refl _,d,h1,λB hB=>(h2.aU (B:=λb=>A b\/B b) λb z=>z.elim .inl (hB b)).mono e (λb z=> .inl (hY b z)) λ_ z=> .inr z⟩
theorem pb {A Y:Addr->Prop} {a:Addr} {xs:List V} {ds:List Dt} {H:Hp} (ha:H a=some (.tup xs)) (hY:∀b,Y b->A b) (h:ag K A H xs ds):Wk K A Y (EG K a) H ds where
 go:=λi H1 hi e=>⟨xs,xs[i]'(by rw[h.length];exact hi),de.of (e.tp _ _ ha),by simp⟩
 stop:=λH1 e=>⟨xs,de.of (e.tp _ _ ha),by rw[h.length];exact JW _⟩
 yld:=λi x H1 H2 hi e y=>by obtain⟨rfl,y⟩:=y;obtain⟨d,h1,h2⟩:=h.get (y xs (de.of (e.tp _ _ ha)));exact⟨a8.refl _,d,h1,λB hB=>(h2.aU (B:=λb=>A b\/B b) λb z=>z.elim .inl (hB b)).mono e (λb z=> .inl (hY b z)) λ_ z=> .inr z⟩
theorem u7 {A Y:Addr->Prop} {a:Addr} {ns:List Int} {H:Hp} (ha:(Rd H a (.lst (ns.map V.int))/\¬Y a)\/KL K a (ns.map V.int)):Wk K A Y (DX K a) H (ns.map Dt.int):=by
 have sq:∀H1,aF Y H H1->cY K H1 a (ns.map V.int):=λH1 e=>by
  rcases ha with ⟨h,n⟩ | h
  ·exact .inl (uK e n h)
  ·exact .inr h
 refine⟨λi H1 hi e=>?_,λH1 e=>⟨_,sq H1 e,by simp⟩,λi x H1 H2 hi e y=>?_⟩
 ·rw[JZ] at hi;exact⟨_,.int ns[i],sq H1 e,by simp[hi]⟩
 ·obtain⟨rfl,y⟩:=y;have:=y _ (sq _ e);rw[Ka] at this;obtain⟨m,h1,rfl⟩:=J6.mp this;exact⟨a8.refl _,.int m,by simp[h1],λ_ _=>RV.b8⟩
theorem o9 {A Y:Addr->Prop} {lo:Int} {n:Nat} {H:Hp}:Wk K A Y (DY lo n) H (a6 lo n) where
 go:=λi H1 hi e=>by unfold a6 at hi;simp at hi;exact hi
 stop:=λH1 e=>by unfold a6;simp only[JZ,List.length_range];exact JW _
 yld:=λi x H1 H2 hi e y=>by obtain⟨rfl,rfl⟩:=y;unfold a6 at hi;simp at hi;exact⟨a8.refl _,.int (lo + i),by unfold a6;simp[hi],λ_ _=>RV.b8⟩
theorem uP {tg a:Expr} {a':C} (hK:Φ.K=X.K) (ha:PE X a (bb Φ Γ F g.fr a')):PI X tg a (ji Φ Γ F (.seq a')):=i0 (AB ha) λσ H Q q=>by
 obtain⟨o,ρ,S,er,q⟩:=q;unfold dF at q;rw[aa] at q;refine⟨o,ρ,S,er,ab q λp he q x H1 aG aw=>?_⟩;have qZ:r8 (.seq a')=lk a':=rfl;cases hd:p.1 with
 | lst ds=>
  rw[hd] at q;have hv:=aG.val;have h0:=aG.ju;have h1:=aG.qu;rw[hd] at hv h0 h1;obtain⟨b,xs,rfl,f1,fn,f2⟩:=hv.lst_inv;refine .inl ⟨b,xs,rfl,cY.of f1,q _ _ ⟨aG.ext,λl=>?_,λl=>?_,λl=>by unfold iL at l;rw[he] at l;simp only[hd,jr] at l;cases l⟩ aw⟩
  ·rw[<-hK];exact qC f1 (λz=>fn (.inr z)) aw.da (dC.aA (h1 (by rw[qZ] at l;exact l)) f1)
  ·rw[<-hK];have:=h0 (by rw[qZ] at l;exact l);obtain⟨b',ez,e',g1,gn,g2⟩:=this.lst_inv;cases e';exact qC g1 gn (λ_ z=>z) g2
 | tup ds=>
  rw[hd] at q;have hv:=aG.val;have h0:=aG.ju;have h1:=aG.qu;rw[hd] at hv h0 h1;obtain⟨b,xs,rfl,f1,f2⟩:=hv.ae;refine .inr ⟨b,xs,rfl,de.of f1,q _ _ ⟨aG.ext,λl=>?_,λl=>?_,λl=>?_⟩ aw⟩
  ·rw[<-hK];exact pb f1 aw.da (dC.au (h1 (by rw[qZ] at l;exact l)) f1)
  ·rw[<-hK];exact pb f1 (λ_ z=>z) (dC.au (h0 (by rw[qZ] at l;exact l)).one f1)
  ·rw[<-hK];unfold iL at l;rw[he] at l;simp only[hd] at l;exact pb f1 (λ_ z=>z) (dC.au (hv.jr l:RV Φ.K o.A H1 (.ref b) (.tup ds)).one f1)
 | aQ ns=>
  rw[hd] at q;have hv:=aG.val;have h0:=aG.ju;rw[hd] at hv h0;obtain⟨b,rfl,hb⟩:=hv.ey;have Ec:cY X.K H1 b (ns.map V.int):=by
   rw[<-hK];rcases hb with hb | hb
   ·exact .inl hb.1
   ·exact .inr hb
  refine .inl ⟨b,_,rfl,Ec,q _ _ ⟨aG.ext,λl=>?_,λl=>?_,λl=>by unfold iL at l;rw[he] at l;simp only[hd,jr] at l;cases l⟩ aw⟩
  ·rw[<-hK];exact u7 (hb.imp (λz=>⟨z.1,λw=>z.2 (.inr w)⟩) id)
  ·rw[<-hK];obtain⟨b',e',ye⟩:=(h0 (by rw[qZ] at l;exact l)).ey;cases e';exact u7 ye
 | _=>rw[hd] at q;exact q.elim
theorem AW {tg a:Expr} {a':C} {p pos:Pos} (hG:Gl X "range") (hm:X.mg "range"=none) (hs:starEach [a] X.env=[(false,eval a X.env)]) (ha:PE X a (bb Φ Γ F g.fr a')):PI X tg (.Call (.Name "range" p) [a] [] pos) (ji Φ Γ F (.rng1 a')):=
 i0 (rA hG hm (bh ha cT (by rw[hs];rfl)) hs) λσ H Q q=>by
 obtain⟨o,ρ,S,er,q⟩:=q;unfold dF at q;rw[aa] at q;refine⟨o,ρ,S,er,ab q λp _ q x H1 aG aw=>?_⟩;cases hd:p.1 with
 | int j=>rw[hd] at q;obtain⟨g1,q⟩:=ay q;rw[JR] at g1;have a1:=JT g1.1;have a2:=JT g1.2;have hl:lim=1000000:=rfl;have hv:=aG.val;rw[hd] at hv;exact⟨j,by rw[hv.int_inv],by lia,by lia,q _ _ ⟨aG.ext,λ_=>o9,λ_=>o9,λ_=>o9⟩ aw⟩
 | _=>rw[hd] at q;exact q.elim
theorem u9 {A Y:Addr->Prop} {b1 b2:Bool} {l1 l2:Addr} {xs ys:List V} {ds es:List Dt} {H:Hp} (h1:H l1=some (Mx.f6 b1 xs)) (h2:H l2=some (Mx.f6 b2 ys)) (n1:b1=false->¬Y l1) (n2:b2=false->¬Y l2) (hY:∀b,Y b->A b) (g1:ag K A H xs ds) (g2:ag K A H ys es):Wk K A Y (Mx.EF b1 b2 l1 l2) H (dJ ds es):=by
 have k1:∀H1,aF Y H H1->H1 l1=some (Mx.f6 b1 xs):=λH1 e=>by
  cases b1 with
  | false=>exact e.kp _ _ h1 (n1 rfl)
  | true=>exact e.tp _ _ h1
 have k2:∀H1,aF Y H H1->H1 l2=some (Mx.f6 b2 ys):=λH1 e=>by
  cases b2 with
  | false=>exact e.kp _ _ h2 (n2 rfl)
  | true=>exact e.tp _ _ h2
 have hz:(dJ ds es).length=min xs.length ys.length:=by unfold dJ;rw[List.length_zipWith,g1.length,g2.length]
 refine⟨λi H1 hi e=>?_,λH1 e=>?_,λi x H1 H2 hi e y=>?_⟩
 ·rw[hz] at hi;exact⟨xs,ys,xs[i]'(by lia),ys[i]'(by lia),k1 H1 e,k2 H1 e,by simp,by simp⟩
 ·exact⟨xs,ys,k1 H1 e,k2 H1 e,by lia⟩
 ·obtain⟨p,x1,y1,rfl,hp,rfl,q⟩:=y;obtain⟨q1,q2⟩:=q xs ys (k1 H1 e) (k2 H1 e);obtain⟨d,a1,a2⟩:=g1.get q1;obtain⟨c,c1,c2⟩:=g2.get q2;have s:=Mx.bu hp (.tup [x1,y1]);refine⟨s,.tup [d,c],by unfold dJ;rw[List.getElem?_zipWith,a1,c1],λB hB=>RV.b9 ar ?_⟩;have av:∀{v:V} {dd:Dt},RV K A H v dd->RV K B (upd H1 p (.tup [x1,y1])) v dd:=λh=>((h.aU (B:=λb=>A b\/B b) λb z=>z.elim .inl (hB b)).mono e (λb z=> .inl (hY b z)) λ_ z=> .inr z).same s
  exact ag.cons (av a2) (ag.cons (av c2) ag.nil)
theorem bf {A B:Addr->Prop} {H:Hp} {x:V} {d:Dt} {ds:List Dt} (h:bV d=some ds) (hv:RV K A H x d) (h1:dC K B H x d):∃b l xs,x= .ref l/\H l=some (Mx.f6 b xs)/\(b=false->¬A l)/\ag K B H xs ds:=by
 unfold bV at h;split at h
 ·cases h;obtain⟨a,xs,rfl,f1,fn,f2⟩:=hv.lst_inv;exact⟨false,a,xs,rfl,f1,λ_=>fn,dC.aA h1 f1⟩
 ·cases h;obtain⟨a,xs,rfl,f1,f2⟩:=hv.ae;exact⟨true,a,xs,rfl,f1,λz=>(by cases z),dC.au h1 f1⟩
 ·cases h
theorem yA {es:List Expr} {kk:Nat} {tp:Pos} {a b:Expr} {a' b':C} {p pos:Pos} (hK:Φ.K=X.K) (hG:Gl X "zip") (hm:X.mg "zip"=none) (hs:starEach [a,b] X.env=[(false,eval a X.env),(false,eval b X.env)]) (gO:starEach [b] X.env=[(false,eval b X.env)]) (ha:PE X a (bb Φ Γ F g.fr a')) (hb:PE X b (bb Φ Γ F g.fr b')):
  PI X (.Tuple es kk tp) (.Call (.Name "zip" p) [a,b] [] pos) (ji Φ Γ F (.zip a' b')):=
 i0 (Mx.xl hG hm (bh ha (bh hb cT (by rw[gO];rfl)) (by rw[hs,gO])) hs gO) λσ H Q q=>by
 obtain⟨o,ρ,S,er,q⟩:=q;unfold dF at q;rw[aa] at q;refine⟨o,ρ,S,er,ab q λp _ q x H1 aG aw=>?_⟩;rw[aa] at q;refine⟨o,ρ,p.2,aw,ab q λp2 _ q y H2 eo2 cC=>?_⟩;have qZ:r8 (.zip a' b')=max (lk a') (lk b'):=rfl;split at q
 ·rename_i ds es e1 e2;obtain⟨k1,k2,k3⟩:=aG.keep eo2.ext er.d8;obtain⟨c1,l1,xs,rfl,f1,BW,f2⟩:=bf e1 k1 k1.one;obtain⟨c2,l2,ys,rfl,g1,HQ,g2⟩:=bf e2 eo2.val eo2.val.one;refine⟨c1,c2,l1,l2,xs,ys,rfl,f1,g1,q _ _ ⟨aG.ext.trans eo2.ext,λl=>?_,λl=>?_,λl=>by unfold iL at l;cases l⟩ cC⟩
  ·rw[qZ] at l;obtain⟨lQ,CG,ez,e',iM,_,tw⟩:=bf e1 k1 (k3 (by lia));obtain⟨BP,IX,Es,vt,zo,_,E9⟩:=bf e2 eo2.val (eo2.qu (by lia));cases e';cases vt;have i1:c1=lQ/\xs=ez:=by rw[f1] at iM;cases c1 <;> cases lQ <;> first | (cases iM;exact⟨rfl,rfl⟩) | cases iM
   have i2:c2=BP/\ys=Es:=by rw[g1] at zo;cases c2 <;> cases BP <;> first | (cases zo;exact⟨rfl,rfl⟩) | cases zo
   obtain⟨rfl,rfl⟩:=i1;obtain⟨rfl,rfl⟩:=i2;exact u9 f1 g1 (λz w=>BW z (.inr w)) (λz w=>HQ z (.inr w)) cC.da tw E9
  ·rw[qZ] at l;obtain⟨lQ,CG,ez,e',iM,wU,tw⟩:=bf e1 (k2 (by lia)) (k2 (by lia)).one;obtain⟨BP,IX,Es,vt,zo,Af,E9⟩:=bf e2 (eo2.ju (by lia)) (eo2.ju (by lia)).one;cases e';cases vt;have i1:c1=lQ/\xs=ez:=by rw[f1] at iM;cases c1 <;> cases lQ <;> first | (cases iM;exact⟨rfl,rfl⟩) | cases iM
   have i2:c2=BP/\ys=Es:=by rw[g1] at zo;cases c2 <;> cases BP <;> first | (cases zo;exact⟨rfl,rfl⟩) | cases zo
   obtain⟨rfl,rfl⟩:=i1;obtain⟨rfl,rfl⟩:=i2;exact u9 f1 g1 wU Af (λ_ z=>z) tw E9
 ·exact q.elim
theorem uM {n i:Nat} (h:i < n):(a6 0 n)[i]?=some (.int i):=by unfold a6;rw[Ka,List.getElem?_range h];simp
theorem qD {A Y:Addr->Prop} {b1:Bool} {l1:Addr} {n:Nat} {xs:List V} {ds:List Dt} {H:Hp} (h1:H l1=some (Mx.f6 b1 xs)) (n1:b1=false->¬Y l1) (hY:∀b,Y b->A b) (g1:ag K A H xs ds):Wk K A Y (Mx.yL b1 l1 n) H (dJ ds (a6 0 n)):=by
 have k1:∀H1,aF Y H H1->H1 l1=some (Mx.f6 b1 xs):=λH1 e=>by
  cases b1 with
  | false=>exact e.kp _ _ h1 (n1 rfl)
  | true=>exact e.tp _ _ h1
 have hz:(dJ ds (a6 0 n)).length=min xs.length n:=by unfold dJ;rw[List.length_zipWith,g1.length];simp[a6]
 refine⟨λi H1 hi e=>?_,λH1 e=>?_,λi x H1 H2 hi e y=>?_⟩
 ·rw[hz] at hi;exact⟨xs,xs[i]'(by lia),k1 H1 e,by simp,by lia⟩
 ·exact⟨xs,k1 H1 e,by lia⟩
 ·rw[hz] at hi;obtain⟨p,x1,rfl,hp,rfl,q⟩:=y;have q1:=q xs (k1 H1 e);obtain⟨d,a1,a2⟩:=g1.get q1;have s:=Mx.bu hp (.tup [x1,.int i]);refine⟨s,.tup [d,.int i],by unfold dJ;rw[List.getElem?_zipWith,a1,uM (by lia)],λB hB=>RV.b9 ar ?_⟩;have av:∀{v:V} {dd:Dt},RV K A H v dd->RV K B (upd H1 p (.tup [x1,.int i])) v dd:=λh=>((h.aU (B:=λb=>A b\/B b) λb z=>z.elim .inl (hB b)).mono e (λb z=> .inl (hY b z)) λ_ z=> .inr z).same s
  exact ag.cons (av a2) (ag.cons RV.b8 ag.nil)
theorem A0 {es:List Expr} {kk:Nat} {tp:Pos} {a c:Expr} {a' c':C} {p pos rp uN:Pos} (hK:Φ.K=X.K) (hG:Gl X "zip") (hm:X.mg "zip"=none) (B3:Gl X "range") (rZ:X.mg "range"=none) (hs:starEach [a,.Call (.Name "range" rp) [c] [] uN] X.env=[(false,eval a X.env),(false,eval (.Call (.Name "range" rp) [c] [] uN) X.env)]) (gO:starEach [.Call (.Name "range" rp) [c] [] uN] X.env=[(false,eval (.Call (.Name "range" rp) [c] [] uN) X.env)]) (zN:starEach [c] X.env=[(false,eval c X.env)])
  (ha:PE X a (bb Φ Γ F g.fr a')) (hc:PE X c (bb Φ Γ F g.fr c')):PI X (.Tuple es kk tp) (.Call (.Name "zip" p) [a,.Call (.Name "range" rp) [c] [] uN] [] pos) (ji Φ Γ F (.zipR a' c')):=
 i0 (Mx.xm hG hm (bh ha (bh (j9 Mx.sI B3 rZ boot_range (bh hc cT (by rw[zN];rfl)) (by decide) (by decide) (by rw[zN];rfl) rfl) cT (by rw[gO];rfl)) (by rw[hs,gO])) hs gO) λσ H Q q=>by
 obtain⟨o,ρ,S,er,q⟩:=q;unfold dF at q;rw[aa] at q;refine⟨o,ρ,S,er,ab q λp _ q x H1 aG aw=>?_⟩;rw[aa] at q;refine⟨o,ρ,p.2,aw,ab q λp2 _ q y H2 eo2 cC=>?_⟩;split at q
 ·rename_i ds j e1 e2;obtain⟨gj,q⟩:=ay q;rw[JR] at gj;have j1:=JT gj.1;have j2:=JT gj.2;have eQ:(lim:Int)=1000000:=rfl;have hy:y= .int j:=by have:=eo2.val;rw[e2] at this;exact this.int_inv
  subst hy;refine⟨j,rfl,λr hr=>?_⟩;have sm:=Mx.bu hr (.AK 0 j);obtain⟨k1,k2,k3⟩:=aG.keep eo2.ext er.d8;obtain⟨c1,l1,xs,rfl,f1,BW,f2⟩:=bf e1 k1 k1.one;refine⟨c1,l1,r,xs,j,rfl,sm _ _ f1,ar,by lia,by lia,q _ _ ⟨(aG.ext.trans eo2.ext).trans (aF.of_same sm),λl=>?_,λl=>?_,λl=>by unfold iL at l;cases l⟩ (cC.grow sm)⟩
  ·obtain⟨lQ,CG,ez,e',iM,_,tw⟩:=bf e1 k1 (k3 l);cases e';have i1:c1=lQ/\xs=ez:=by rw[f1] at iM;cases c1 <;> cases lQ <;> first | (cases iM;exact⟨rfl,rfl⟩) | cases iM
   obtain⟨rfl,rfl⟩:=i1;exact qD (sm _ _ f1) (λz w=>BW z (.inr w)) cC.da (tw.same sm)
  ·obtain⟨lQ,CG,ez,e',iM,wU,tw⟩:=bf e1 (k2 l) (k2 l).one;cases e';have i1:c1=lQ/\xs=ez:=by rw[f1] at iM;cases c1 <;> cases lQ <;> first | (cases iM;exact⟨rfl,rfl⟩) | cases iM
   obtain⟨rfl,rfl⟩:=i1;exact qD (sm _ _ f1) wU (λ_ z=>z) (tw.same sm)
 ·exact q.elim
theorem jR:∀(ds:List Dt) (k i:Nat) (d:Dt),ds[i]?=some d->(gF k ds)[i]?=some (.tup [.int ((k + i:Nat):Int),d])
 | [],k,i,d,h=>by simp at h
 | x::ds,k,0,d,h=>by simp at h;subst h;rfl
 | x::ds,k,i + 1,d,h=>by have:=jR ds (k + 1) i d (by simpa using h);show (gF (k + 1) ds)[i]?=_;rw[this,show k + 1 + i=k + (i + 1) by lia]
theorem jS:∀(ds:List Dt) (k:Nat),(gF k ds).length=ds.length
 | [],_=>rfl
 | x::ds,k=>by show (gF (k + 1) ds).length + 1=_;rw[jS ds (k + 1)];rfl
theorem qB {A Y:Addr->Prop} {b:Bool} {l:Addr} {xs:List V} {ds:List Dt} {H:Hp} (h1:H l=some (Mx.f6 b xs)) (n1:b=false->¬Y l) (hY:∀b,Y b->A b) (g1:ag K A H xs ds):Wk K A Y (Mx.ED b l) H (gF 0 ds):=by
 have k1:∀H1,aF Y H H1->H1 l=some (Mx.f6 b xs):=λH1 e=>by
  cases b with
  | false=>exact e.kp _ _ h1 (n1 rfl)
  | true=>exact e.tp _ _ h1
 have hl:=g1.length;have hz:=jS ds 0;refine⟨λi H1 hi e=>?_,λH1 e=>?_,λi x H1 H2 hi e y=>?_⟩
 ·exact⟨xs,xs[i]'(by lia),k1 H1 e,by simp⟩
 ·exact⟨xs,k1 H1 e,by lia⟩
 ·obtain⟨p,x1,rfl,hp,rfl,q⟩:=y;have q1:=q xs (k1 H1 e);obtain⟨d,a1,a2⟩:=g1.get q1;have s:=Mx.bu hp (.tup [.int i,x1]);refine⟨s,.tup [.int i,d],by rw[jR ds 0 i d a1,Nat.zero_add],λB hB=>RV.b9 ar ?_⟩;exact ag.cons RV.b8 (ag.cons (((a2.aU (B:=λb=>A b\/B b) λb z=>z.elim .inl (hB b)).mono e (λb z=> .inl (hY b z)) λ_ z=> .inr z).same s) ag.nil)
theorem AR {es:List Expr} {kk:Nat} {tp:Pos} {a:Expr} {a':C} {p pos:Pos} (hK:Φ.K=X.K) (hG:Gl X "enumerate") (hm:X.mg "enumerate"=none) (hs:starEach [a] X.env=[(false,eval a X.env)]) (ha:PE X a (bb Φ Γ F g.fr a')):
  PI X (.Tuple es kk tp) (.Call (.Name "enumerate" p) [a] [] pos) (ji Φ Γ F (.enum a')):=
 i0 (Mx.uz hG hm (bh ha cT (by rw[hs];rfl)) hs) λσ H Q q=>by
 obtain⟨o,ρ,S,er,q⟩:=q;unfold dF at q;rw[aa] at q;refine⟨o,ρ,S,er,ab q λp _ q x H1 aG aw=>?_⟩;have qZ:r8 (.enum a')=lk a':=rfl;split at q
 ·rename_i ds e1;obtain⟨c1,l1,xs,rfl,f1,BW,f2⟩:=bf e1 aG.val aG.val.one;refine⟨c1,l1,xs,rfl,f1,q _ _ ⟨aG.ext,λl=>?_,λl=>?_,λl=>by unfold iL at l;cases l⟩ aw⟩
  ·rw[qZ] at l;obtain⟨lQ,CG,ez,e',iM,_,tw⟩:=bf e1 aG.val (aG.qu l);cases e';have i1:c1=lQ/\xs=ez:=by rw[f1] at iM;cases c1 <;> cases lQ <;> first | (cases iM;exact⟨rfl,rfl⟩) | cases iM
   obtain⟨rfl,rfl⟩:=i1;exact qB f1 (λz w=>BW z (.inr w)) aw.da tw
  ·rw[qZ] at l;obtain⟨lQ,CG,ez,e',iM,wU,tw⟩:=bf e1 (aG.ju l) (aG.ju l).one;cases e';have i1:c1=lQ/\xs=ez:=by rw[f1] at iM;cases c1 <;> cases lQ <;> first | (cases iM;exact⟨rfl,rfl⟩) | cases iM
   obtain⟨rfl,rfl⟩:=i1;exact qB f1 wU (λ_ z=>z) tw
 ·exact q.elim
end
noncomputable def u3:List Nat->sj
 | []=>zp
 | i::is=>tH (cH i) (u3 is)
noncomputable def yE (K:Frag):Tg->TG
 | .nm i=>cH i
 | .tp is=>zr K is.length (u3 is)
section
variable {X:Cx} {Φ:Fm} {Γ:Gm} {F:FT} {g:G} {xv:Nat->Value} {CX:iw} {k:Nat} {K:Frag}
theorem fV {x:Str} {i:Nat} (h:d6 Γ x=some i):ue (Γ.names.lookup x)=true/\cR x=true/\Γ.N[i]?=some x:=by
 unfold d6 at h;split at h
 ·rename_i c;rw[JR] at c;exact⟨c.1,c.2,kZ h⟩
 ·cases h
theorem ir {x:Str} {i:Nat} (h:slot Γ x=some i):u6 (Γ.names.lookup x)=true/\cR x=true/\Γ.N[i]?=some x:=by
 unfold slot at h;split at h
 ·rename_i c;rw[JR] at c;exact⟨c.1,c.2,kZ h⟩
 ·cases h
theorem fR {e:Expr} {i:Nat} (h:mI Γ e=some i):∃x p,e= .Name x p/\d6 Γ x=some i/\plainS Γ i=true:=by
 unfold mI at h;split at h
 ·rename_i x p;obtain⟨j,h1,h2⟩:=JO.mp h;split at h2
  ·cases h2;exact⟨x,p,rfl,h1,by assumption⟩
  ·cases h2
 ·cases h
theorem yy {e:Expr} {i:Nat} (gx:GX g Γ X) (h:mI Γ e=some i):PG X e (cH i):=by obtain⟨x,p,rfl,h1,_⟩:=fR h;obtain⟨a,b,c⟩:=fV h1;obtain⟨l1,l2⟩:=gx.loc x a;exact xi (gx.N▸gx.nd) (by rw[gx.N];exact c) l1 l2
theorem yz (gx:GX g Γ X):∀{es:List Expr} {is:List Nat},gp Γ es=some is->BH X es (u3 is)/\es.length=is.length/\∀e∈es,∃x p,e= .Name x p
 | [],is,h=>by cases h;exact⟨xj,rfl,λe z=>by cases z⟩
 | e::es,is,h=>by
  unfold gp at h;obtain⟨i,h1,h2⟩:=JO.mp h;obtain⟨js,h3,rfl⟩:=J6.mp h2;obtain⟨k1,k2,k3⟩:=yz gx h3;obtain⟨x,p,ex,_⟩:=fR h1;refine⟨uy (yy gx h1) k1 (by subst ex;rfl),by simp[k2],λe' z=>?_⟩;rcases J3.mp z with rfl | z
  ·exact⟨x,p,ex⟩
  ·exact k3 e' z
theorem iZ {env:Env}:∀{es:List Expr},(∀e∈es,∃x p,e=Expr.Name x p)->(assignEach es env).length=es.length/\(assignEach es env).findIdx? (·.1)=none
 | [],_=>⟨rfl,rfl⟩
 | e::es,h=>by
  obtain⟨x,p,rfl⟩:=h e JX;obtain⟨h1,h2⟩:=iZ (es:=es) (env:=env) λe' z=>h e' (JV _ z)
  have q:assignEach (Expr.Name x p::es) env=(false,assign (.Name x p) env)::assignEach es env:=rfl;rw[q];refine⟨by simp[h1],?_⟩;rw[List.findIdx?_cons];simp[h2]
theorem oV {e:Expr} {t:Tg} (gx:GX g Γ X) (h:nN Γ e=some t):PG X e (yE X.K t):=by
 unfold nN at h;split at h
 ·obtain⟨i,h1,rfl⟩:=J6.mp h;exact yy gx h1
 ·obtain⟨is,h1,rfl⟩:=J6.mp h;obtain⟨k1,k2,k3⟩:=yz gx h1;obtain⟨n1,n2⟩:=iZ (env:=X.env) k3;exact AA gx.calm k1 (by rw[n1,k2]) n2
 ·cases h
theorem d7 {e:Expr} {t:Tg} (h:nN Γ e=some t):∀i∈aI t,plainS Γ i=true/\∃x,d6 Γ x=some i:=by
 have many:∀{es:List Expr} {is:List Nat},gp Γ es=some is->∀i∈is,plainS Γ i=true/\∃x,d6 Γ x=some i:=by
  intro es
  induction es with
  | nil=>intro is h i hi;cases h;cases hi
  | cons e es ih=>
   intro is h i hi;unfold gp at h;obtain⟨j,h1,h2⟩:=JO.mp h;obtain⟨js,h3,rfl⟩:=J6.mp h2;rcases J3.mp hi with rfl | hi
   ·obtain⟨x,p,_,k1,k2⟩:=fR h1;exact⟨k2,x,k1⟩
   ·exact ih h3 i hi
 unfold nN at h;split at h
 ·obtain⟨j,h1,rfl⟩:=J6.mp h;intro i hi;have:i=j:=by simpa [aI] using hi
  subst this;obtain⟨x,p,_,k1,k2⟩:=fR h1;exact⟨k2,x,k1⟩
 ·obtain⟨is,h1,rfl⟩:=J6.mp h;exact many h1
 ·cases h
theorem fT {i:Nat} (h:plainS Γ i=true):cn Γ i=false/\Γ.δ≠some i:=by unfold plainS at h;rw[JR] at h;refine⟨by simpa using h.1,λe=>?_⟩;rw[e] at h;simp at h
theorem ER.set {o:Ow} {ρ:aj} {S:Sx} {σ:L2.St} {H:Hp} {i:Nat} {v:V} {d:Dt} (er:ER Φ Γ o ρ S σ H) (hp:plainS Γ i=true) (h:RV Φ.K o.A H v d):ER Φ Γ o (ρ.set i (some d)) S (σ.set i (some v)) H where
 len:=by rw[List.length_set,List.length_set];exact er.len
 wa:=er.wa
 da:=er.da
 al:=er.al
 val:=λj e he=>by
  by_cases hj:j=i
  ·subst hj;rw[List.getElem?_set] at he;simp only[if_true] at he;split at he
   ·rename_i bZ;cases he;refine⟨v,by rw[KA (by rw[er.len];exact bZ)],?_⟩;rw[(fT hp).1,if_neg (by simp)];exact h
   ·cases he
  ·rw[J8 (Ne.symm hj)] at he;obtain⟨w,h1,h2⟩:=er.val j e he;exact⟨w,by rw[J8 (Ne.symm hj)];exact h1,h2⟩
 inj:=λa b c e f ha hb h1 h2 h3 h4=>by
  have na:a≠i:=λz=>by rw[z,(fT hp).1] at ha;cases ha
  have nb:b≠i:=λz=>by rw[z,(fT hp).1] at hb;cases hb
  rw[J8 (Ne.symm na)] at h1 h3;rw[J8 (Ne.symm nb)] at h2 h4;exact er.inj a b c e f ha hb h1 h2 h3 h4
 dk:=Dk.set er.dk h.nd
 drw:=er.drw
 drn:=er.drn
 drs:=λj a hj ha=>by rw[J8 (λz=>(fT hp).2 (by rw[z];exact hj))];exact er.drs j a hj ha
 dr0:=er.dr0
 ent:=er.ent
theorem qy {o:Ow} {S:Sx} {H:Hp} {Q:L2.St->Hp->Prop}:∀{is:List Nat} {ds:List Dt} {xs:List V} {ρ ρ1:aj} {σ:L2.St},ER Φ Γ o ρ S σ H->(∀i∈is,plainS Γ i=true)->ag Φ.K o.A H xs ds->d5 is ds ρ= .ok ρ1->(∀σ1,ER Φ Γ o ρ1 S σ1 H->(∀k,k∉is->σ1[k]?=σ[k]?/\ρ1[k]?=ρ[k]?)->Q σ1 H)->u3 is xs σ H Q/\xs.length=is.length
 | [],ds,xs,ρ,ρ1,σ,er,_,hx,h,q=>by
  cases ds with
  | nil=>cases h;rw[hx.nil_inv];exact⟨⟨rfl,q σ er λ_ _=>⟨rfl,rfl⟩⟩,rfl⟩
  | cons=>cases h
 | i::is,ds,xs,ρ,ρ1,σ,er,hp,hx,h,q=>by
  cases ds with
  | nil=>cases h
  | cons d ds=>
   obtain⟨x,r,rfl,h1,h2⟩:=hx.cons_inv;obtain⟨k1,k2⟩:=qy (er.set (hp i JX) h1) (λj hj=>hp j (JV _ hj)) h2 h λσ1 aw hk=>q σ1 aw λk D9=>by
    have n1:k≠i:=λz=>D9 (by rw[z];exact JX)
    obtain⟨a1,a2⟩:=hk k λz=>D9 (JV _ z)
    rw[J8 (Ne.symm n1)] at a1 a2;exact⟨a1,a2⟩
   exact⟨⟨x,r,rfl,k1⟩,by simp[k2]⟩
theorem uZ {o:Ow} {S:Sx} {H:Hp} {Q:L2.St->Hp->Prop} {t:Tg} {d:Dt} {x:V} {ρ ρ1:aj} {σ:L2.St} (er:ER Φ Γ o ρ S σ H) (hp:∀i∈aI t,plainS Γ i=true) (hx:RV Φ.K o.A H x d) (h:cJ t d ρ= .ok ρ1) (q:∀σ1,ER Φ Γ o ρ1 S σ1 H->(∀k,k∉aI t->σ1[k]?=σ[k]?/\ρ1[k]?=ρ[k]?)->Q σ1 H):yE Φ.K t x σ H Q:=by
 cases t with
 | nm i=>
  cases h;exact q _ (er.set (hp i (by simp[aI])) hx) λk hk=>by
   have n1:k≠i:=λz=>hk (by simp[aI,z])
   rw[J8 (Ne.symm n1),J8 (Ne.symm n1)];exact⟨rfl,rfl⟩
 | tp is=>
  unfold cJ at h;cases d with
  | tup ds=>obtain⟨a,xs,rfl,h1,h2⟩:=hx.ae;obtain⟨k1,k2⟩:=qy er hp h2 h q;exact⟨a,xs,rfl,de.of h1,k2,k1⟩
  | _=>cases h
theorem mT:∀(is:List Nat) (ds:List Dt) (ρ:aj) (k:Nat),d5 is ds ρ≠ .ex k
 | [],[],_,_=>λz=>by cases z
 | [],_::_,_,_=>λz=>by cases z
 | _::_,[],_,_=>λz=>by cases z
 | _::is,_::ds,ρ,k=>mT is ds _ k
theorem mS (t:Tg) (d:Dt) (ρ:aj):∀k,cJ t d ρ≠ .ex k:=by
 intro k;cases t with
 | nm i=>intro z;cases z
 | tp is=>
  cases d with
  | tup ds=>exact mT is ds ρ k
  | _=>intro z;cases z
theorem mx {Ek:Nat->Prop} {α:Type} {r:R α} {P:α->Prop} (nr:∀k,r≠ .ex k) (h:mR Ek r P):∃d,r= .ok d/\P d:=by
 cases r with
 | ok a=>exact⟨a,rfl,h⟩
 | ex k=>exact absurd rfl (nr k)
 | bad=>exact h.elim
theorem nM {sc:Scope} (gx:GX g Γ X) (hk:sc.kind= .function) (hb:sF sc.names Γ.names (aM Γ sc).1.N Γ.N (aM Γ sc).2=true):dB X sc (aM Γ sc).1.N (aM Γ sc).2:=by
 unfold sF at hb;rw[JR,JR] at hb;obtain⟨⟨h1,h2⟩,h3⟩:=hb;rw[Kr] at h1 h3;refine⟨hk,λy hy=>?_,λy hy e=>?_,λj i hj=>?_,by simpa using h2⟩
 ·have:=h1 y hy;rw[JR] at this;exact Ke this.1
 ·have:=h1 y hy;rw[JR,e] at this;have h:=this.2;simp at h;exact gx.fre y.1 h
 ·have bZ:j < (aM Γ sc).2.length:=(JU.mp hj).1;have:=h3 j (KB.mpr bZ);rw[hj] at this;simp only at this;cases hx:(aM Γ sc).1.N[j]? with
  | none=>rw[hx] at this;cases this
  | some x=>rw[hx] at this;simp only[JR] at this;exact⟨x,rfl,by rw[gx.N];exact Ke this.1,Ke this.2⟩
theorem dh {sc:Scope} {C:Addr} {s:Shared} {H:Hp} {fp:List Addr} {xe:Value->Shared->Prop} (gx:GX g Γ X) (B:dB X sc (aM Γ sc).1.N (aM Γ sc).2) (gH:(aM Γ sc).1.N.Nodup):GX g (aM Γ sc).1 (dN X sc (aM Γ sc).1.N C s H fp xe) where
 N:=rfl
 nd:=gH
 vis:=λx h=>by
  have hn:(aM Γ sc).1.names=sc.names:=rfl;rw[hn] at h;cases hl:sc.names.lookup x with
  | none=>rw[hl] at h;cases h
  | some kk=>
   have q:=aK (env:=X.env) hl;have q':(dN X sc (aM Γ sc).1.N C s H fp xe).env.scope.names.lookup x=_:=q;by_cases hc:(kk==NameKind.free&&X.env.scope.kind== .function&&X.env.kindOf x==some .cell)=true
   ·rw[if_pos hc] at q';exact .inr (.inl q')
   ·rw[if_neg hc] at q';rw[hl] at h;cases kk with
    | «local»=>exact .inl q'
    | cell=>exact .inr (.inl q')
    | free=>exact .inr (.inr q')
    | globalExplicit=>cases h
    | globalImplicit=>cases h
 loc:=λx h=>by
  have hn:(aM Γ sc).1.names=sc.names:=rfl;rw[hn] at h;cases hl:sc.names.lookup x with
  | none=>rw[hl] at h;cases h
  | some kk=>
   have q:=aK (env:=X.env) hl;have q':(dN X sc (aM Γ sc).1.N C s H fp xe).env.scope.names.lookup x=_:=q;rw[hl] at h;cases kk with
   | «local»=>rw[if_neg (by simp)] at q';exact⟨.inl q',.inr q'⟩
   | cell=>rw[if_neg (by simp)] at q';exact⟨.inr q',.inl (by show (sc.names.lookup x==some .cell)=true;rw[hl];rfl)⟩
   | free=>cases h
   | globalExplicit=>cases h
   | globalImplicit=>cases h
 gl:=λx h=>by
  have hn:(aM Γ sc).1.names=sc.names:=rfl;rw[hn] at h;cases hl:sc.names.lookup x with
  | none=>rw[hl] at h;cases h
  | some kk=>
   have q:=aK (env:=X.env) hl;have q':(dN X sc (aM Γ sc).1.N C s H fp xe).env.scope.names.lookup x=_:=q;rw[hl] at h;cases kk with
   | globalImplicit=>rw[if_neg (by simp)] at q';exact q'
   | «local»=>cases h
   | cell=>cases h
   | free=>cases h
   | globalExplicit=>cases h
 fre:=λx h=>by
  have hn:(aM Γ sc).1.names=sc.names:=rfl;rw[hn] at h;rcases h with hl | hl
  ·have q:=aK (env:=X.env) hl;have q':(dN X sc (aM Γ sc).1.N C s H fp xe).env.scope.names.lookup x=_:=q;rw[if_neg (by simp)] at q';exact .inl q'
  ·have q:=aK (env:=X.env) hl;have q':(dN X sc (aM Γ sc).1.N C s H fp xe).env.scope.names.lookup x=_:=q;by_cases hc:(NameKind.free==NameKind.free&&X.env.scope.kind== .function&&X.env.kindOf x==some .cell)=true
   ·rw[if_pos hc] at q';exact .inl q'
   ·rw[if_neg hc] at q';exact .inr q'
 calm:=gx.calm
 un:=gx.un
 con:=gx.con
 bl:=gx.bl
end
theorem join_some {α:Type} {o:Option (Option α)} {a:α} (h:o.join=some a):o=some (some a):=by
 cases o with
 | none=>cases h
 | some x=>cases x with
  | none=>cases h
  | some y=>simp at h;rw[h]
theorem dS {cap:List (Option Nat)} {ρ:aj} {j:Nat} {d:Dt} (h:(jx cap ρ)[j]?=some (some d)):∃i,cap[j]?=some (some i)/\ρ[i]?=some (some d):=by
 unfold jx at h;rw[Ka] at h;cases hc:cap[j]? with
 | none=>rw[hc] at h;cases h
 | some o=>
  rw[hc] at h;cases o with
  | none=>cases h
  | some i=>refine⟨i,rfl,join_some ?_⟩;simpa using h
theorem cZ {cap:List (Option Nat)} {σ:L2.St} {i j:Nat} {v:V} (hc:cap[j]?=some (some i)) (h:σ[i]?=some (some v)):(bT cap σ)[j]?=some (some v):=by unfold bT;rw[Ka,hc];simp[h]
theorem pX {δ:Option Nat}:∀{cap:List (Option Nat)} {j:Nat},vE δ cap=some j->∃i,δ=some i/\cap[j]?=some (some i)
 | [],j,h=>by simp[vE] at h
 | o::r,j,h=>by
  unfold vE at h;split at h
  ·rename_i c;rw[JR] at c;cases h;cases δ with
   | none=>simp at c
   | some i=>exact⟨i,rfl,by simp[Ke c.2]⟩
  ·obtain⟨k,h1,rfl⟩:=J6.mp h;obtain⟨i,h2,h3⟩:=pX h1;exact⟨i,h2,by simpa using h3⟩
section
variable {X:Cx} {Φ:Fm} {Γ:Gm} {F:FT} {g:G} {xv:Nat->Value} {CX:iw} {k:Nat} {K:Frag}
noncomputable def Ow.plus (o:Ow) (D:Addr):Ow:=⟨o.W,λb=>o.A b\/b=D,o.dr⟩
theorem hV {sc:Scope} {i j:Nat} (hc:(aM Γ sc).2[j]?=some (some i)):cn (aM Γ sc).1 j=cn Γ i:=by have e:(aM Γ sc).1.M=yY (aM Γ sc).2 Γ.M:=rfl;unfold cn;rw[e];unfold yY;rw[Ka,hc];simp
theorem mq {i:Nat}:∀{cap:List (Option Nat)} {j:Nat},cap[j]?=some (some i)->∃j',vE (some i) cap=some j'/\cap[j']?=some (some i)
 | [],j,h=>by cases h
 | o::r,j,h=>by
  unfold vE;by_cases e:o=some i
  ·refine⟨0,?_,by rw[e];rfl⟩;rw[e];simp
  ·rw[if_neg (by simp[e])];cases j with
   | zero=>cases h;exact absurd rfl e
   | succ j=>obtain⟨j',h1,h2⟩:=mq (cap:=r) (j:=j) h;exact⟨j' + 1,by rw[h1];rfl,h2⟩
theorem ER.aM {sc:Scope} {o:Ow} {ρ:aj} {S:Sx} {σ:L2.St} {H:Hp} {D:Addr} (er:ER Φ Γ o ρ S σ H) (B:dB X sc (aM Γ sc).1.N (aM Γ sc).2) (gH:(Rx.aM Γ sc).1.N.Nodup) (hD:H D=none):
  ER Φ (Rx.aM Γ sc).1 (o.plus D) (jx (Rx.aM Γ sc).2 ρ) S (bT (Rx.aM Γ sc).2 σ) (upd H D (.lst [])):=by
 have s:=Mx.bu hD (.lst []);have av:∀b,(o.A b\/b=D)->o.A b\/H b=none:=λb z=>z.elim .inl λe=> .inr (by rw[e];exact hD)
 refine⟨?_,λa h=> .inl (er.wa a h),λa h=> .inl (er.da a h),λa h=>?_,λj d h=>?_,λj ks vs h=>?_,λj j' a d e hm hm' h1 h2 h3 h4=>?_,λa h=>?_,er.drn,λj a hj ha=>?_,er.dr0,er.ent.trans (aF.of_same s)⟩
 ·unfold bT jx;rw[JZ,JZ]
 ·rcases h with h | h
  ·obtain⟨x,hx⟩:=er.al a h;exact⟨x,s _ _ hx⟩
  ·subst h;exact⟨_,ar⟩
 ·obtain⟨i,hc,hr⟩:=dS h;obtain⟨v,h1,h2⟩:=er.val i d hr;refine⟨v,cZ hc h1,?_⟩;rw[hV hc];by_cases hm:cn Γ i=true
  ·rw[if_pos hm] at h2 ⊢;cases d with
   | lst ds=>obtain⟨a,xs,e1,e2,e3,e4,e5,e6,e7⟩:=h2;exact⟨a,xs,e1,s _ _ e2,.inl e3,e4,e5,e6,(e7.aU av).same s⟩
   | bK ks vs=>obtain⟨a,xs,e1,e2,e3,e4,e5,e6,e8,e9,e7⟩:=h2;exact⟨a,xs,e1,s _ _ e2,.inl e3,e4,e5,e6,cX.tups e8 λb ys z=>s _ _ z,e9,(e7.aU av).same s⟩
   | _=>exact RV.same (RV.aU av h2) s
  ·rw[if_neg hm] at h2 ⊢;exact(h2.aU av).same s
 ·obtain⟨i,hc,hr⟩:=dS h;have hk:=er.dk i ks vs hr;obtain⟨j',k1,k2⟩:=mq hc;obtain⟨x,n1,n2,_⟩:=B.qM j i hc;obtain⟨x',wU,Af,_⟩:=B.qM j' i k2;rw[n2] at Af;cases Af;show vE Γ.κ (Rx.aM Γ sc).2=some j;rw[hk,k1,fP gH n1 wU]
 ·obtain⟨i,hc,hr⟩:=dS h1;obtain⟨i',kR,wz⟩:=dS h2;rw[hV hc] at hm;rw[hV kR] at hm';obtain⟨v,k1,_⟩:=er.val i _ hr;obtain⟨v',Hl,_⟩:=er.val i' _ wz;rw[cZ hc k1] at h3;rw[cZ kR Hl] at h4;cases h3;cases h4;have:=er.inj i i' a d e hm hm' hr wz k1 Hl;subst this;obtain⟨x,n1,n2,_⟩:=B.qM j i hc;obtain⟨x',wU,Af,_⟩:=B.qM j' i kR;rw[n2] at Af;cases Af;exact fP gH n1 wU
 ·obtain⟨ns,e1,e2⟩:=er.drw a h;exact⟨ns,e1,s _ _ e2⟩
 ·obtain⟨i,h1,h2⟩:=pX (show vE Γ.δ (Rx.aM Γ sc).2=some j from hj);exact cZ h2 (er.drs i a h1 ha)
theorem sN {sc:Scope} {x:Str} {i:Nat} (B:dB X sc (aM Γ sc).1.N (aM Γ sc).2) (h:d6 (aM Γ sc).1 x=some i):(aM Γ sc).2[i]?=some none:=by
 obtain⟨a,b,c⟩:=fV h;have bZ:i < (aM Γ sc).2.length:=by rw[B.len];exact(JU.mp c).1
 cases hc:(aM Γ sc).2[i]? with
 | none=>rw[List.getElem?_eq_none_iff] at hc;lia
 | some o=>
  cases o with
  | none=>rfl
  | some j=>obtain⟨y,n1,_,n3⟩:=B.qM i j hc;rw[c] at n1;cases n1;have hn:(aM Γ sc).1.names=sc.names:=rfl;rw[hn,n3] at a;cases a
theorem nP {cap:List (Option Nat)} {σ:L2.St} {i:Nat} (h:cap[i]?=some none):(bT cap σ)[i]?=some none:=by unfold bT;rw[Ka,h];rfl
theorem iR {σ0:L2.St} {t:Tg} {K:Frag} (h:∀i∈aI t,σ0[i]?=some none):GL σ0 (yE K t):=by
 have many:∀{is:List Nat},(∀i∈is,σ0[i]?=some none)->BE σ0 (u3 is):=by
  intro is
  induction is with
  | nil=>intro _;exact wg
  | cons i is ih=>intro hs;exact tI (hs i JX) (ih λj hj=>hs j (JV _ hj))
 cases t with
 | nm i=>exact we (h i (by simp[aI]))
 | tp is=>exact zt (many h)
theorem lC {sc:Scope} {e:Expr} {t:Tg} {σ:L2.St} (B:dB X sc (aM Γ sc).1.N (aM Γ sc).2) (h:nN (aM Γ sc).1 e=some t):∀i∈aI t,(bT (aM Γ sc).2 σ)[i]?=some none:=λi hi=>by obtain⟨_,x,hx⟩:=d7 h i hi;exact nP (sN B hx)
noncomputable def yN (Γ:Gm) (ρ:aj) (σ:L2.St) (D:Addr):Prop:=∀(j:Nat) (d:List Dt),cn Γ j=true->ρ[j]?=some (some (.lst d))->σ[j]?≠some (some (.ref D))
theorem qA {H:Hp} {D:Addr} {acc br:List V} (hD:H D=some (.lst acc)):aF (λb=>b=D) H (upd H D (.lst br)):=⟨λb o h n=>by rw[ah n];exact h,Mx.jl hD⟩
theorem ER.emit {o:Ow} {ρ:aj} {S:Sx} {σ:L2.St} {H:Hp} {D:Addr} {acc br:List V} (er:ER Φ Γ o ρ S σ H) (hD:H D=some (.lst acc)) (hn:yN Γ ρ σ D) (oD:o.A D) (nd:o.dr≠some D) (h0:∀x,Φ.H0 D=some x->Φ.d0=some D):ER Φ Γ o ρ S σ (upd H D (.lst br)):=by
 have up:aF (λb=>b=D) H (upd H D (.lst br)):=qA hD;have uA:∀b,b=D->o.A b:=λb z=>by rw[z];exact oD
 refine⟨er.len,er.wa,er.da,λa ha=>?_,λj dd h=>?_,er.dk,er.inj,λa ha=>?_,er.drn,er.drs,er.dr0,?_⟩
 ·obtain⟨x,hx⟩:=er.al a ha;exact up.al hx λz=>⟨_,by rw[z];exact ar⟩
 ·obtain⟨w,h1,h2⟩:=er.val j dd h;refine⟨w,h1,?_⟩;by_cases hm:cn Γ j=true
  ·rw[if_pos hm] at h2 ⊢;cases dd with
   | lst ds=>
    obtain⟨a,xs,e1,e2,e3,e4,e5,e6,e7⟩:=h2;have aD:a≠D:=λz=>hn j ds hm h (by rw[h1,e1,z])
    exact⟨a,xs,e1,up.kp _ _ e2 aD,e3,e4,e5,e6,e7.mono up uA λ_ z=>z⟩
   | bK ks vs=>
    obtain⟨a,xs,e1,e2,e3,e4,e5,e6,e8,e9,e7⟩:=h2;have aD:a≠D:=λz=>by rw[z,hD] at e2;cases e2
    exact⟨a,xs,e1,up.kp _ _ e2 aD,e3,e4,e5,e6,cX.tups e8 up.tp,e9,e7.mono up uA λ_ z=>z⟩
   | _=>exact RV.mono up uA (λ_ z=>z) h2
  ·rw[if_neg hm] at h2 ⊢;exact h2.mono up uA λ_ z=>z
 ·obtain⟨ns,e1,e2⟩:=er.drw a ha;exact⟨ns,e1,up.kp _ _ e2 (λz=>nd (by rw[<-z];exact ha))⟩
 ·refine⟨λb x h n=>up.kp _ _ (er.ent.kp b x h n) λz=>?_,λb xs h=>up.tp _ _ (er.ent.tp b xs h)⟩;subst z;exact n (h0 x h)
theorem Wk.less {A Y Y':Addr->Prop} {J:It} {H:Hp} {ds:List Dt} (w:Wk K A Y J H ds) (h:∀b,Y' b->Y b):Wk K A Y' J H ds:=⟨λi H1 hi e=>w.go i H1 hi (e.mono h),λH1 e=>w.stop H1 (e.mono h),λi x H1 H2 hi e y=>w.yld i x H1 H2 hi (e.mono h) y⟩
theorem IO.Hy {Φ:Fm} {Γ:Gm} {o:Ow} {ρ:aj} {S:Sx} {σ:L2.St} {it:nk} {nl:Bool} {H H1:Hp} {ds:List Dt} {J:It} (io:IO Φ.K o it nl H ds J H1) (er:ER Φ Γ o ρ S σ H1) (h:(decide (r8 it<=1)||nl)=true):Wk Φ.K o.A o.d J H1 ds:=by
 rcases Bool.or_eq_true_iff.mp h with h | h
 ·exact io.w1 (JT h)
 ·exact(io.w2 h).less er.da
theorem Wk.plus {A Y:Addr->Prop} {J:It} {H:Hp} {ds:List Dt} {D:Addr} (w:Wk K A Y J H ds) (hD:H D=none):Wk K (λb=>A b\/b=D) (λb=>Y b\/b=D) J (upd H D (.lst [])) ds:=by
 have ex:∀H1,aF (λb=>Y b\/b=D) (upd H D (.lst [])) H1->aF Y H H1:=λH1 e=>⟨λb o h n=>by
   have nb:b≠D:=λz=>by rw[z,hD] at h;cases h
   exact e.kp b o (by rw[ah nb];exact h) λz=>z.elim n nb,λb xs h=>by
   have nb:b≠D:=λz=>by rw[z,hD] at h;cases h
   exact e.tp b xs (by rw[ah nb];exact h)⟩
 refine⟨λi H1 hi e=>w.go i H1 hi (ex H1 e),λH1 e=>w.stop H1 (ex H1 e),λi x H1 H2 hi e y=>?_⟩;obtain⟨s,d,hd,hv⟩:=w.yld i x H1 H2 hi (ex H1 e) y;refine⟨s,d,hd,λB hB=>hv B λb hb=>?_⟩;rcases hB b hb with (z | z) | z
 ·exact .inl z
 ·exact .inr (by rw[z];exact hD)
 ·by_cases nb:b=D
  ·exact .inr (by rw[nb];exact hD)
  ·rw[ah nb] at z;exact .inr z
structure vH (Φ:Fm) (Γ:Gm) (o:Ow) (D:Addr) (ρ:aj) (σ:L2.St) (S:Sx) (acc:List V) (es:List Dt) (H:Hp):Prop where
 at':H D=some (.lst acc)
 rv:ag Φ.K o.A H acc es
 er:ER Φ Γ o ρ S σ H
structure DW (Φ:Fm) (o:Ow) (D:Addr):Prop where
 oD:o.A D
 nd:o.dr≠some D
 h0:∀x,Φ.H0 D=some x->Φ.d0=some D
noncomputable def Yd (o:Ow) (D:Addr):Addr->Prop:=λb=>o.d b\/b=D
theorem ER.back {o:Ow} {ρ ρ':aj} {S S':Sx} {σ σ':L2.St} {H H':Hp} {D:Addr} (fx:DW Φ o D) (hn:yN Γ ρ σ D) (er:ER Φ Γ o ρ S σ H) (zg:ER Φ Γ o ρ' S' σ' H') (e:aF (Yd o D) H H') (B1:∃acc,H D=some (.lst acc)):ER Φ Γ o ρ S' σ H':=by
 have uA:∀b,Yd o D b->o.A b:=λb z=>z.elim (er.da b) λq=>by rw[q];exact fx.oD
 refine⟨er.len,er.wa,er.da,zg.al,λj dd h=>?_,er.dk,er.inj,zg.drw,zg.drn,er.drs,er.dr0,zg.ent⟩;obtain⟨w,h1,h2⟩:=er.val j dd h;refine⟨w,h1,?_⟩;by_cases hm:cn Γ j=true
 ·rw[if_pos hm] at h2 ⊢;cases dd with
  | lst ds=>
   obtain⟨a,xs,e1,e2,e3,e4,e5,e6,e7⟩:=h2;have aD:a≠D:=λz=>hn j ds hm h (by rw[h1,e1,z])
   exact⟨a,xs,e1,e.kp _ _ e2 (λz=>z.elim e5 aD),e3,e4,e5,e6,e7.mono e uA λ_ z=>z⟩
  | bK ks vs=>
   obtain⟨a,xs,e1,e2,e3,e4,e5,e6,e8,e9,e7⟩:=h2;obtain⟨acc,B1⟩:=B1;have aD:a≠D:=λz=>by rw[z,B1] at e2;cases e2
   exact⟨a,xs,e1,e.kp _ _ e2 (λz=>z.elim e5 aD),e3,e4,e5,e6,cX.tups e8 e.tp,e9,e7.mono e uA λ_ z=>z⟩
  | _=>exact RV.mono e uA (λ_ z=>z) h2
 ·rw[if_neg hm] at h2 ⊢;exact h2.mono e uA λ_ z=>z
theorem o8 {tg:Tg} {ts:Cs} {o:Ow} {D:Addr} {ρ:aj} {σ:L2.St} {J:It} {ds:List Dt} {H1:Hp} {tb:TB} {fb:aj->Sx->R (List Dt×Sx)} {m a0:Nat} (fx:DW Φ o D) (hp:∀i∈aI tg,plainS Γ i=true) (wk:Wk Φ.K o.A (Yd o D) J H1 ds) (hn:yN Γ ρ σ D)
  (hb:∀(ρ1:aj) (σ1:L2.St) (S:Sx) (acc:List V) (es:List Dt) (H2:Hp) (P:List Dt×Sx->Prop),yN Γ ρ1 σ1 D->(∀k,k∉aI tg->σ1[k]?=σ[k]?/\ρ1[k]?=ρ[k]?)->vH Φ Γ o D ρ1 σ1 S acc es H2->aF (Yd o D) H1 H2->acc.length + m<=a0 + ds.length * m->0 < ds.length->mR Φ.Ek (fb ρ1 S) P->
   ∀Q:Hp->Prop,(∀H5 r fq,P r->vH Φ Γ o D ρ1 σ1 r.2 fq (es++r.1) H5->aF (Yd o D) H2 H5->fq.length<=acc.length + m->Q H5)->tb σ1 H2 Q)
  {S:Sx} {acc:List V} {es:List Dt} {P:List Dt×Sx->Prop} (c:vH Φ Γ o D ρ σ S acc es H1) (ha:acc.length<=a0) (q:mR Φ.Ek (bE (bW tg (cO F ts) fb ρ) ds S) P) {Fn:Hp->Prop}
  (fin:∀H5 r fq,P r->vH Φ Γ o D ρ σ r.2 fq (es++r.1) H5->aF (Yd o D) H1 H5->fq.length<=a0 + ds.length * m->Fn H5):lK J (yE Φ.K tg) (kl Φ Γ F ts) tb σ Fn H1:=by
 refine⟨λi mm H2=>mm=ds.length - i/\i<=ds.length/\∃S2 kB tu,vH Φ Γ o D ρ σ S2 kB (es++tu) H2/\aF (Yd o D) H1 H2/\kB.length<=a0 + i * m/\mR Φ.Ek (bE (bW tg (cO F ts) fb ρ) (ds.drop i) S2) λr=>P (tu++r.1,r.2),
  ⟨_,rfl,Nat.zero_le _,S,acc,[],by rw[Ku];exact c,aF.refl,by lia,q⟩,?_⟩
 rintro i mm H2 ⟨rfl,hi,S2,kB,tu,c2,vw,eZ,q⟩;by_cases bZ:i < ds.length
 ·refine .inr ⟨wk.go i H2 bZ vw,λx H3 y=>?_⟩;obtain⟨s3,d,hd,hx⟩:=wk.yld i x H2 H3 bZ vw y;have q9:=hx o.A λb z=> .inl z
  have BU:=c2.er.grow s3;have E1:ds.drop i=d::ds.drop (i + 1):=by rw[List.drop_eq_getElem_cons bZ];congr 1;exact(JU.mp hd).2
  rw[E1] at q;unfold bE at q;rw[aa] at q;unfold bW at q;rw[aa] at q;obtain⟨ρ1,hρ,q⟩:=mx (mS _ _ _) q;refine uZ BU hp q9 hρ λσ1 E6 hk=>?_
  rw[aa] at q;refine⟨o,ρ1,S2,E6,ab q λb _ q H4 e4 D6=>?_⟩;have GQ:aF (Yd o D) H3 H4:=e4.mono λb z=> .inl z
  have Ja:yN Γ ρ1 σ1 D:=λj dd hm h1 h2=>by
   have nj:j∉aI tg:=λz=>by rw[(fT (hp j z)).1] at hm;cases hm
   obtain⟨k1,k2⟩:=hk j nj;rw[k1] at h2;rw[k2] at h1;exact hn j dd hm h1 h2
  have uA:∀b,Yd o D b->o.A b:=λb z=>z.elim (BU.da b) λq=>by rw[q];exact fx.oD
  have B0:H4 D=some (.lst kB):=e4.kp _ _ (s3 _ _ c2.at') fx.nd;have Hh:ag Φ.K o.A H4 kB (es++tu):=(c2.rv.same s3).mono GQ uA λ_ z=>z
  have BV:aF (Yd o D) H2 H4:=(aF.of_same s3).trans GQ;have hmul:ds.length * m=(ds.length - (i + 1)) * m + (i * m + m):=by
   rw[<-Nat.succ_mul i m,<-Nat.add_mul];congr 1
   lia
  have Hb:(i + 1) * m=i * m + m:=Nat.succ_mul i m;have hz:0<=(ds.length - (i + 1)) * m:=Nat.zero_le _;cases ye:b.1 with
  | false=>rw[ye] at q;refine CB ?_;refine⟨ds.length - (i + 1),by lia,rfl,bZ,b.2,kB,tu,⟨B0,Hh,c2.er.back fx hn D6 BV ⟨_,c2.at'⟩⟩,vw.trans BV,by lia,?_⟩;simp only[Bool.false_eq_true,if_false] at q;have q:mR Φ.Ek ((bE (bW tg (cO F ts) fb ρ) (ds.drop (i + 1)) b.2).bind λq=>R.ok (([]:List Dt)++q.1,q.2)) _:=q;rw[aa] at q;exact ab q λr _ q=>q
  | true=>
   rw[ye] at q;refine CC ?_;simp only[if_true] at q;refine hb ρ1 σ1 b.2 kB (es++tu) H4 _ Ja hk ⟨B0,Hh,D6⟩ (vw.trans BV) (by lia) (by lia) q _ λH5 r fq q c5 e5 l5=>?_
   rw[aa] at q;refine⟨ds.length - (i + 1),by lia,rfl,bZ,r.2,fq,tu++r.1,⟨c5.at',by rw[<-J5];exact c5.rv,c2.er.back fx hn c5.er (BV.trans e5) ⟨_,c2.at'⟩⟩,(vw.trans BV).trans e5,by lia,ab q λr' _ q=>?_⟩;have q:P (tu++(r.1++r'.1),r'.2):=q;rw[J5];exact q
 ·have e:i=ds.length:=by lia
  subst e;refine .inl ⟨wk.stop H2 vw,?_⟩;rw[List.drop_length] at q;have q:P (tu++[],S2):=q;rw[Ku] at q;exact fin H2 (tu,S2) kB q c2 vw eZ
theorem tf {o:Ow} {D:Addr} {c:C} {ρ:aj} {σ:L2.St} {S:Sx} {acc:List V} {es:List Dt} {H:Hp} {P:List Dt×Sx->Prop} (fx:DW Φ o D) (hn:yN Γ ρ σ D) (cs:vH Φ Γ o D ρ σ S acc es H) (hl:acc.length < sizeLine)
  (q:mR Φ.Ek ((ev F c ρ S).bind λy=>af (cV c y.1) (.ok ([y.1],y.2))) P) (Q:Hp->Prop) (fin:∀H5 r fq,P r->vH Φ Γ o D ρ σ r.2 fq (es++r.1) H5->aF (Yd o D) H H5->fq.length<=acc.length + 1->Q H5):qw D (bb Φ Γ F g.fr c) σ H Q:=by
 rw[aa] at q;refine⟨o,ρ,S,cs.er,ab q λy _ q v H5 eo5 er6=>?_⟩;obtain⟨gs,q⟩:=ay q;have e5:aF (Yd o D) H H5:=eo5.ext.mono λb z=> .inl z
 have Fj:H5 D=some (.lst acc):=eo5.ext.kp _ _ cs.at' fx.nd;have uA:∀b,Yd o D b->o.A b:=λb z=>z.elim (cs.er.da b) λq=>by rw[q];exact fx.oD
 have hv:RV Φ.K o.A H5 v y.1:=by
  unfold cV at gs;rw[Kv] at gs;rcases gs with gs | gs
  ·exact eo5.ju (JT gs)
  ·exact eo5.val.jr gs
 have up:aF (λb=>b=D) H5 (upd H5 D (.lst (acc++[v]))):=qA Fj;refine⟨acc,Fj,hl,fin _ ([y.1],y.2) (acc++[v]) q ⟨ar,?_,er6.emit Fj hn fx.oD fx.nd fx.h0⟩ (e5.trans (up.mono λb z=> .inr z)) (by simp)⟩;exact((cs.rv.mono e5 uA λ_ z=>z).append (ag.cons hv ag.nil)).mono up (λb z=>by rw[z];exact fx.oD) λ_ z=>z
theorem qz:2 * lim < sizeLine:=by rw[sizeLine_eq];decide
theorem jN {sc:Scope} {o:Ow} {ρ:aj} {S:Sx} {σ:L2.St} {H:Hp} {D:Addr} (er:ER Φ Γ o ρ S σ H) (B:dB X sc (aM Γ sc).1.N (aM Γ sc).2) (gH:(Rx.aM Γ sc).1.N.Nodup) (hD:H D=none):
  DW Φ (o.plus D) D/\yN (aM Γ sc).1 (jx (aM Γ sc).2 ρ) (bT (aM Γ sc).2 σ) D/\vH Φ (aM Γ sc).1 (o.plus D) D (jx (aM Γ sc).2 ρ) (bT (aM Γ sc).2 σ) S [] [] (upd H D (.lst [])):=by
 refine⟨⟨.inr rfl,λz=>?_,λx hx=>?_⟩,λj d hm h1 h2=>?_,⟨ar,ag.nil,er.aM B gH hD⟩⟩
 ·obtain⟨y,hy⟩:=er.al D (er.da D z);rw[hD] at hy;cases hy
 ·by_cases hz:Φ.d0=some D
  ·exact hz
  ·have:=er.ent.kp D x hx hz;rw[hD] at this;cases this
 ·obtain⟨ii,hc,IJ⟩:=dS h1;obtain⟨w',k1,k2⟩:=er.val ii _ IJ;rw[<-hV hc,if_pos hm] at k2;obtain⟨a',ez,ze,vt,_⟩:=k2;rw[cZ hc k1] at h2;cases h2;cases ze;rw[hD] at vt;cases vt
theorem px {sc:Scope} {o:Ow} {ρ:aj} {S S2:Sx} {σ:L2.St} {H H1 H2:Hp} {D:Addr} {acc:List V} {ds:List Dt} {c:C} (hc:lk c=0) (io:aF o.d H H1) (aw:ER Φ Γ o ρ S σ H1) (hD:H1 D=none) {ρ2:aj} {σ2:L2.St} (cs:vH Φ (aM Γ sc).1 (o.plus D) D ρ2 σ2 S2 acc ds H2) (ex:aF (Yd (o.plus D) D) (upd H1 D (.lst [])) H2):
  EO Φ.K g.fr o c H (.lst ds) (.ref D) H2/\ER Φ Γ o ρ S2 σ H2:=by
 have vw:aF o.d H1 H2:=⟨λb x h n=>by
   have nb:b≠D:=λz=>by rw[z,hD] at h;cases h
   exact ex.kp b x (by rw[ah nb];exact h) λz=>z.elim n nb,λb xs h=>by
   have nb:b≠D:=λz=>by rw[z,hD] at h;cases h
   exact ex.tp b xs (by rw[ah nb];exact h)⟩
 have nA:¬o.A D:=λz=>by obtain⟨y,hy⟩:=aw.al D z;rw[hD] at hy;cases hy
 have dn:H D=none:=aw.c8 io hD;have v0:RV Φ.K o.A H2 (.ref D) (.lst ds):=RV.du cs.at' nA (cs.rv.weak λb z=> .inl z);refine⟨⟨io.trans vw,v0.weak aw.d8,λ_=>v0,λ_=>v0.one,λ_ qP ed=>?_⟩,aw.step vw (λa ha=>cs.er.drw a ha) cs.er.drn⟩;cases ed;exact⟨D,acc,rfl,dn,cs.at',cs.rv.weak λb z=>z.elim (λz=> .inl (aw.d8 b z)) .inr,λ_=>cs.rv⟩
theorem uO {sc:Scope} {tg:Expr} {it:nk} {t:Tg} {ts:Cs} {c:C} (hK:Φ.K=X.K) (B:dB X sc (aM Γ sc).1.N (aM Γ sc).2) (gH:(aM Γ sc).1.N.Nodup) (Co:nN (aM Γ sc).1 tg=some t) {σ:L2.St} {H:Hp} {Q:VK}
  (q:bb Φ Γ F g.fr (.comp (aM Γ sc).2 it t ts c) σ H Q):lB (aM Γ sc).2 (ji Φ Γ F it) (yE X.K t) (kl Φ (aM Γ sc).1 F ts) (λD=>qw D (bb Φ (aM Γ sc).1 F g.fr c)) σ H Q:=by
 obtain⟨o,ρ,S,er,q⟩:=q;unfold ev at q;rw[aa] at q;refine⟨o,ρ,S,er,ab q λp _ q J H1 io aw D hD=>⟨iR (lC B Co),?_⟩⟩;obtain⟨g1,q⟩:=ay q;rw[JR] at g1;have eQ:=JT g1.1;have wk:=(io.Hy aw g1.2).plus hD;rw[aa] at q;have jW:=qz;obtain⟨fx,hn,cs⟩:=jN (X:=X) aw B gH hD;rw[<-hK];refine o8 (m:=1) (a0:=0) fx (λi hi=>(d7 Co i hi).1) wk hn (λρ1 σ1 S1 acc es H2 P n1 hk c1 e1 hl _ q Q fin=>tf fx n1 c1 (by lia) q Q fin) cs (Nat.zero_le _) q λH5 r fq q c5 e5 l5=>?_
 obtain⟨k1,k2⟩:=px (g:=g) (c:= .comp (aM Γ sc).2 it t ts c) rfl io.ext aw hD c5 e5;exact q _ _ k1 k2
theorem qo {sc:Scope} {tg lI:Expr} {it ia:nk} {t t2:Tg} {ts By:Cs} {c:C} (hK:Φ.K=X.K) (B:dB X sc (aM Γ sc).1.N (aM Γ sc).2) (gH:(aM Γ sc).1.N.Nodup) (Co:nN (aM Γ sc).1 tg=some t) (Cp:nN (aM Γ sc).1 lI=some t2) (Ce:∀i∈aI t2,i∉aI t) {σ:L2.St} {H:Hp} {Q:VK}
  (q:bb Φ Γ F g.fr (.jO (aM Γ sc).2 it t ts ia t2 By c) σ H Q):lB (aM Γ sc).2 (ji Φ Γ F it) (yE X.K t) (kl Φ (aM Γ sc).1 F ts) (λD=>DC (ji Φ (aM Γ sc).1 F ia) (yE X.K t2) (kl Φ (aM Γ sc).1 F By) (qw D (bb Φ (aM Γ sc).1 F g.fr c))) σ H Q:=by
 obtain⟨o,ρ,S,er,q⟩:=q;unfold ev at q;rw[aa] at q;refine⟨o,ρ,S,er,ab q λp _ q J H1 io aw D hD=>⟨iR (lC B Co),?_⟩⟩;obtain⟨g1,q⟩:=ay q;rw[JR] at g1;have eQ:=JT g1.1;have wk:=(io.Hy aw g1.2).plus hD;rw[aa] at q;have jW:=qz;obtain⟨fx,hn,cs⟩:=jN (X:=X) aw B gH hD;rw[<-hK];have hdiv:p.1.length * (lim / p.1.length)<=lim:=Nat.mul_div_le _ _;refine o8 (m:=lim / p.1.length) (a0:=0) fx (λi hi=>(d7 Co i hi).1) wk hn (λρ1 σ1 S1 acc es H2 P n1 hk c1 e1 hl hp0 q Q fin=>?_) cs (Nat.zero_le _) q λH5 r fq q c5 e5 l5=>?_
 ·refine⟨iR λi hi=>?_,?_⟩
  ·rw[(hk i (Ce i hi)).1];exact lC B Cp i hi
  ·rw[aa] at q;refine⟨o.plus D,ρ1,S1,c1.er,ab q λx2 _ q J2 H3 io2 BU=>?_⟩;obtain⟨g2,q⟩:=ay q;rw[JR] at g2;have eZ:=JT g2.1;have uA:∀b,Yd (o.plus D) D b->(o.plus D).A b:=λb z=>z.elim (BU.da b) λq=> .inr q
   have Jt:=(io2.w0 (JT g2.2)).less uA;have e3:aF (Yd (o.plus D) D) H2 H3:=io2.ext.mono λb z=> .inl z
   have rZ:x2.1.length<=lim / p.1.length:=(Nat.le_div_iff_mul_le hp0).mpr (by rw[Nat.mul_comm];exact eZ);refine o8 (m:=1) (a0:=acc.length) fx (λi hi=>(d7 Cp i hi).1) Jt n1 (λρ2 σ2 S2 kB tu H4 P2 n2 hk2 c2 e2 hl _ q Q fin=>tf fx n2 c2 (by lia) q Q fin) ⟨io2.ext.kp _ _ c1.at' fx.nd,c1.rv.mono e3 uA λ_ z=>z,BU⟩ (JW _) q λH5 r fq q c5 e5 l5=>?_
   exact fin H5 r fq q c5 (e3.trans e5) (by lia)
 ·obtain⟨k1,k2⟩:=px (g:=g) (c:= .jO (aM Γ sc).2 it t ts ia t2 By c) rfl io.ext aw hD c5 e5;exact q _ _ k1 k2
end
theorem p7 {k:Dt} {d:Mx.D} (h:iV k=some d):k=ofD d/\(∃ds,d= .tup ds)/\Mx.D.dep d<=8:=by
 unfold iV at h;split at h
 ·rename_i ds hk;split at h
  ·rename_i hd;cases h;exact⟨uk hk,⟨ds,rfl⟩,hd⟩
  ·cases h
 ·cases h
theorem nU {K:Frag} {A:Addr->Prop} {H:Hp} (d:Mx.D):∀{xs:Mx.Ent} {vs:List Dt},ag K A H (xs.map (·.2.2)) vs->
  (Mx.rT xs d=none/\rW d (xs.map λx=>ofD x.1) vs=none)\/∃v e,Mx.rT xs d=some v/\rW d (xs.map λx=>ofD x.1) vs=some e/\RV K A H v e
 | [],vs,_=> .inl ⟨rfl,by cases vs <;> rfl⟩
 | x::xs,[],h=>by unfold ag at h;exact h.elim
 | x::xs,v::vs,h=>by
  unfold ag at h;unfold Mx.rT rW;rw[Ky,List.find?_cons];simp only[eY,Option.some.injEq];by_cases e:x.1=d
  ·rw[Kk e,if_pos e];exact .inr ⟨_,_,rfl,rfl,h.1⟩
  ·rw[Kg e,if_neg e];exact nU d h.2
section
variable {X:Cx} {Φ:Fm} {Γ:Gm} {F:FT} {g:G} {o:Ow} {ρ:aj} {S:Sx} {σ:L2.St} {H:Hp}
theorem fw {i:Nat} {ks vs:List Dt} (er:ER Φ Γ o ρ S σ H) (hm:cn Γ i=true) (hr:ρ[i]?=some (some (.bK ks vs))):
  ∃(a:Addr) (xs:Mx.Ent),σ[i]?=some (some (.ref a))/\H a=some (Mx.cL Φ.P Φ.w a xs)/\Mx.cX H xs/\ks=xs.map (λx=>ofD x.1)/\ag Φ.K o.A H (xs.map (·.2.2)) vs:=by
 obtain⟨v,h1,h2⟩:=er.val i _ hr;rw[if_pos hm] at h2;obtain⟨a,xs,rfl,e2,_,_,_,_,e7,e8,e9⟩:=h2;exact⟨a,xs,h1,e2,e7,e8,e9⟩
noncomputable def Jk (P:Program) (w:World) (r:V->List V->Hp->VK->Prop) (to:TE) (t:TA):TE:=λσ H Q=>to σ H λx H1=>(∃p xs,x= .ref p/\H1 p=some (Mx.cL P w p xs))/\t σ H1 λvs H2=>r x vs H2 Q
theorem sV {pins:List (Addr×Obj)} {s:Shared} {p:Addr} {xs:Mx.Ent} (I:Inv X pins σ H s) (h:H p=some (Mx.cL X.prog X.w p xs)):s.TypeIs (.ref p) "dict"/\∀a,Value.ref p= .ref a->∃ob,s.heap.get? a=some ob/\ob.dict=none:=by obtain⟨⟨_,_,_,o,_,_,h1,h2,_⟩,_⟩:=I.hok p _ h;exact⟨⟨o,h1,h2.1⟩,λa e=>by cases e;exact⟨o,h1,h2.2.1⟩⟩
theorem Ar {oe e:Expr} {es:List Expr} {to:TE} {t:TA} {name:Str} {apos bY:Pos} {id:String} {r:V->List V->Hp->VK->Prop} (slot:Slot "dict" name id) (Cq:typeOf (.builtin id)=pure (.type "method_descriptor")) (hm:D0 X id r) (ho:PE X oe to) (ha:PA X (e::es) t)
  (l8:attributeBase oe name X.env (eval oe X.env)=eval oe X.env)
  (zE:((backTo bY (starEach (e::es) X.env)).all (λx=> !x.1)&&(backToKw bY (keywordEach [] X.env)).all (λx=>x.1.isSome)
   &&decide ((e::es).length + ([]:List Keyword).length + (if ([]:List Keyword).isEmpty then 0 else 1) < 30))=true)
  (fE:(apos.endLine==bY.line)=true) (hs:starEach (e::es) X.env=(false,eval e X.env)::starEach es X.env) (oo:(backTo bY (starEach es X.env)).any (·.1)=false):
  PE X (.Call (.Attribute oe name apos) (e::es) [] bY) (Jk X.prog X.w r to t):=by
 intro pins s σ H Q I h;refine wpAny_Call_method_late l8 zE fE rfl (bo (ho pins s σ H _ I h) λv s1 ⟨x,H1,I1,r1,ty,q1⟩=>?_);obtain⟨p,xs,rfl,hp⟩:=ty;cases r1;obtain⟨h1,h2⟩:=sV I1 hp;refine⟨"dict",id,PySem.F.plainAttrs_dict,slot,Cq,h1,h2,?_⟩;have hA:=ha bY pins s1 σ H1 _ I1 q1;rw[hs] at hA ⊢;refine Calls.callWith_builtin (by show (false||(backTo bY (starEach es X.env)).any (·.1))=false;rw[oo] <;> rfl) (Calls.evalArgs_plain ?_);exact bo hA λus s2 ⟨vs,H2,I2,r2,q2⟩=>hm pins s2 σ H2 (.ref p) vs _ us Q I2 rfl r2 q2
theorem pU {i:Nat} (h:mf ρ i=true):∃ks vs,ρ[i]?=some (some (.bK ks vs)):=by
 unfold mf at h;split at h
 ·exact⟨_,_,by assumption⟩
 ·cases h
theorem fB {i:Nat} {d:Dt} (h:ρ[i]?=some (some d)):cD ρ i= .ok d:=by unfold cD;rw[h]
theorem AS {y:Str} {i:Nat} {yp apos pos:Pos} {k e:Expr} {k' e':C} (hK:Φ.K=X.K) (hP:Φ.P=X.prog) (hw:Φ.w=X.w) (hu:X.A.units + 150 < cLine) (hm:cn Γ i=true) (hy:PE X (.Name y yp) (gw i)) (hk:PE X k (bb Φ Γ F g.fr k')) (he:PE X e (bb Φ Γ F g.fr e'))
  (hs:starEach [k,e] X.env=[(false,eval k X.env),(false,eval e X.env)]) (zM:starEach [e] X.env=[(false,eval e X.env)]) (fE:(apos.endLine==pos.line)=true):
  PE X (.Call (.Attribute (.Name y yp) "get" apos) [k,e] [] pos) (bb Φ Γ F g.fr (.n0 i k' e')):=by
 refine aN (Ar PySem.F.slot_dict_get PySem.F.type_dict_get (Mx.wR (by lia)) hy (bh hk (bh he cT (by rw[zM];rfl)) (by rw[hs,zM])) rfl (by rw[hs];rfl) fE (by rw[hs,zM]) (by rw[zM];rfl)) λσ H Q q=>?_
 obtain⟨o,ρ,S,er,q⟩:=q;unfold ev at q;obtain⟨gd,q⟩:=ay q;obtain⟨ks,vs,hr⟩:=pU gd;obtain⟨a,xs,h1,h2,h3,h4,h5⟩:=fw er hm hr;rw[hP,hw] at h2;rw[aa] at q;refine⟨.ref a,h1,⟨a,xs,rfl,h2⟩,o,ρ,S,er,ab q λp hp q x H1 aG aw=>?_⟩;rw[aa] at q;refine⟨o,ρ,p.2,aw,ab q λp2 dO q z H2 eo2 cC=>?_⟩;rw[fB hr,R.ai,aa] at q;obtain⟨a',ez,gG,iS,vy,HU,HV⟩:=fw cC hm hr;rw[h1] at gG;cases gG;rw[hP,hw] at iS;unfold sR at q;simp only at q;cases vB:iV p.1 with
 | none=>rw[vB] at q;exact q.elim
 | some d=>
  rw[vB] at q;dsimp only at q;obtain⟨ek,⟨dd,ed⟩,nq⟩:=p7 vB;have hx:Mx.DV H1 x d:=by have:=aG.val;rw[ek] at this;exact this.dv
  subst ed;obtain⟨b,us,rfl,_,_⟩:=hx.ae;refine⟨a,ez,.tup dd,b,z,rfl,rfl,iS,vy,hx.mono eo2.ext.tp,nq,?_⟩;have ee:=aG.ext.trans eo2.ext;rw[HU] at q;rcases nU (.tup dd) HV with ⟨g1,g2⟩ | ⟨v,e,g1,g2,g3⟩
  ·rw[g1];rw[g2] at q;exact q z H2 ⟨ee,eo2.val,λl=>eo2.ju (by rw[lk] at l;exact l),λl=>eo2.qu (by rw[lk] at l;exact l),λf=>by simp[fresh] at f⟩ cC
  ·rw[g1];rw[g2] at q;exact q v H2 ⟨ee,g3.weak cC.d8,λ_=>g3,λ_=>g3.one,λf=>by simp[fresh] at f⟩ cC
theorem rm {a b:List Mx.D} (h:ao a=ao b):a=b:=by have:=congrArg eD h;rw[cK,cK] at this;exact Option.some.inj this
theorem AZ {y:Str} {i:Nat} {p yp apos tX pos:Pos} (hK:Φ.K=X.K) (hP:Φ.P=X.prog) (hw:Φ.w=X.w) (hc:X.calm=true) (hu:X.A.units + 150 < cLine) (hG:Gl X "sorted") (hmg:X.mg "sorted"=none) (hm:cn Γ i=true) (hy:PE X (.Name y yp) (gw i))
  (fE:(apos.endLine==tX.line)=true) (gO:starEach [.Call (.Attribute (.Name y yp) "items" apos) [] [] tX] X.env=[(false,eval (.Call (.Attribute (.Name y yp) "items" apos) [] [] tX) X.env)]:=by rfl):
  PE X (.Call (.Name "sorted" p) [.Call (.Attribute (.Name y yp) "items" apos) [] [] tX] [] pos) (bb Φ Γ F g.fr (.srtI i)):=by
 intro pins s σ H Q I h;obtain⟨o,ρ,S,er,q⟩:=h;unfold ev at q;rw[aa] at q;obtain⟨d,hr,q⟩:=hJ q;rw[aa] at q;unfold sZ at q;split at q
 ·rename_i ks vs;split at q
  ·rename_i ms ns vD yi;obtain⟨gc,q⟩:=ay q;obtain⟨a,xs,h1,h2,h3,h4,h5⟩:=fw er hm hr;rw[hP,hw] at h2;have ek:=fQ vD;have ev:=fQ yi;have em:ms=xs.map (·.1):=rm (by rw[<-ek,h4,cw,List.map_map];rfl);subst ev;have jA:=h5.pG;have IC:ns.length=xs.length:=by have:=jA.length;rw[JZ] at this;exact this.symm
   have Hg:cy ms ns=(xs.zip ns).map λz=> .tup [z.1.1,z.2]:=by unfold cy;rw[em,List.zip_map_left,List.map_map];rfl
   refine wpAny_Call_Name_kw (b7 I hG hmg PyProof.Rows.boot_sorted ?_ (by decide) (by decide));refine PyProof.Rows.callWith_builtin1 ?_ (by rw[gO];rfl) (by rfl);rw[gO];show wpAny _ _ (spliced ((false,eval (.Call (.Attribute (.Name y yp) "items" apos) [] [] tX) X.env)::backTo pos [])) _ _ s;refine Calls.spliced_cons ?_;refine wpAny_Call_method0_late rfl fE (bo (hy pins s σ H (λx H1=>x= .ref a/\H1=H) I ⟨.ref a,h1,rfl,rfl⟩) λv s1 ⟨x,H1,I1,r1,e1,e2⟩=>?_);subst e1 e2;cases r1;obtain⟨t1,t2⟩:=sV I1 h2;obtain⟨⟨sm,_⟩,_⟩:=I1.hok a _ h2;refine⟨"dict","dict.items",PySem.F.plainAttrs_dict,PySem.F.slot_dict_items,PySem.F.type_dict_items,t1,t2,Calls.callWith_builtin rfl (PySem.evalArgs_none ?_)⟩;refine call_meetsIn PySem.F.slot_dict_items t1 PySem.F.entry_dict_items (PySem.F.args_dict_items_1 _) (Mx.mn a sm) ⟨t1,?_⟩;refine Calls.spliced_nil ?_;have I2:Inv X pins σ H1 {s1 with heap:=s1.heap.push {cls:= .type "dict_items",data:= .fields #[.ref a]},toks:=s1.toks}:=I1.kept λb o q=>JP _ q
   refine Mx.lr hu hc I2 ⟨_,JY _ rfl,rfl,rfl⟩ h2 h3 IC (λj x e g1 g2=>?_) (by rw[<-Hg];exact pA gc) λH' l zs es jq hl hz hso=>?_
   ·refine .cons (h3.key x (List.mem_of_getElem? g1)).1 (.cons ?_ .nil);obtain⟨x',k1,k2⟩:=jA.getD g2;rw[Ka,g1] at k1;cases k1;exact k2
   ·rw[<-Hg] at hso;have E4:=mU hso;have pr:PR Φ.K true [] [] H' (.lst (ao es)) (.ref l) (upd H' l (.lst zs)):=PR.k8 hl λA w=>ag.lg hz
    obtain⟨e1,e2⟩:=EO.pr (fr:=g.fr) (H:=H1) (c:= .srtI i) (er.grow jq) (aF.of_same jq) ag.nil (λ_=>trivial) (.inl rfl) pr λf=>by simp[fresh] at f
    rw[E4] at e1;exact q _ _ e1 e2
  ·exact q.elim
 ·exact q.elim
end
noncomputable def pM:Expr->Bool
 | .Starred ..=>false
 | .Slice ..=>false
 | .Set ..=>false
 | .Call (.Name _ _) [] _ _=>false
 | _=>true
theorem aP {e:Expr} (h:pM e=true) (es:List Expr) (env:Env):starEach (e::es) env=(false,eval e env)::starEach es env:=by cases e <;> first | rfl | (simp[pM] at h)
theorem Cc {e:Expr} (h:pM e=true):ku e:=by intro o i;cases e <;> first | rfl | (simp[pM] at h)
theorem wo {e:Expr} (h:pM e=true) (op:CmpOp):behindInMarks op e=false:=by cases e <;> first | rfl | (simp[pM] at h)
theorem eP {e:Expr} (h:pM e=true) (env:Env):∀x,foldedSetIterable e env x=pure x:=by intro x;cases e <;> first | rfl | (simp[pM] at h)
theorem bD {X:Cx} {Φ:Fm} {Γ:Gm} {F:FT} {e:Expr} {c:C} (h:∀ρ S,bR F c ρ S= .bad):PT X e (dI Φ Γ F c):=λpins s σ H Q I q=>by obtain⟨o,ρ,S,er,q⟩:=q;rw[h] at q;exact q.elim
section
variable {g:G} {xv:Nat->Value} {CX:iw} {k:Nat} {F:FT}
structure HD (g:G) (F:FT) (n:Nat) (Γ:Gm) (X:Cx) (Φ:Fm):Prop where
 e:∀e c,cE n g Γ e=some c->PE X e (bb Φ Γ F g.fr c)/\PT X e (dI Φ Γ F c)/\pM e=true
 es:∀es cs,rV n g Γ es=some cs->PA X es (jE Φ Γ F cs)/\cs.len=es.length/\∀e∈es,pM e=true
 ts:∀es cs,vS n g Γ es=some cs->xV X es (kl Φ Γ F cs)
 b:∀o es c pos,cB n g Γ o es=some c->PE X (.BoolOp o es pos) (bb Φ Γ F g.fr c)/\PW X (.BoolOp o es pos) (dI Φ Γ F c)
 i:∀tg e it,cI n g Γ tg e=some it->PI X tg e (ji Φ Γ F it)/\pM e=true
 c:∀f a as c p pos,pz n g Γ f a as=some c->PE X (.Call (.Name f p) (a::as) [] pos) (bb Φ Γ F g.fr c)/\PT X (.Call (.Name f p) (a::as) [] pos) (dI Φ Γ F c)
theorem lL {es:List Expr} {env:Env} {pos:Pos} (h:∀e∈es,pM e=true):(backTo pos (starEach es env)).any (·.1)=false:=by
 induction es with
 | nil=>rfl
 | cons e es ih=>rw[aP (h e JX)];show (false||(backTo pos (starEach es env)).any (·.1))=false;rw[ih λe' z=>h e' (JV _ z)];rfl
theorem oE {x y:Str} (h:(x==y)=false):x≠y:=λe=>by subst e;rw[beq_self_eq_true] at h;cases h
theorem bO {x:Str} (h:cR x=true):(x==("__debug__":Str))=false/\(x==("__classdict__":Str))=false/\x≠"__name__":=by unfold cR at h;rw[JR,JR] at h;have h1:=h.1.1;have h2:=h.1.2;have h3:=h.2;rw[Bool.not_eq_true'] at h1 h2 h3;exact⟨h1,h2,oE h3⟩
noncomputable def GE:C->Bool
 | .nt _ | .and .. | .or .. | .cmp .. | .ch .. | .var _ | .mvr _ | .call .. | .callD .. | .bi .. | .idx ..=>true
 | _=>false
theorem a9 {F:FT} {c:C} {ρ:aj} {S:Sx} (h:GE c=false):bR F c ρ S= .bad:=by cases c <;> first | rfl | cases h
theorem sD:∀t∈sC,AI t.2.2=true/\bootBuiltins t.1=some (Bo t.2.2):=by
 intro t ht;simp only[sC,J3,J4,or_false] at ht;rcases ht with rfl | rfl | rfl | rfl | rfl
 ·exact⟨rfl,PySem.boot_len⟩
 ·exact⟨rfl,PyProof.Rows.boot_min⟩
 ·exact⟨rfl,PyProof.Rows.boot_sorted⟩
 ·exact⟨rfl,PyProof.Rows.boot_tuple⟩
 ·exact⟨rfl,PyProof.Rows.boot_list⟩
theorem vO {x:Str} {n:Nat} {b:BI} (h:lP x n=some b):AI b=true/\bootBuiltins x=some (Bo b):=by unfold lP at h;obtain⟨t,h1,rfl⟩:=J6.mp h;have hm:=List.mem_of_find?_eq_some h1;have hp:=List.find?_some h1;rw[JR] at hp;rw[<-Ke hp.1];exact sD t hm
theorem yV {b:BI} (h:AI b=true):(∃id,Bo b= .builtin id)\/∃T,Bo b= .type T:=by cases b <;> first | exact .inl ⟨_,rfl⟩ | exact .inr ⟨_,rfl⟩ | cases h
theorem cN {x:Str} (h:g.bls.contains x=true):x∈g.bls:=by simpa using h
theorem Gj {X:Cx} {Φ:Fm} {Γ:Gm} {x:Str} {n:Nat} {b:BI} {a:Expr} {as:List Expr} {cs:Cs} {p pos:Pos} (hK:Φ.K=X.K) (gx:GX g Γ X) (hG:Gl X x) (hm:X.mg x=none) (hx:cR x=true) (hb:lP x n=some b) (hs:starEach (a::as) X.env=(false,eval a X.env)::starEach as X.env) (nu:(backTo pos (starEach as X.env)).any (·.1)=false)
  (ha:PA X (a::as) (jE Φ Γ F cs)):PE X (.Call (.Name x p) (a::as) [] pos) (bb Φ Γ F g.fr (.bi b cs)):=by
 obtain⟨h1,h2⟩:=vO hb;obtain⟨n1,n2,n3⟩:=bO hx;have hc:=vP (X:=X) b h1 gx.calm gx.un;rcases yV h1 with ⟨id,e⟩ | ⟨T,e⟩
 ·rw[e] at h2 hc;exact aN (mJ hc hG hm h2 ha n3 n1 hs nu) λσ H Q q=>tB hK q
 ·rw[e] at h2 hc;exact aN (j9 hc hG hm h2 ha n3 n1 hs nu) λσ H Q q=>tB hK q
theorem oq {X:Cx} {Φ:Fm} {sc:Scope} {N':List Str} {C:Addr} {s:Shared} {H:Hp} {fp:List Addr} (hX:HX g xv CX k F Φ X):HX g xv CX k F Φ (dN X sc N' C s H fp (pe X sc N' (jG Φ xv) C s H fp)) where
 K:=hX.K
 P:=hX.P
 w:=hX.w
 fx:=hX.fx
 room:=hX.room
 cx:=hX.cx
 st:=lz hX.st
 xgx:=λe s' h=>vc h
 xk:=hX.xk
theorem fW (n:Nat):∀(Γ:Gm) (X:Cx) (Φ:Fm),GX g Γ X->HX g xv CX k F Φ X->HD g F n Γ X Φ:=by
 induction n with
 | zero=>intro Γ X Φ gx hX;exact⟨λe c h=>by simp[cE] at h,λe c h=>by simp[rV] at h,λe c h=>by simp[vS] at h,λo e c p h=>by simp[cB] at h,λo e c h=>by simp[cI] at h,λf a as c p q h=>by simp[pz] at h⟩
 | succ n ih=>
  intro Γ X Φ gx hX;have I:=ih Γ X Φ gx hX;have hK:=hX.K;have hu:=gx.un;refine⟨λe c h=>?_,λes cs h=>?_,λes cs h=>?_,λo es c pos h=>?_,λtg e it h=>?_,λf a as c p pos h=>?_⟩
  ·
   unfold cE at h;split at h
   ·split at h
    ·cases h;exact⟨mQ rfl As,bD λρ S=>a9 rfl,rfl⟩
    ·cases h;exact⟨mQ rfl Ay,bD λρ S=>a9 rfl,rfl⟩
    ·cases h;exact⟨mQ rfl CY,bD λρ S=>a9 rfl,rfl⟩
    ·cases h;exact⟨mQ rfl Av,bD λρ S=>a9 rfl,rfl⟩
    ·cases h
   ·
    rename_i x p;split at h
    ·rename_i i hi;obtain⟨v1,v2,v3⟩:=ir hi;obtain⟨n1,n2,n3⟩:=bO v2;have hv:PE X (.Name x p) (gw i):=lj (by rw[gx.N];exact v3) (gx.vis x v1) n1 n2;split at h
     ·cases h
     rename_i hδκ;split at h
     ·rename_i hm;cases h;have:=Dh (Φ:=Φ) (F:=F) (fr:=g.fr) hv hm λz=>hδκ (by simp[z])
      exact⟨this,iq hK this (λ_=>rfl) (λρ S=>by rw[bR,ev];cases cD ρ i <;> rfl),rfl⟩
     ·rename_i hm;cases h;have:=Dp (Φ:=Φ) (F:=F) (fr:=g.fr) hv (by simpa using hm);exact⟨this,iq hK this (λ_=>rfl) (λρ S=>by rw[bR,ev];cases cD ρ i <;> rfl),rfl⟩
    ·split at h
     ·rename_i hg;rw[JR] at hg;obtain⟨d,h1,rfl⟩:=J6.mp h;obtain⟨u,k1,k2,k3⟩:=gx.con x d h1;exact⟨mQ k1 (xh (gx.gl x hg.1) k2 k3 (bO hg.2).1),bD λρ S=>a9 rfl,rfl⟩
     ·cases h
   ·obtain⟨a',h1,h⟩:=JO.mp h;obtain⟨b',h2,h⟩:=JO.mp h;cases h;exact⟨Dc hK (I.e _ _ h1).1 (I.e _ _ h2).1,bD λρ S=>a9 rfl,rfl⟩
   ·obtain⟨a',h1,h9⟩:=JO.mp h;clear h;split at h9
    ·cases h9;exact⟨Di (I.e _ _ h1).1,bD λρ S=>a9 rfl,rfl⟩
    ·cases h9;exact⟨Gk (I.e _ _ h1).1,Dl (I.e _ _ h1).2.1,rfl⟩
    ·cases h9
   ·obtain⟨k1,k2⟩:=I.b _ _ _ _ h;exact⟨k1,k2.pt,rfl⟩
   ·split at h
    ·obtain⟨a',h1,h⟩:=JO.mp h;obtain⟨b',h2,h⟩:=JO.mp h;cases h;have hm:=wo (I.e _ _ h2).2.2;exact⟨Dd hK hu (hm _) (I.e _ _ h1).1 (I.e _ _ h2).1,AO hK hu (hm _) (I.e _ _ h1).1 (I.e _ _ h2).1,rfl⟩
    ·cases h
   ·split at h
    ·obtain⟨a',h1,h⟩:=JO.mp h;obtain⟨b',h2,h⟩:=JO.mp h;cases h;exact⟨AY hK (I.e _ _ h1).1 (I.e _ _ h2).1,bD λρ S=>a9 rfl,rfl⟩
    ·obtain⟨a',h1,h⟩:=JO.mp h;obtain⟨b',h2,h⟩:=JO.mp h;cases h;exact⟨AX hK (I.e _ _ h1).1 (I.e _ _ h2).1,bD λρ S=>a9 rfl,rfl⟩
    ·obtain⟨a',h1,h⟩:=JO.mp h;obtain⟨b',h2,h⟩:=JO.mp h;cases h;have k1:=λpos=>De (pos:=pos) hK (Cc (I.e _ _ h2).2.2) (I.e _ _ h1).1 (I.e _ _ h2).1
     refine⟨k1 _,iq hK (k1 _) (λ_=>rfl) (λρ S=>?_),rfl⟩;rw[bR,ev];cases ev F a' ρ S with
     | ok x=>
      simp only[R.ai];cases ev F b' ρ x.2 with
      | ok y=>simp only[R.ai];cases cQ x.1 y.1 <;> rfl
      | ex k=>rfl
      | bad=>rfl
     | ex k=>rfl
     | bad=>rfl
   ·obtain⟨cc,h1,h⟩:=JO.mp h;cases h;exact⟨Do (I.es _ _ h1).1,bD λρ S=>a9 rfl,rfl⟩
   ·obtain⟨cc,h1,h⟩:=JO.mp h;cases h;exact⟨Dg (I.es _ _ h1).1,bD λρ S=>a9 rfl,rfl⟩
   ·split at h
    ·obtain⟨k1,k2⟩:=I.c _ _ _ _ _ _ h;exact⟨k1,k2,rfl⟩
    ·
     split at h
     ·rename_i hm;rw[JR] at hm;have em:=Ke hm.1;subst em;split at h
      ·rename_i x xp;split at h
       ·rename_i i hi;split at h
        ·rename_i hκ;rw[JR] at hκ;obtain⟨a',h1,h⟩:=JO.mp h;obtain⟨b',h2,h⟩:=JO.mp h;cases h;obtain⟨v1,v2,v3⟩:=ir hi;obtain⟨n1,n2,n3⟩:=bO v2;have e2:=aP (I.e _ _ h2).2.2 [] X.env;exact⟨AS hK hX.P hX.w gx.un hκ.2 (lj (by rw[gx.N];exact v3) (gx.vis _ v1) n1 n2) (I.e _ _ h1).1 (I.e _ _ h2).1 (by rw[aP (I.e _ _ h1).2.2,e2];rfl) e2 hm.2,bD λρ S=>a9 rfl,rfl⟩
        ·cases h
       ·cases h
      ·cases h
     ·cases h
    ·cases h
   ·
    rename_i elt gens sc pos;split at h
    ·rename_i hk;split at h
     ·rename_i tg it ifs;obtain⟨hZ,h1,h⟩:=JO.mp h;obtain⟨jj,h2,h⟩:=JO.mp h;obtain⟨lD,h3,h⟩:=JO.mp h;obtain⟨e',h4,h⟩:=JO.mp h;split at h
      ·rename_i hb;cases h;rw[JR] at hb;have zG:sc.kind= .function:=Ke hk;have B:=nM gx zG hb.1;have gH:(aM Γ sc).1.N.Nodup:=JT hb.2;have J:=λC s H fp=>ih (aM Γ sc).1 (dN X sc (aM Γ sc).1.N C s H fp (pe X sc (aM Γ sc).1.N (jG Φ xv) C s H fp)) Φ (dh gx B gH) (oq hX)
       refine⟨aN (mK (xb:=pe X sc (aM Γ sc).1.N (jG Φ xv)) (body:=λacc env=>eO elt acc env) gx.calm B (iu hX.st hX.xgx) (I.i _ _ _ h1).1 (λlG acc env=>m9 ..) (λC s H fp=>oV (dh gx B gH) h2) (λC s H fp=>(J C s H fp).ts _ _ h3) (λC s H fp D=>ij ((J C s H fp).e _ _ h4).1) (eP (I.i _ _ _ h1).2 _)) λσ H Q q=>uO hK B gH h2 q,bD λρ S=>a9 rfl,rfl⟩
      ·cases h
     ·rename_i tg it ifs lI ia bG;obtain⟨hZ,h1,h⟩:=JO.mp h;obtain⟨jj,h2,h⟩:=JO.mp h;obtain⟨lD,h3,h⟩:=JO.mp h;obtain⟨mh,h5,h⟩:=JO.mp h;obtain⟨jk,h6,h⟩:=JO.mp h;obtain⟨mZ,h7,h⟩:=JO.mp h;obtain⟨e',h4,h⟩:=JO.mp h;split at h
      ·rename_i hb;cases h;rw[JR,JR] at hb;have zG:sc.kind= .function:=Ke hk;have B:=nM gx zG hb.1.1;have gH:(aM Γ sc).1.N.Nodup:=JT hb.1.2;have Ce:∀i∈aI jk,i∉aI jj:=λi hi z=>by have:=Kr.mp hb.2 i hi;simp[z] at this
       have J:=λC s H fp=>ih (aM Γ sc).1 (dN X sc (aM Γ sc).1.N C s H fp (pe X sc (aM Γ sc).1.N (jG Φ xv) C s H fp)) Φ (dh gx B gH) (oq hX)
       refine⟨aN (mK (xb:=pe X sc (aM Γ sc).1.N (jG Φ xv)) (body:=λacc env=>nextOf (.ListComp elt [⟨tg,it,ifs,0⟩,⟨lI,ia,bG,0⟩] sc pos) 1 ia acc env) gx.calm B (iu hX.st hX.xgx) (I.i _ _ _ h1).1 (λlG acc env=>nc ..) (λC s H fp=>oV (dh gx B gH) h2) (λC s H fp=>(J C s H fp).ts _ _ h3)
        (λC s H fp D=>qg gx.calm (qf hX.st) ((J C s H fp).i _ _ _ h5).1 (oV (dh gx B gH) h6) ((J C s H fp).ts _ _ h7) (ij ((J C s H fp).e _ _ h4).1) (eP ((J C s H fp).i _ _ _ h5).2 _)) (eP (I.i _ _ _ h1).2 _)) λσ H Q q=>qo hK B gH h2 h6 Ce q,bD λρ S=>a9 rfl,rfl⟩
      ·cases h
     ·cases h
    ·cases h
   ·cases h
  ·
   unfold rV at h;split at h
   ·cases h;exact⟨Dj,rfl,λe z=>by cases z⟩
   ·obtain⟨e',h1,h⟩:=JO.mp h;obtain⟨cc,h2,h⟩:=JO.mp h;cases h;obtain⟨k1,k2,k3⟩:=I.es _ _ h2;refine⟨AQ (aP (I.e _ _ h1).2.2 _ _) (I.e _ _ h1).1 k1,by simp[Cs.len,k2],λe z=>?_⟩;rcases J3.mp z with rfl | z
    ·exact(I.e _ _ h1).2.2
    ·exact k3 e z
  ·
   unfold vS at h;split at h
   ·cases h;exact λpins s σ H Q I q=>xw pins s σ H Q I (by obtain⟨o,ρ,S,er,q⟩:=q;rw[cO] at q;exact q _ aF.refl er)
   ·obtain⟨e',h1,h⟩:=JO.mp h;cases h;refine λpins s σ H Q I' q=>xx (I.e _ _ h1).2.1 pins s σ H Q I' ?_
    obtain⟨o,ρ,S,er,q⟩:=q;rw[cO] at q;exact⟨o,ρ,S,er,q⟩
   ·cases h
  ·
   unfold cB at h;split at h
   ·rename_i e;have k1:=(I.e _ _ h).1;have k2:=(I.e _ _ h).2.1;refine⟨Ax k1,?_⟩;cases o with
    | And=>exact xA k2
    | Or=>exact AG k2
   ·rename_i e es nr;obtain⟨e',h1,h⟩:=JO.mp h;obtain⟨cc,h2,h⟩:=JO.mp h;cases h;cases es with
    | nil=>exact(nr rfl).elim
    | cons b rest=>
     obtain⟨k1,k2⟩:=I.b o _ _ pos h2;cases o with
     | And=>exact⟨Da (I.e _ _ h1).1 k1,AN (I.e _ _ h1).2.1 k2⟩
     | Or=>exact⟨Gn (I.e _ _ h1).1 k1,Dm (I.e _ _ h1).2.1 k2⟩
   ·cases h
  ·
   unfold cI at h;split at h
   ·rename_i f p a q;split at h
    ·rename_i hf;have ef:=Ke hf;subst ef;split at h
     ·rename_i hg;rw[JR] at hg;obtain⟨a',h1,h⟩:=JO.mp h;cases h;exact⟨AW (gx.gl _ hg.1) (gx.bl _ (cN hg.2)) (aP (I.e _ _ h1).2.2 [] _) (I.e _ _ h1).1,rfl⟩
     ·cases h
    split at h
    ·rename_i hf;have ef:=Ke hf;subst ef;split at h
     ·split at h
      ·rename_i hg;rw[JR] at hg;obtain⟨a',h1,h⟩:=JO.mp h;cases h;exact⟨AR hK (gx.gl _ hg.1) (gx.bl _ (cN hg.2)) (aP (I.e _ _ h1).2.2 [] _) (I.e _ _ h1).1,rfl⟩
      ·cases h
     ·cases h
    ·obtain⟨c,h1,h⟩:=JO.mp h;cases h;exact⟨uP hK (I.e _ _ h1).1,rfl⟩
   ·rename_i f p a b q;split at h
    ·rename_i hf;have ef:=Ke hf;subst ef;split at h
     ·cases h
     ·cases h
    split at h
    ·rename_i hf;have ef:=Ke hf;subst ef;split at h
     ·split at h
      ·rename_i hg;rw[JR] at hg;split at h
       ·split at h
        ·rename_i hr;have er:=Ke hr;subst er;split at h
         ·rename_i jV;rw[JR] at jV;obtain⟨a',h1,h⟩:=JO.mp h;obtain⟨c',h2,h⟩:=JO.mp h;cases h;have e2:=aP (I.e _ _ h2).2.2 [] X.env;exact⟨A0 hK (gx.gl _ hg.1) (gx.bl _ (cN hg.2)) (gx.gl _ jV.1) (gx.bl _ (cN jV.2)) (by rw[aP (I.e _ _ h1).2.2];rfl) rfl e2 (I.e _ _ h1).1 (I.e _ _ h2).1,rfl⟩
         ·cases h
        ·obtain⟨a',h1,h⟩:=JO.mp h;obtain⟨b',h2,h⟩:=JO.mp h;cases h;have e2:=aP (I.e _ _ h2).2.2 [] X.env;exact⟨yA hK (gx.gl _ hg.1) (gx.bl _ (cN hg.2)) (by rw[aP (I.e _ _ h1).2.2,e2];rfl) e2 (I.e _ _ h1).1 (I.e _ _ h2).1,rfl⟩
       obtain⟨a',h1,h⟩:=JO.mp h;obtain⟨b',h2,h⟩:=JO.mp h;cases h;have e2:=aP (I.e _ _ h2).2.2 [] X.env;exact⟨yA hK (gx.gl _ hg.1) (gx.bl _ (cN hg.2)) (by rw[aP (I.e _ _ h1).2.2,e2];rfl) e2 (I.e _ _ h1).1 (I.e _ _ h2).1,rfl⟩
      ·cases h
     ·cases h
    ·obtain⟨c,h1,h⟩:=JO.mp h;cases h;exact⟨uP hK (I.e _ _ h1).1,rfl⟩
   ·obtain⟨c,h1,h⟩:=JO.mp h;cases h;exact⟨uP hK (I.e _ _ h1).1,(I.e _ _ h1).2.2⟩
  ·
   have tr:∀{c:C},(∀ρ S,bR F c ρ S=(ev F c ρ S).bind λx=>(cF x.1).bind λb=> .ok (b,x.2))->PE X (.Call (.Name f p) (a::as) [] pos) (bb Φ Γ F g.fr c)->PE X (.Call (.Name f p) (a::as) [] pos) (bb Φ Γ F g.fr c)/\PT X (.Call (.Name f p) (a::as) [] pos) (dI Φ Γ F c):=λhe h=>⟨h,iq hK h (λ_=>rfl) he⟩
   have D5:∀(b:BI) (cs:Cs) ρ S,bR F (.bi b cs) ρ S=(ev F (.bi b cs) ρ S).bind λx=>(cF x.1).bind λb=> .ok (b,x.2):=λb cs ρ S=>by
    rw[bR,ev];cases eh F cs ρ S with
    | ok x=>simp only[R.ai];cases dD b x.1 <;> rfl
    | ex k=>rfl
    | bad=>rfl
   have HK:∀(f:Nat) (cs:Cs) (ds:List Dt) ρ S,bR F (.call f cs ds) ρ S=(ev F (.call f cs ds) ρ S).bind λx=>(cF x.1).bind λb=> .ok (b,x.2):=λf cs ds ρ S=>by
    rw[bR,ev];cases eh F cs ρ S with
    | ok x=>simp only[R.ai];cases F f (x.1++ds) none <;> rfl
    | ex k=>rfl
    | bad=>rfl
   have Jy:∀(f:Nat) (cs:Cs) ρ S,bR F (.callD f cs) ρ S=(ev F (.callD f cs) ρ S).bind λx=>(cF x.1).bind λb=> .ok (b,x.2):=λf cs ρ S=>by
    rw[bR,ev];cases S.isSome with
    | false=>rfl
    | true=>
     simp only[guard_true];cases eh F cs ρ S with
     | ok x=>
      simp only[R.ai];cases x.2 with
      | none=>rfl
      | some s=>rfl
     | ex k=>rfl
     | bad=>rfl
   unfold pz at h;split at h
   ·rename_i hg;rw[JR] at hg;have Br:=gx.gl f hg.1;obtain⟨n1,n2,n3⟩:=bO hg.2;split at h
    ·rename_i kk np dU aS tP;split at h
     ·
      rename_i nq;have:aS=true:=nq;subst this;split at h
      ·rename_i y yp;split at h
       ·rename_i i hi;split at h
        ·cases h
        ·cases h
       ·cases h
      ·cases h
     ·rename_i nq;have:aS=false:=by simpa using nq
      subst this;split at h
      ·rename_i hn;rw[JR] at hn;have a1:=JT hn.1;have a2:=JT hn.2;obtain⟨es,h1,h⟩:=JO.mp h;cases h;obtain⟨k1,k2,k3⟩:=I.es _ _ h1;refine tr (HK _ _ _) (s_call hX Br n1 tP (Nat.sub_le _ _) ?_ (aP (k3 a JX) _ _) (lL λe z=>k3 e (JV _ z)) k1);rw[k2,List.length_drop,J9]
       lia
      ·cases h
    ·split at h
     ·rename_i hbl;have hm:=gx.bl f (cN hbl);split at h
      ·cases h
      split at h
      ·rename_i hisi;have ef:=Ke hisi;subst ef;split at h
       ·rename_i t tp hnl;split at h
        ·rename_i jV;rw[JR] at jV;obtain⟨T,h1,h⟩:=JO.mp h;obtain⟨a',h2,h⟩:=JO.mp h;cases h;have tn:t≠"__name__"/\(t==("__debug__":Str))=false:=by
          unfold o7 at h1;split at h1
          ·rename_i e;rw[Ke e];exact⟨by decide,by decide⟩
          split at h1
          ·rename_i e;rw[Ke e];exact⟨by decide,by decide⟩
          split at h1
          ·rename_i e;rw[Ke e];exact⟨by decide,by decide⟩
          split at h1
          ·rename_i e;rw[Ke e];exact⟨by decide,by decide⟩
          split at h1
          ·rename_i e;rw[Ke e];exact⟨by decide,by decide⟩
          ·cases h1
         exact tr (D5 _ _) (Df hK Br hm (gx.gl t jV.1) (gx.bl t (cN jV.2)) h1 tn.1 tn.2 (aP (I.e _ _ h2).2.2 _ _) (I.e _ _ h2).1)
        ·cases h
       ·cases h
      ·have regular:∀{c:C},((lP f (as.length + 1)).bind λi=>(rV n g Γ (a::as)).bind λes=>some (C.bi i es))=some c->PE X (.Call (.Name f p) (a::as) [] pos) (bb Φ Γ F g.fr c)/\PT X (.Call (.Name f p) (a::as) [] pos) (dI Φ Γ F c):=λ {c} h=>by obtain⟨b,h1,h⟩:=JO.mp h;obtain⟨es,h2,h⟩:=JO.mp h;cases h;obtain⟨k1,k2,k3⟩:=I.es _ _ h2;exact tr (D5 _ _) (Gj hK gx Br hm hg.2 h1 (aP (k3 a JX) _ _) (lL λe z=>k3 e (JV _ z)) k1)
       split at h
       ·rename_i r rp b rq;split at h
        ·rename_i hr;have er:=Ke hr;subst er;split at h
         ·rename_i jV;rw[JR] at jV;obtain⟨b',h1,h9⟩:=JO.mp h;clear h;split at h9
          ·rename_i hf;have ef:=Ke hf;subst ef;cases h9;exact tr (D5 _ _) (AU hK gx.calm Br hm (gx.gl _ jV.1) (gx.bl _ (cN jV.2)) (aP (I.e _ _ h1).2.2 [] _) (I.e _ _ h1).1)
          split at h9
          ·rename_i hf;have ef:=Ke hf;subst ef;cases h9;exact tr (D5 _ _) (AV hK gx.calm Br hm (gx.gl _ jV.1) (gx.bl _ (cN jV.2)) (aP (I.e _ _ h1).2.2 [] _) (I.e _ _ h1).1)
          ·cases h9
         ·cases h
        split at h
        ·cases h
        ·exact regular h
       ·rename_i r rp b c rq zz;split at h
        ·cases h
        ·exact regular h
       ·rename_i y m ap ip zz;split at h
        ·rename_i rZ;have em:=Ke rZ;subst em;split at h
         ·rename_i hf;rw[JR] at hf;have ef:=Ke hf.1;subst ef;split at h
          ·rename_i x xp;split at h
           ·rename_i i hi;split at h
            ·rename_i hκ;rw[JR] at hκ;cases h;obtain⟨v1,v2,v3⟩:=ir hi;obtain⟨q1,q2,q3⟩:=bO v2;exact⟨AZ hK hX.P hX.w gx.calm gx.un Br hm hκ.2 (lj (by rw[gx.N];exact v3) (gx.vis _ v1) q1 q2) hf.2,bD λρ S=>a9 rfl⟩
            ·cases h
           ·cases h
          ·cases h
         ·cases h
        ·exact regular h
       ·exact regular h
     ·cases h
   ·cases h
end
structure OI (Φ:Fm) (W:Addr->Prop) (o:Ow):Prop where
 w:o.W=W
 d:∀a,Φ.d0=some a->o.dr=some a
structure SO (Φ:Fm) (Γ:Gm) (W:Addr->Prop) (o:Ow) (H:Hp) (ρ':aj) (S':Sx) (σ':L2.St) (H':Hp):Prop where
 ex:∃o',OI Φ W o'/\ER Φ Γ o' ρ' S' σ' H'/\∀b,o'.A b->o.A b\/H b=none
 ext:aF o.A H H'
 al:∀b x,H b=some x->∃y,H' b=some y
structure RO (Φ:Fm) (W:Addr->Prop) (fF:Bool) (d:Dt) (S':Sx) (v:V) (H':Hp):Prop where
 val:RV Φ.K W H' v d
 ent:aF (λb=>Φ.d0=some b) Φ.H0 H'
 drw:∀a,Φ.d0=some a->∃ns:List Int,S'=some ns/\H' a=some (.lst (ns.map V.int))
 dG:fF=true->∀ds,d= .lst ds->∃a xs,v= .ref a/\Φ.H0 a=none/\H' a=some (.lst xs)/\ag Φ.K (λb=>W b\/b=a) H' xs ds
noncomputable def bP (Φ:Fm) (Γ:Gm) (W:Addr->Prop) (fF:Bool) (o:Ow) (H:Hp) (D:Ends) (p:Fl×aj×Sx):Prop:=match p.1 with
 | .next=>∀σ' H',SO Φ Γ W o H p.2.1 p.2.2 σ' H'->D.nx σ' H'
 | .brk=>∀σ' H',SO Φ Γ W o H p.2.1 p.2.2 σ' H'->D.bk σ' H'
 | .cnt=>∀σ' H',SO Φ Γ W o H p.2.1 p.2.2 σ' H'->D.ct σ' H'
 | .ret d=>∀v H',RO Φ W fF d p.2.2 v H'->D.rt v H'
inductive gK (Φ:Fm) (Γ:Gm) (F:FT) (W:Addr->Prop) (fF:Bool) (t:T) (D:Ends) (σ:L2.St) (H:Hp):Prop
 | mk (o:Ow) (ρ:aj) (S:Sx) (i:OI Φ W o) (e:ER Φ Γ o ρ S σ H) (m:mR Φ.Ek (ex F t ρ S) (bP Φ Γ W fF o H D)):gK Φ Γ F W fF t D σ H
inductive gV (Φ:Fm) (Γ:Gm) (F:FT) (W:Addr->Prop) (fF:Bool) (t:Ts) (D:Ends) (σ:L2.St) (H:Hp):Prop
 | mk (o:Ow) (ρ:aj) (S:Sx) (i:OI Φ W o) (e:ER Φ Γ o ρ S σ H) (m:mR Φ.Ek (aV F t ρ S) (bP Φ Γ W fF o H D)):gV Φ Γ F W fF t D σ H
theorem aZ {X:Cx} {e:Stmt} {t t':TS} (h:PS X e t) (hi:∀D σ H,t' D σ H->t D σ H):PS X e t':=λpins s σ H D I q=>h pins s σ H D I (hi D σ H q)
theorem qj {X:Cx} {e:List Stmt} {t t':TS} (h:qG X e t) (hi:∀D σ H,t' D σ H->t D σ H):qG X e t':=λpins s σ H D I q=>h pins s σ H D I (hi D σ H q)
section
variable {X:Cx} {Φ:Fm} {Γ:Gm} {F:FT} {g:G} {W:Addr->Prop} {fF:Bool} {o:Ow} {ρ:aj} {S:Sx} {σ:L2.St} {H H':Hp}
theorem ER.dA (er:ER Φ Γ o ρ S σ H) {H1:Hp} (e:aF o.d H H1):aF o.A H H1:=e.mono er.da
theorem ER.vV {S1:Sx} {ρ1:aj} {σ1:L2.St} {H1:Hp} (aw:ER Φ Γ o ρ1 S1 σ1 H1) (e:aF o.d H H1):∀b x,H b=some x->∃y,H1 b=some y:=λb x h=>e.al h λz=>aw.al b (aw.da b z)
theorem SO.eX {S':Sx} {ρ':aj} {σ':L2.St} (oi:OI Φ W o) (er:ER Φ Γ o ρ' S' σ' H') (e:aF o.d H H'):SO Φ Γ W o H ρ' S' σ' H':=⟨⟨o,oi,er,λb z=> .inl z⟩,e.mono er.da,er.vV e⟩
theorem SO.go {o':Ow} {H1 H2:Hp} {ρ2:aj} {S2:Sx} {σ2:L2.St} (e:aF o.A H H1) (hA:∀b,o'.A b->o.A b\/H b=none) (yd:∀b x,H b=some x->∃y,H1 b=some y) (h:SO Φ Γ W o' H1 ρ2 S2 σ2 H2):SO Φ Γ W o H ρ2 S2 σ2 H2:=by
 obtain⟨⟨o2,Eh,cC,BZ⟩,e2,a2⟩:=h;refine⟨⟨o2,Eh,cC,λb z=>?_⟩,⟨λb x h n=>?_,λb xs h=>e2.tp _ _ (e.tp _ _ h)⟩,λb x h=>?_⟩
 ·rcases BZ b z with q | q
  ·exact hA b q
  ·refine .inr ?_;cases hb:H b with
   | none=>rfl
   | some x=>obtain⟨y,hy⟩:=yd b x hb;rw[q] at hy;cases hy
 ·refine e2.kp _ _ (e.kp _ _ h n) λz=>?_
  rcases hA b z with q | q
  ·exact n q
  ·rw[h] at q;cases q
 ·obtain⟨y,hy⟩:=yd b x h;exact a2 b y hy
theorem lu {fr:Nat->Bool} {c:C} {d:Dt} {v:V} {H1:Hp} (h:cV c d=true) (eo:EO Φ.K fr o c H d v H1):RV Φ.K o.A H1 v d:=by
 unfold cV at h;rw[Kv] at h;rcases h with h | h
 ·exact eo.ju (JT h)
 ·exact eo.val.jr h
theorem yF {i:Nat} {c:C} {st:Stmt} (hp:plainS Γ i=true) (h:PS X st (jD (bb Φ Γ F g.fr c) (cH i))):PS X st (gK Φ Γ F W fF (.asg i c)):=aZ h λD σ H q=>by obtain⟨o,ρ,S,oi,er,q⟩:=q;unfold ex at q;rw[aa] at q;refine⟨o,ρ,S,er,ab q λp _ q v H1 eo aw=>?_⟩;obtain⟨gs,q⟩:=ay q;exact q _ _ (SO.eX oi (aw.set hp (lu gs eo)) eo.ext)
theorem Bf {i:Nat} {c:C} {st:Stmt} (hp:plainS Γ i=true) (hf:fresh g.fr c=true) (h:PS X st (jD (bb Φ Γ F g.fr c) (cH i))):PS X st (gK Φ Γ F W fF (.asgM i c)):=aZ h λD σ H q=>by
 obtain⟨o,ρ,S,oi,er,q⟩:=q;unfold ex at q;rw[aa] at q;refine⟨o,ρ,S,er,ab q λp _ q v H1 eo aw=>?_⟩;obtain⟨gs,q⟩:=ay q;have hv:RV Φ.K o.A H1 v p.1:=by
  by_cases hd:∃ds,p.1= .lst ds
  ·obtain⟨ds,hd⟩:=hd;obtain⟨a,xs,rfl,h1,h2,h3,h4⟩:=eo.dG hf ds hd;have na:¬o.A a:=λz=>by obtain⟨x,hx⟩:=er.al a z;rw[h1] at hx;cases hx
   rw[hd] at gs ⊢;refine RV.du h2 na ?_;unfold jg at gs;rcases Bool.or_eq_true_iff.mp gs with z | z
   ·exact(h4 (JT z)).weak λb w=> .inl w
   ·exact h3.fO z
  ·refine lu ?_ eo;unfold jg at gs;unfold cV;cases hq:p.1 with
   | lst ds=>exact absurd ⟨ds,hq⟩ hd
   | _=>rw[hq] at gs;exact gs
 exact q _ _ (SO.eX oi (aw.set hp hv) eo.ext)
theorem ER.own {S1:Sx} {H1:Hp} {fr:Nat->Bool} {c:C} {d:Dt} {v:V} {i:Nat} (oi:OI Φ W o) (er:ER Φ Γ o ρ S σ H) (aw:ER Φ Γ o ρ S1 σ H1) (hm:cn Γ i=true) (hδ:Γ.δ≠some i) (hf:fresh fr c=true) (hl:jg c d=true) (eo:EO Φ.K fr o c H d v H1):
  ∃o',OI Φ W o'/\ER Φ Γ o' (ρ.set i (some d)) S1 (σ.set i (some v)) H1/\∀b,o'.A b->o.A b\/H b=none:=by
 by_cases hd:∃ds,d= .lst ds
 ·obtain⟨ds,rfl⟩:=hd;obtain⟨a,xs,rfl,h1,h2,h3,h4⟩:=eo.dG hf ds rfl;have h4:ag Φ.K (λb=>o.A b\/b=a) H1 xs ds:=by
   unfold jg at hl;rcases Bool.or_eq_true_iff.mp hl with l | l
   ·exact h4 (JT l)
   ·exact h3.fO l
  have nA:¬o.A a:=λz=>by obtain⟨y,hy⟩:=er.al a z;rw[h1] at hy;cases hy
  have h0:Φ.H0 a=none:=by
   cases q:Φ.H0 a with
   | none=>rfl
   | some x=>
    by_cases qV:Φ.d0=some a
    ·exact absurd (er.da a (oi.d a qV)) nA
    ·rw[er.ent.kp a x q qV] at h1;cases h1
  have av:∀b,(o.A b\/b=a)->o.A b\/H b=none:=λb z=>z.elim .inl λe=> .inr (by rw[e];exact h1)
  have dA:∀b,o.d b->(o.A b\/b=a):=λb z=> .inl (er.da b z)
  refine⟨⟨o.W,λb=>o.A b\/b=a,o.dr⟩,⟨oi.w,oi.d⟩,⟨?_,λb z=> .inl (er.wa b z),λb z=> .inl (er.da b z),λb z=>?_,λj e he=>?_,Dk.set er.dk rfl,λj j' b e e' m m' k1 k2 k3 k4=>?_,aw.drw,aw.drn,λj b hj hb=>?_,aw.dr0,aw.ent⟩,av⟩
  ·rw[List.length_set,List.length_set];exact er.len
  ·rcases z with z | z
   ·exact aw.al b z
   ·rw[z];exact⟨_,h2⟩
  ·by_cases hj:j=i
   ·subst hj;rw[List.getElem?_set] at he;simp only[if_true] at he;split at he
    ·rename_i bZ;cases he;refine⟨.ref a,by rw[KA (by rw[er.len];exact bZ)],?_⟩;rw[if_pos hm];exact⟨a,xs,rfl,h2,.inr rfl,λz=>nA (er.wa a z),λz=>nA (er.da a z),h0,h4⟩
    ·cases he
   ·rw[J8 (Ne.symm hj)] at he;obtain⟨w,k1,k2⟩:=er.val j e he;refine⟨w,by rw[J8 (Ne.symm hj)];exact k1,?_⟩;by_cases hmj:cn Γ j=true
    ·rw[if_pos hmj] at k2 ⊢;cases e with
     | lst es=>obtain⟨b,ys,e1,e2,e3,e4,e5,e6,e7⟩:=k2;exact⟨b,ys,e1,eo.ext.kp _ _ e2 e5,.inl e3,e4,e5,e6,(e7.aU av).mono eo.ext dA λ_ z=>z⟩
     | bK ks vs=>obtain⟨b,ys,e1,e2,e3,e4,e5,e6,e8,e9,e7⟩:=k2;exact⟨b,ys,e1,eo.ext.kp _ _ e2 e5,.inl e3,e4,e5,e6,cX.tups e8 eo.ext.tp,e9,(e7.aU av).mono eo.ext dA λ_ z=>z⟩
     | _=>exact(RV.aU av k2).mono eo.ext dA λ_ z=>z
    ·rw[if_neg hmj] at k2 ⊢;exact(k2.aU av).mono eo.ext dA λ_ z=>z
  ·
   have other:∀{j:Nat} {e:List Dt} {b:Addr},j≠i->cn Γ j=true->(ρ.set i (some (.lst ds)))[j]?=some (some (.lst e))->(σ.set i (some (.ref a)))[j]?=some (some (.ref b))->b≠a/\ρ[j]?=some (some (.lst e))/\σ[j]?=some (some (.ref b)):=λ {j e b} hj m k1 k3=>by rw[J8 (Ne.symm hj)] at k1 k3;obtain⟨w,n1,n2⟩:=er.val j _ k1;rw[if_pos m] at n2;obtain⟨b',ys,e1,e2,_⟩:=n2;rw[k3] at n1;cases n1;cases e1;refine⟨λz=>?_,k1,k3⟩;rw[z,h1] at e2;cases e2
   by_cases hj:j=i
   ·by_cases pN:j'=i
    ·rw[hj,pN]
    ·obtain⟨n,_,_⟩:=other pN m' k2 k4;subst hj;have bZ:j < σ.length:=by have:=(JU.mp k3).1;rw[List.length_set] at this;exact this
     rw[KA bZ] at k3;cases k3;exact absurd rfl n
   ·obtain⟨n,p1,p2⟩:=other hj m k1 k3;by_cases pN:j'=i
    ·subst pN;have bZ:j' < σ.length:=by have:=(JU.mp k4).1;rw[List.length_set] at this;exact this
     rw[KA bZ] at k4;cases k4;exact absurd rfl n
    ·obtain⟨_,p3,p4⟩:=other pN m' k2 k4;exact er.inj j j' b e e' m m' p1 p3 p2 p4
  ·rw[J8 (λz=>hδ (by rw[z];exact hj))];exact aw.drs j b hj hb
 ·
  have nl:∀e,d≠ .lst e:=λe z=>hd ⟨e,z⟩
  have hv:RV Φ.K o.A H1 v d:=by
   unfold jg at hl;rcases Bool.or_eq_true_iff.mp hl with l | l
   ·exact eo.ju (JT l)
   ·cases d with
    | lst ds=>exact absurd rfl (nl ds)
    | _=>exact eo.val.jr l
  refine⟨o,oi,⟨?_,aw.wa,aw.da,aw.al,λj e he=>?_,Dk.set aw.dk hv.nd,λj j' b e e' m m' k1 k2 k3 k4=>?_,aw.drw,aw.drn,λj b hj hb=>?_,aw.dr0,aw.ent⟩,λb z=> .inl z⟩
  ·rw[List.length_set,List.length_set];exact er.len
  ·by_cases hj:j=i
   ·subst hj;rw[List.getElem?_set] at he;simp only[if_true] at he;split at he
    ·rename_i bZ;cases he;refine⟨v,by rw[KA (by rw[er.len];exact bZ)],?_⟩;rw[if_pos hm];cases d with
     | lst ds=>exact absurd rfl (nl ds)
     | bK=>cases hv.nd
     | _=>exact hv
    ·cases he
   ·rw[J8 (Ne.symm hj)] at he;obtain⟨w,k1,k2⟩:=aw.val j e he;exact⟨w,by rw[J8 (Ne.symm hj)];exact k1,k2⟩
  ·have other:∀{j:Nat} {e:List Dt},(ρ.set i (some d))[j]?=some (some (.lst e))->j≠i:=λ {j e} k1 z=>by
    subst z;rw[List.getElem?_set] at k1;simp only[if_true] at k1;split at k1
    ·cases k1;exact nl e rfl
    ·cases k1
   have n1:=other k1;have n2:=other k2;rw[J8 (Ne.symm n1)] at k1 k3;rw[J8 (Ne.symm n2)] at k2 k4;exact aw.inj j j' b e e' m m' k1 k2 k3 k4
  ·rw[J8 (λz=>hδ (by rw[z];exact hj))];exact aw.drs j b hj hb
theorem Be {i:Nat} {c:C} {st:Stmt} (hm:cn Γ i=true) (hδ:Γ.δ≠some i) (hf:fresh g.fr c=true) (h:PS X st (jD (bb Φ Γ F g.fr c) (cH i))):PS X st (gK Φ Γ F W fF (.asgM i c)):=aZ h λD σ H q=>by obtain⟨o,ρ,S,oi,er,q⟩:=q;unfold ex at q;rw[aa] at q;refine⟨o,ρ,S,er,ab q λp _ q v H1 eo aw=>?_⟩;obtain⟨gs,q⟩:=ay q;exact q _ _ ⟨ER.own oi er aw hm hδ hf gs eo,er.dA eo.ext,aw.vV eo.ext⟩
end
section
variable {X:Cx} {Φ:Fm} {Γ:Gm} {F:FT} {g:G} {W:Addr->Prop} {fF:Bool} {o:Ow} {ρ:aj} {S:Sx} {σ:L2.St} {H H':Hp}
theorem ib {Ek:Nat->Prop} {ρ:aj} {i:Nat} {P:List Dt->Prop} (h:mR Ek (mw ρ i) P):∃ds,ρ[i]?=some (some (.lst ds))/\P ds:=by
 unfold mw at h;split at h
 ·exact⟨_,by assumption,h⟩
 ·exact h.elim
theorem lE {a:Addr} {u:HO}:∀b x,H b=some x->∃y,upd H a u b=some y:=λb x h=>by
 by_cases z:b=a
 ·subst z;exact⟨_,ar⟩
 ·exact⟨x,by rw[ah z];exact h⟩
theorem kY {ρ:aj} {i:Nat} (h:isLE ρ i=true):∃ds,ρ[i]?=some (some (.lst ds)):=by
 unfold isLE at h;split at h
 ·exact⟨_,by assumption⟩
 ·cases h
theorem ER.chg {i:Nat} {a:Addr} {ds es:List Dt} {xs ys:List V} (er:ER Φ Γ o ρ S σ H) (hm:cn Γ i=true) (hr:ρ[i]?=some (some (.lst ds))) (hs:σ[i]?=some (some (.ref a))) (hx:H a=some (.lst xs)) (hy:ag Φ.K o.A H ys es):
  ER Φ Γ o (ρ.set i (some (.lst es))) S σ (upd H a (.lst ys))/\aF o.A H (upd H a (.lst ys))/\∀b x,H b=some x->∃y,upd H a (.lst ys) b=some y:=by
 obtain⟨v,h1,h2⟩:=er.val i _ hr;rw[if_pos hm] at h2;rw[hs] at h1;cases h1;obtain⟨b,zs,e1,e2,e3,e4,e5,e6,e7⟩:=h2;cases e1;have up:aF (λb=>b=a) H (upd H a (.lst ys)):=⟨λb o h n=>by rw[ah n];exact h,Mx.jl hx⟩;have sub:∀b,b=a->o.A b:=λb z=>by rw[z];exact e3
 refine⟨⟨by rw[List.length_set];exact er.len,er.wa,er.da,λb hb=>?_,λj d hd=>?_,Dk.set er.dk rfl,λj j' b d d' m m' k1 k2 k3 k4=>?_,λb hb=>?_,er.drn,er.drs,er.dr0,?_⟩,up.mono sub,lE⟩
 ·obtain⟨x,hx⟩:=er.al b hb;exact lE b x hx
 ·by_cases hj:j=i
  ·subst hj;rw[List.getElem?_set] at hd;simp only[if_true] at hd;split at hd
   ·cases hd;refine⟨.ref a,hs,?_⟩;rw[if_pos hm];exact⟨a,ys,rfl,ar,e3,e4,e5,e6,hy.mono up sub λ_ z=>z⟩
   ·cases hd
  ·rw[J8 (Ne.symm hj)] at hd;obtain⟨w,k1,k2⟩:=er.val j d hd;refine⟨w,k1,?_⟩;by_cases hmj:cn Γ j=true
   ·rw[if_pos hmj] at k2 ⊢;cases d with
    | lst dl=>obtain⟨b,DT,n1,n2,n3,n4,n5,n6,n7⟩:=k2;refine⟨b,DT,n1,up.kp _ _ n2 (λz=>?_),n3,n4,n5,n6,n7.mono up sub λ_ z=>z⟩;subst n1 z;exact hj (er.inj j i b dl ds hmj hm hd hr k1 hs)
    | bK ks vs=>obtain⟨b,DT,n1,n2,n3,n4,n5,n6,n8,n9,n7⟩:=k2;exact⟨b,DT,n1,up.kp _ _ n2 (λz=>by rw[z,hx] at n2;cases n2),n3,n4,n5,n6,cX.tups n8 up.tp,n9,n7.mono up sub λ_ z=>z⟩
    | _=>exact RV.mono up sub (λ_ z=>z) k2
   ·rw[if_neg hmj] at k2 ⊢;exact k2.mono up sub λ_ z=>z
 ·have same:∀{j:Nat} {d:List Dt},(ρ.set i (some (.lst es)))[j]?=some (some (.lst d))->∃d',ρ[j]?=some (some (.lst d')):=λ {j d} q=>by
   by_cases hj:j=i
   ·subst hj;exact⟨ds,hr⟩
   ·rw[J8 (Ne.symm hj)] at q;exact⟨d,q⟩
  obtain⟨d1,q1⟩:=same k1;obtain⟨d2,q2⟩:=same k2;exact er.inj j j' b d1 d2 m m' q1 q2 k3 k4
 ·obtain⟨ns,n1,n2⟩:=er.drw b hb;exact⟨ns,n1,up.kp _ _ n2 λz=>e5 (by rw[<-z];exact hb)⟩
 ·refine⟨λb x h n=>up.kp _ _ (er.ent.kp b x h n) λz=>?_,λb xs h=>up.tp _ _ (er.ent.tp b xs h)⟩;subst z;rw[h] at e6;cases e6
theorem eU {i:Nat} {ds:List Dt} (er:ER Φ Γ o ρ S σ H) (hm:cn Γ i=true) (hr:ρ[i]?=some (some (.lst ds))):∃a xs,σ[i]?=some (some (.ref a))/\H a=some (.lst xs)/\ag Φ.K o.A H xs ds:=by obtain⟨v,h1,h2⟩:=er.val i _ hr;rw[if_pos hm] at h2;obtain⟨a,xs,e1,e2,e3,e4,e5,e6,e7⟩:=h2;subst e1;exact⟨a,xs,h1,e2,e7⟩
theorem DJ {i:Nat} {c:C} {st:Stmt} (hm:cn Γ i=true) (h:PS X st (mX (Gu X.K "list" ql (gw i) (uX (bb Φ Γ F g.fr c) A7)))):PS X st (gK Φ Γ F W fF (.app i c)):=aZ h λD σ H q=>by obtain⟨o,ρ,S,oi,er,q⟩:=q;unfold ex at q;obtain⟨gl,q⟩:=ay q;obtain⟨ds,hr⟩:=kY gl;obtain⟨a,xs,h1,h2,h3⟩:=eU er hm hr;rw[aa] at q;refine⟨.ref a,h1,.inl ⟨rfl,_,cY.of h2⟩,o,ρ,S,er,ab q λp _ q v H1 eo aw=>?_⟩;obtain⟨gs,q⟩:=ay q;rw[aa] at q;obtain⟨qP,e1,q⟩:=ib q;rw[hr] at e1;cases e1;obtain⟨gl,q⟩:=ay q;obtain⟨a',ez,gG,iS,vy⟩:=eU aw hm hr;rw[h1] at gG;cases gG;have jW:=bH;have zO:=sizeLine_eq;have JF:lim=1000000:=rfl;have Cf:=JT gl;refine⟨a,ez,v,rfl,rfl,iS,by rw[vy.length];lia,?_⟩;obtain⟨k1,k2,k3⟩:=aw.chg hm hr h1 iS (vy.append (ag.cons (lu gs eo) ag.nil));exact q _ _ (SO.go (er.dA eo.ext) (λb z=> .inl z) (aw.vV eo.ext) ⟨⟨o,oi,k1,λb z=> .inl z⟩,k2,k3⟩)
theorem DQ {i:Nat} {c:C} {st:Stmt} (hm:cn Γ i=true) (h:PS X st (mX (Gu X.K "list" qm (gw i) (uX (bb Φ Γ F g.fr c) A7)))):PS X st (gK Φ Γ F W fF (.xtd i c)):=aZ h λD σ H q=>by
 obtain⟨o,ρ,S,oi,er,q⟩:=q;unfold ex at q;obtain⟨gl,q⟩:=ay q;obtain⟨ds,hr⟩:=kY gl;obtain⟨a,xs,h1,h2,h3⟩:=eU er hm hr;rw[aa] at q;refine⟨.ref a,h1,.inl ⟨rfl,_,cY.of h2⟩,o,ρ,S,er,ab q λp _ q v H1 eo aw=>?_⟩;obtain⟨gs,q⟩:=ay q;rw[aa] at q;obtain⟨qP,e1,q⟩:=ib q;rw[hr] at e1;cases e1;obtain⟨a',ez,gG,iS,vy⟩:=eU aw hm hr;rw[h1] at gG;cases gG;cases hd:p.1 with
 | lst es=>rw[hd] at q eo;obtain⟨gl,q⟩:=ay q;obtain⟨b,zs,rfl,f1,f2⟩:=eo.qu (JT gs);have jW:=bH;have Cf:=JT gl;refine⟨a,b,ez,zs,rfl,rfl,iS,f1,by rw[vy.length,f2.length];lia,?_⟩;obtain⟨k1,k2,k3⟩:=aw.chg hm hr h1 iS (vy.append f2);exact q _ _ (SO.go (er.dA eo.ext) (λb z=> .inl z) (aw.vV eo.ext) ⟨⟨o,oi,k1,λb z=> .inl z⟩,k2,k3⟩)
 | _=>rw[hd] at q;exact q.elim
theorem DL {i:Nat} {st:Stmt} (hm:cn Γ i=true) (h:PS X st (mX (Dx X.K "list" uI (gw i)))):PS X st (gK Φ Γ F W fF (.clr i)):=aZ h λD σ H q=>by obtain⟨o,ρ,S,oi,er,q⟩:=q;unfold ex at q;rw[aa] at q;obtain⟨ds,hr,q⟩:=ib q;obtain⟨a,xs,h1,h2,h3⟩:=eU er hm hr;obtain⟨k1,k2,k3⟩:=er.chg hm hr h1 h2 (ag.nil (K:=Φ.K) (A:=o.A));exact⟨.ref a,h1,.inl ⟨rfl,_,cY.of h2⟩,a,xs,rfl,rfl,h2,q _ _ ⟨⟨o,oi,k1,λb z=> .inl z⟩,k2,k3⟩⟩
theorem Bl {i:Nat} {k v:C} {st:Stmt} (hm:cn Γ i=true) (h:PS X st (jD (bb Φ Γ F g.fr v) (zq (gw i) (bb Φ Γ F g.fr k) yx))):PS X st (gK Φ Γ F W fF (.A3 i k v)):=aZ h λD σ H q=>by
 obtain⟨o,ρ,S,oi,er,q⟩:=q;unfold ex at q;obtain⟨gl,q⟩:=ay q;obtain⟨ds,hr⟩:=kY gl;obtain⟨a,xs,h1,h2,h3⟩:=eU er hm hr;rw[aa] at q;refine⟨o,ρ,S,er,ab q λp _ q x H1 eo aw=>?_⟩;rw[aa] at q;refine⟨.ref a,h1,o,ρ,p.2,aw,ab q λp2 _ q y H2 eo2 cC=>?_⟩;obtain⟨gs,q⟩:=ay q;rw[aa] at q;obtain⟨qP,e1,q⟩:=ib q;rw[hr] at e1;cases e1;obtain⟨a',ez,gG,iS,vy⟩:=eU cC hm hr;rw[h1] at gG;cases gG;cases hd:p2.1 with
 | int n=>
  rw[hd] at q eo2;simp only at q;cases hj:t7 ds.length n with
  | none=>rw[hj] at q;exact q.elim
  | some j=>
   rw[hj] at q;have hx:RV Φ.K o.A H2 x p.1:=by
    unfold cV at gs;rw[Kv] at gs;obtain⟨k1,k2,k3⟩:=eo.keep eo2.ext er.d8;rcases gs with gs | gs
    ·exact k2 (JT gs)
    ·exact k1.jr gs
   refine⟨a,ez,n,j,rfl,eo2.val.int_inv,iS,by rw[vy.length];exact hj,?_⟩;obtain⟨k1,k2,k3⟩:=cC.chg hm hr h1 iS (vy.set j hx);exact q _ _ (SO.go (er.dA (eo.ext.trans eo2.ext)) (λb z=> .inl z) (cC.vV (eo.ext.trans eo2.ext)) ⟨⟨o,oi,k1,λb z=> .inl z⟩,k2,k3⟩)
 | _=>rw[hd] at q;exact q.elim
theorem DN {c:C} {st:Stmt} (h:PS X st (mX (bb Φ Γ F g.fr c))):PS X st (gK Φ Γ F W fF (.E0 c)):=aZ h λD σ H q=>by obtain⟨o,ρ,S,oi,er,q⟩:=q;unfold ex at q;rw[aa] at q;exact⟨o,ρ,S,er,ab q λp _ q v H1 eo aw=>q _ _ (SO.eX oi aw eo.ext)⟩
theorem ER.h0 {a:Addr} (oi:OI Φ W o) (er:ER Φ Γ o ρ S σ H) (h:H a=none):Φ.H0 a=none:=by
 cases q:Φ.H0 a with
 | none=>rfl
 | some x=>
  by_cases qV:Φ.d0=some a
  ·obtain⟨y,hy⟩:=er.al a (er.da a (oi.d a qV));rw[h] at hy;cases hy
  ·rw[er.ent.kp a x q qV] at h;cases h
theorem yG {c:C} {st:Stmt} (hf:fF=true->fresh g.fr c=true) (h:PS X st (A8 (bb Φ Γ F g.fr c))):PS X st (gK Φ Γ F W fF (.ret c)):=aZ h λD σ H q=>by
 obtain⟨o,ρ,S,oi,er,q⟩:=q;unfold ex at q;rw[aa] at q;refine⟨o,ρ,S,er,ab q λp G7 q v H1 eo aw=>?_⟩;have hw:∀b,W b->o.wd b:=λb z=> .inl (by rw[oi.w];exact z)
 refine q _ _ ⟨eo.val.weak hw,aw.ent,λa ha=>aw.drw a (oi.d a ha),λhfF ds ed=>?_⟩;obtain⟨a,xs,h1,h2,h3,h4,_⟩:=eo.dG (hf hfF) ds ed;exact⟨a,xs,h1,er.h0 oi h2,h3,h4.weak λb z=>z.imp (hw b) id⟩
theorem Bj {i:Nat} {st:Stmt} (hm:cn Γ i=true) (hκ:Γ.κ≠some i) (h:PS X st (A8 (gw i))):PS X st (gK Φ Γ F W fF (.ret (.mvr i))):=aZ h λD σ H q=>by
 obtain⟨o,ρ,S,oi,er,q⟩:=q;unfold ex ev at q;rw[aa,aa] at q;obtain⟨d,hd,q⟩:=hJ q;obtain⟨v,k1,k2⟩:=er.val i d hd;rw[if_pos hm] at k2;have hw:∀b,W b->o.wd b:=λb z=> .inl (by rw[oi.w];exact z)
 have IT:∀b,W b->o.A b:=λb z=>er.wa b (by rw[oi.w];exact z)
 refine⟨v,k1,q _ _ ⟨(k2.val (er.nd hd hκ) er.wa er.da).weak hw,er.ent,λa ha=>er.drw a (oi.d a ha),λhfF ds ed=>?_⟩⟩;simp only at ed;subst ed;obtain⟨a,xs,e1,e2,e3,e4,e5,e6,e7⟩:=k2;exact⟨a,xs,e1,e6,e2,e7.weak λb z=>z.elim (IT b) λy=>by rw[y];exact e3⟩
theorem Bk {st:Stmt} (h:PS X st yD):PS X st (gK Φ Γ F W fF .retN):=aZ h λD σ H q=>by obtain⟨o,ρ,S,oi,er,q⟩:=q;exact q _ _ ⟨RV.eR,er.ent,λa ha=>er.drw a (oi.d a ha),λ_ ds ed=>by cases ed⟩
theorem Bi {st:Stmt} (h:PS X st uY):PS X st (gK Φ Γ F W fF .pas):=aZ h λD σ H q=>by obtain⟨o,ρ,S,oi,er,q⟩:=q;exact q _ _ (SO.eX oi er aF.refl)
theorem DK {st:Stmt} (h:PS X st uW):PS X st (gK Φ Γ F W fF .brk):=aZ h λD σ H q=>by obtain⟨o,ρ,S,oi,er,q⟩:=q;exact q _ _ (SO.eX oi er aF.refl)
theorem DM {st:Stmt} (h:PS X st yB):PS X st (gK Φ Γ F W fF .cnt):=aZ h λD σ H q=>by obtain⟨o,ρ,S,oi,er,q⟩:=q;exact q _ _ (SO.eX oi er aF.refl)
theorem bP.go {o':Ow} {H1:Hp} {D D':Ends} {p:Fl×aj×Sx} (e:aF o.A H H1) (hA:∀b,o'.A b->o.A b\/H b=none) (yd:∀b x,H b=some x->∃y,H1 b=some y)
  (hn:∀σ' H',D.nx σ' H'->D'.nx σ' H') (hb:∀σ' H',D.bk σ' H'->D'.bk σ' H') (hc:∀σ' H',D.ct σ' H'->D'.ct σ' H') (hr:∀v H',D.rt v H'->D'.rt v H') (h:bP Φ Γ W fF o H D p):bP Φ Γ W fF o' H1 D' p:=by
 unfold bP at h ⊢;cases hp:p.1 with
 | next=>rw[hp] at h;exact λσ' H' so=>hn _ _ (h σ' H' (SO.go e hA yd so))
 | brk=>rw[hp] at h;exact λσ' H' so=>hb _ _ (h σ' H' (SO.go e hA yd so))
 | cnt=>rw[hp] at h;exact λσ' H' so=>hc _ _ (h σ' H' (SO.go e hA yd so))
 | ret d=>rw[hp] at h;exact λv H' ro=>hr _ _ (h v H' ro)
theorem vh:qG X [] (gV Φ Γ F W fF .nil):=qj xt λD σ H q=>by obtain⟨o,ρ,S,oi,er,q⟩:=q;exact q _ _ (SO.eX oi er aF.refl)
theorem xU {st:Stmt} {lA:List Stmt} {t:T} {ts:Ts} (h1:PS X st (gK Φ Γ F W fF t)) (h2:qG X lA (gV Φ Γ F W fF ts)):qG X (st::lA) (gV Φ Γ F W fF (.cons t ts)):=qj (uF h1 h2) λD σ H q=>by
 obtain⟨o,ρ,S,oi,er,q⟩:=q;unfold aV at q;rw[aa] at q;refine⟨o,ρ,S,oi,er,ab q λp _ q=>?_⟩;unfold bP;cases hp:p.1 with
 | next=>rw[hp] at q;intro σ1 H1 so;obtain⟨⟨o1,F0,aw,Fh⟩,e1,a1⟩:=so;exact⟨o1,p.2.1,p.2.2,F0,aw,ab q λp2 _ q=>bP.go e1 Fh a1 (λ_ _ z=>z) (λ_ _ z=>z) (λ_ _ z=>z) (λ_ _ z=>z) q⟩
 | brk=>rw[hp] at q;exact q
 | cnt=>rw[hp] at q;exact q
 | ret d=>rw[hp] at q;exact q
theorem DP {t:C} {a b:Ts} {st:Stmt} (h:PS X st (DA (dI Φ Γ F t) (gV Φ Γ F W fF a) (gV Φ Γ F W fF b))):PS X st (gK Φ Γ F W fF (.ifs t a b)):=aZ h λD σ H q=>by
 obtain⟨o,ρ,S,oi,er,q⟩:=q;unfold ex at q;rw[aa] at q;refine⟨o,ρ,S,er,ab q λp _ q H1 e1 aw=>?_⟩;have go:∀{ts:Ts},mR Φ.Ek (aV F ts ρ p.2) (bP Φ Γ W fF o H D)->gV Φ Γ F W fF ts D σ H1:=λq=>⟨o,ρ,p.2,oi,aw,ab q λp2 _ q=>bP.go (er.dA e1) (λb z=> .inl z) (aw.vV e1) (λ_ _ z=>z) (λ_ _ z=>z) (λ_ _ z=>z) (λ_ _ z=>z) q⟩
 cases hp:p.1 with
 | true=>rw[hp] at q;exact CC (go q)
 | false=>rw[hp] at q;exact CB (go q)
theorem DO {tg:Tg} {it:nk} {b:Ts} {st:Stmt} (hK:Φ.K=X.K) (hp:∀i∈aI tg,plainS Γ i=true) (h:PS X st (Dz (ji Φ Γ F it) (yE X.K tg) (gV Φ Γ F W fF b))):PS X st (gK Φ Γ F W fF (.fr tg it b)):=aZ h λD σ H q=>by
 obtain⟨o,ρ,S,oi,er,q⟩:=q;unfold ex at q;rw[aa] at q;refine⟨o,ρ,S,er,ab q λp _ q J H1 io aw=>?_⟩;obtain⟨gs,q⟩:=ay q;have wk:Wk Φ.K o.A o.A J H1 p.1:=(Bool.or_eq_true_iff.mp gs).elim (λz=>io.w0 (JT z)) io.w2;refine⟨λi m σ2 H2=>m=p.1.length - i/\i<=p.1.length/\∃o2 ρ2 S2,OI Φ W o2/\ER Φ Γ o2 ρ2 S2 σ2 H2/\aF o.A H1 H2/\(∀b,o2.A b->o.A b\/H1 b=none)/\(∀b x,H1 b=some x->∃y,H2 b=some y)/\mR Φ.Ek (forL tg (aV F b) (p.1.drop i) ρ2 S2) (bP Φ Γ W fF o H D),
  ⟨_,rfl,Nat.zero_le _,o,ρ,p.2,oi,aw,aF.refl,λb z=> .inl z,λb x hx=>⟨x,hx⟩,q⟩,?_⟩
 rintro i m σ2 H2 ⟨rfl,hi,o2,ρ2,S2,Eh,cC,e2,BZ,GN,q⟩;have eH:aF o.A H H2:=(er.dA io.ext).trans e2;have aH:∀b x,H b=some x->∃y,H2 b=some y:=λb x hx=>by obtain⟨y,hy⟩:=aw.vV io.ext b x hx;exact GN b y hy
 have A1:∀b,o2.A b->o.A b\/H b=none:=λb z=>(BZ b z).imp id λq=>by
  cases hb:H b with
  | none=>rfl
  | some x=>obtain⟨y,hy⟩:=aw.vV io.ext b x hb;rw[q] at hy;cases hy
 by_cases bZ:i < p.1.length
 ·refine .inr ⟨wk.go i H2 bZ e2,?_⟩;have hd:∃d,p.1[i]?=some d:=⟨p.1[i],by simp[bZ]⟩;obtain⟨d0,qV⟩:=hd;have E1:p.1.drop i=d0::p.1.drop (i + 1):=by rw[List.drop_eq_getElem_cons bZ];congr 1;exact(JU.mp qV).2
  rw[E1] at q;unfold forL at q;rw[aa] at q;obtain⟨ρ3,hρ,q⟩:=mx (mS _ _ _) q;rw[aa] at q;refine⟨λσ3 H3=>i + 1<=p.1.length/\∃o3 ρ3 S3,OI Φ W o3/\ER Φ Γ o3 ρ3 S3 σ3 H3/\aF o.A H1 H3/\(∀b,o3.A b->o.A b\/H1 b=none)/\(∀b x,H1 b=some x->∃y,H3 b=some y)/\mR Φ.Ek (forL tg (aV F b) (p.1.drop (i + 1)) ρ3 S3) (bP Φ Γ W fF o H D),λσ3 H3 z=>⟨p.1.length - (i + 1),by lia,rfl,z⟩,λx H3 y=>?_⟩;obtain⟨s3,d,hd,hx⟩:=wk.yld i x H2 H3 bZ e2 y;rw[qV] at hd;cases hd;have q9:=hx o2.A BZ;rw[<-hK];refine uZ (cC.grow s3) hp q9 hρ λσ4 E6 _=>?_
  refine⟨o2,ρ3,S2,Eh,E6,ab q λp2 _ q=>?_⟩;have again:∀{σ5:L2.St} {H5:Hp},SO Φ Γ W o2 H3 p2.2.1 p2.2.2 σ5 H5->mR Φ.Ek (forL tg (aV F b) (p.1.drop (i + 1)) p2.2.1 p2.2.2) (bP Φ Γ W fF o H D)->i + 1<=p.1.length/\∃o3 ρ3 S3,OI Φ W o3/\ER Φ Γ o3 ρ3 S3 σ5 H5/\aF o.A H1 H5/\(∀b,o3.A b->o.A b\/H1 b=none)/\(∀b x,H1 b=some x->∃y,H5 b=some y)/\mR Φ.Ek (forL tg (aV F b) (p.1.drop (i + 1)) ρ3 S3) (bP Φ Γ W fF o H D):=λ {σ5 H5} so q=>by have Jj:=SO.go (o:=o) (H:=H1) (e2.trans (aF.of_same s3)) BZ (λb x hx=>by obtain⟨y,hy⟩:=GN b x hx;exact⟨y,s3 _ _ hy⟩) so;obtain⟨⟨o5,Je,D6,HZ⟩,e5,a5⟩:=Jj;exact⟨bZ,o5,_,_,Je,D6,e5,HZ,a5,q⟩
  unfold bP;cases dO:p2.1 with
  | next=>rw[dO] at q;exact λσ5 H5 so=>again so q
  | cnt=>rw[dO] at q;exact λσ5 H5 so=>again so q
  | brk=>rw[dO] at q;intro σ5 H5 so;have q:bP Φ Γ W fF o H D (.next,p2.2):=q;unfold bP at q;exact q σ5 H5 (SO.go (eH.trans (aF.of_same s3)) A1 (λb x hx=>by obtain⟨y,hy⟩:=aH b x hx;exact⟨y,s3 _ _ hy⟩) so)
  | ret d=>rw[dO] at q;have q:bP Φ Γ W fF o H D (.ret d,p2.2):=q;exact q
 ·have e:i=p.1.length:=by lia
  subst e;rw[List.drop_length] at q;have q:bP Φ Γ W fF o H D (.next,ρ2,S2):=q;unfold bP at q;exact .inl ⟨wk.stop H2 e2,q _ _ ⟨⟨o2,Eh,cC,A1⟩,eH,aH⟩⟩
end
section
variable {X:Cx} {Φ:Fm} {Γ:Gm} {F:FT} {g:G} {W:Addr->Prop} {fF:Bool} {o:Ow} {ρ:aj} {S:Sx} {σ:L2.St} {H:Hp}
theorem ER.newD {i:Nat} {a:Addr} (oi:OI Φ W o) (er:ER Φ Γ o ρ S σ H) (hm:cn Γ i=true) (hκ:Γ.κ=some i) (hδ:Γ.δ≠some i) (h1:H a=none):
  SO Φ Γ W o H (ρ.set i (some (.bK [] []))) S (σ.set i (some (.ref a))) (upd H a (Mx.cL Φ.P Φ.w a [])):=by
 have sm:=Mx.bu h1 (Mx.cL Φ.P Φ.w a []);have nA:¬o.A a:=λz=>by obtain⟨y,hy⟩:=er.al a z;rw[h1] at hy;cases hy
 have h0:Φ.H0 a=none:=by
  cases q:Φ.H0 a with
  | none=>rfl
  | some x=>
   by_cases qV:Φ.d0=some a
   ·exact absurd (er.da a (oi.d a qV)) nA
   ·rw[er.ent.kp a x q qV] at h1;cases h1
 have av:∀b,(o.A b\/b=a)->o.A b\/H b=none:=λb z=>z.elim .inl λe=> .inr (by rw[e];exact h1)
 refine⟨⟨⟨o.W,λb=>o.A b\/b=a,o.dr⟩,⟨oi.w,oi.d⟩,⟨?_,λb z=> .inl (er.wa b z),λb z=> .inl (er.da b z),λb z=>?_,λj e he=>?_,λj ks vs hj=>?_,λj j' b e e' m m' k1 k2 k3 k4=>?_,λb hb=>?_,er.drn,λj b hj hb=>?_,er.dr0,er.ent.trans (aF.of_same sm)⟩,av⟩,aF.of_same sm,λb x h=>⟨x,sm _ _ h⟩⟩
 ·rw[List.length_set,List.length_set];exact er.len
 ·rcases z with z | z
  ·obtain⟨x,hx⟩:=er.al b z;exact⟨x,sm _ _ hx⟩
  ·rw[z];exact⟨_,ar⟩
 ·by_cases hj:j=i
  ·subst hj;rw[List.getElem?_set] at he;simp only[if_true] at he;split at he
   ·rename_i bZ;cases he;refine⟨.ref a,by rw[KA (by rw[er.len];exact bZ)],?_⟩;rw[if_pos hm];exact⟨a,[],rfl,ar,.inr rfl,λz=>nA (er.wa a z),λz=>nA (er.da a z),h0,⟨(λx hx=>by cases hx),List.nodup_nil,Nat.zero_le _⟩,rfl,ag.nil⟩
   ·cases he
  ·rw[J8 (Ne.symm hj)] at he;obtain⟨w,k1,k2⟩:=er.val j e he;refine⟨w,by rw[J8 (Ne.symm hj)];exact k1,?_⟩;by_cases hmj:cn Γ j=true
   ·rw[if_pos hmj] at k2 ⊢;cases e with
    | lst es=>obtain⟨b,ys,e1,e2,e3,e4,e5,e6,e7⟩:=k2;exact⟨b,ys,e1,sm _ _ e2,.inl e3,e4,e5,e6,(e7.aU av).same sm⟩
    | bK ks vs=>obtain⟨b,ys,e1,e2,e3,e4,e5,e6,e8,e9,e7⟩:=k2;exact⟨b,ys,e1,sm _ _ e2,.inl e3,e4,e5,e6,cX.tups e8 λc zs z=>sm _ _ z,e9,(e7.aU av).same sm⟩
    | _=>exact(RV.aU av k2).same sm
   ·rw[if_neg hmj] at k2 ⊢;exact(k2.aU av).same sm
 ·by_cases pN:j=i
  ·rw[pN];exact hκ
  ·rw[J8 (Ne.symm pN)] at hj;exact er.dk j ks vs hj
 ·have other:∀{j:Nat} {e:List Dt},(ρ.set i (some (.bK [] [])))[j]?=some (some (.lst e))->j≠i:=λ {j e} k1 z=>by subst z;rw[List.getElem?_set] at k1;simp only[if_true] at k1;split at k1 <;> cases k1
  have n1:=other k1;have n2:=other k2;rw[J8 (Ne.symm n1)] at k1 k3;rw[J8 (Ne.symm n2)] at k2 k4;exact er.inj j j' b e e' m m' k1 k2 k3 k4
 ·obtain⟨ns,e1,e2⟩:=er.drw b hb;exact⟨ns,e1,sm _ _ e2⟩
 ·rw[J8 (λz=>hδ (by rw[z];exact hj))];exact er.drs j b hj hb
theorem Bg {i:Nat} {st:Stmt} (hP:Φ.P=X.prog) (hw:Φ.w=X.w) (hm:cn Γ i=true) (hκ:Γ.κ=some i) (hδ:Γ.δ≠some i) (h:PS X st (jD (Mx.yC X.prog X.w) (cH i))):PS X st (gK Φ Γ F W fF (.sW i)):=aZ h λD σ H q=>by obtain⟨o,ρ,S,oi,er,q⟩:=q;unfold ex at q;intro a ha;rw[<-hP,<-hw];exact q _ _ (ER.newD oi er hm hκ hδ ha)
theorem ER.EY {i:Nat} {a:Addr} {ks vs kn:List Dt} {xs ez:Mx.Ent} (er:ER Φ Γ o ρ S σ H) (hm:cn Γ i=true) (hr:ρ[i]?=some (some (.bK ks vs))) (hs:σ[i]?=some (some (.ref a))) (hx:H a=some (Mx.cL Φ.P Φ.w a xs)) (hk:Mx.cX H ez) (hy:ag Φ.K o.A H (ez.map (·.2.2)) kn):
  ER Φ Γ o (ρ.set i (some (.bK (ez.map λx=>ofD x.1) kn))) S σ (upd H a (Mx.cL Φ.P Φ.w a ez))/\aF o.A H (upd H a (Mx.cL Φ.P Φ.w a ez))/\∀b x,H b=some x->∃y,upd H a (Mx.cL Φ.P Φ.w a ez) b=some y:=by
 obtain⟨v,h1,h2⟩:=er.val i _ hr;rw[if_pos hm] at h2;rw[hs] at h1;cases h1;obtain⟨b,zs,e1,e2,e3,e4,e5,e6,e8,e9,e7⟩:=h2;cases e1;have hκ:=er.dk i ks vs hr;have up:aF (λb=>b=a) H (upd H a (Mx.cL Φ.P Φ.w a ez)):=⟨λb o h n=>by rw[ah n];exact h,λb zs h=>by rw[ah (λz=>by rw[z,hx] at h;cases h)];exact h⟩;have sub:∀b,b=a->o.A b:=λb z=>by rw[z];exact e3
 refine⟨⟨by rw[List.length_set];exact er.len,er.wa,er.da,λb hb=>?_,λj d hd=>?_,λj ks' vs'' hj=>?_,λj j' b d d' m m' k1 k2 k3 k4=>?_,λb hb=>?_,er.drn,er.drs,er.dr0,?_⟩,up.mono sub,lE⟩
 ·obtain⟨x,hx⟩:=er.al b hb;exact lE b x hx
 ·by_cases hj:j=i
  ·subst hj;rw[List.getElem?_set] at hd;simp only[if_true] at hd;split at hd
   ·cases hd;refine⟨.ref a,hs,?_⟩;rw[if_pos hm];exact⟨a,ez,rfl,ar,e3,e4,e5,e6,cX.tups hk up.tp,rfl,hy.mono up sub λ_ z=>z⟩
   ·cases hd
  ·rw[J8 (Ne.symm hj)] at hd;obtain⟨w,k1,k2⟩:=er.val j d hd;refine⟨w,k1,?_⟩;by_cases hmj:cn Γ j=true
   ·rw[if_pos hmj] at k2 ⊢;cases d with
    | lst dl=>obtain⟨b,DT,n1,n2,n3,n4,n5,n6,n7⟩:=k2;exact⟨b,DT,n1,up.kp _ _ n2 (λz=>by rw[z,hx] at n2;cases n2),n3,n4,n5,n6,n7.mono up sub λ_ z=>z⟩
    | bK ks2 vs2=>have:=er.dk j ks2 vs2 hd;rw[hκ] at this;cases this;exact absurd rfl hj
    | _=>exact RV.mono up sub (λ_ z=>z) k2
   ·rw[if_neg hmj] at k2 ⊢;exact k2.mono up sub λ_ z=>z
 ·by_cases pN:j=i
  ·rw[pN];exact hκ
  ·rw[J8 (Ne.symm pN)] at hj;exact er.dk j _ _ hj
 ·have other:∀{j:Nat} {e:List Dt},(ρ.set i (some (.bK (ez.map λx=>ofD x.1) kn)))[j]?=some (some (.lst e))->j≠i:=λ {j e} k1 z=>by subst z;rw[List.getElem?_set] at k1;simp only[if_true] at k1;split at k1 <;> cases k1
  rw[J8 (Ne.symm (other k1))] at k1;rw[J8 (Ne.symm (other k2))] at k2;exact er.inj j j' b d d' m m' k1 k2 k3 k4
 ·obtain⟨ns,n1,n2⟩:=er.drw b hb;exact⟨ns,n1,up.kp _ _ n2 λz=>e5 (by rw[<-z];exact hb)⟩
 ·refine⟨λb x h n=>up.kp _ _ (er.ent.kp b x h n) λz=>?_,λb xs h=>up.tp _ _ (er.ent.tp b xs h)⟩;subst z;rw[h] at e6;cases e6
theorem pF {K:Frag} {A:Addr->Prop} {d:Mx.D} {u:V} {v:Dt} (hu:RV K A H u v):∀{xs:Mx.Ent} {vs:List Dt},ag K A H (xs.map (·.2.2)) vs->
  ag K A H ((xs.map λx=>if x.1=d then(x.1,x.2.1,u) else x).map (·.2.2)) (lW d v (xs.map λx=>ofD x.1) vs)
 | [],vs,h=>by cases vs <;> exact h
 | x::xs,[],h=>by unfold ag at h;exact h.elim
 | x::xs,y::vs,h=>by
  unfold ag at h;have ih:=pF (d:=d) hu h.2;simp only[Ky,lW,eY,Option.some.injEq];unfold ag;refine⟨?_,ih⟩;by_cases e:x.1=d
  ·rw[if_pos e,if_pos e];exact hu
  ·rw[if_neg e,if_neg e];exact h.1
theorem xy {K:Frag} {A:Addr->Prop} {d:Mx.D} {b:Addr} {u:V} {v:Dt} {xs:Mx.Ent} {vs:List Dt} (hu:RV K A H u v) (hv:ag K A H (xs.map (·.2.2)) vs) (hk:Mx.cX H xs) (hd:Mx.DV H (.ref b) d) (nq:Mx.D.dep d<=8) (hl:xs.length < lim):
  ∃kn,(if (rW d (xs.map λx=>ofD x.1) vs).isSome then Dt.bK (xs.map λx=>ofD x.1) (lW d v (xs.map λx=>ofD x.1) vs) else .bK ((xs.map λx=>ofD x.1)++[ofD d]) (vs++[v]))= .bK ((Mx.mO xs d b u).map λx=>ofD x.1) kn/\
   ag K A H ((Mx.mO xs d b u).map (·.2.2)) kn/\Mx.cX H (Mx.mO xs d b u):=by
 unfold Mx.mO;rcases nU d hv with ⟨g1,g2⟩ | ⟨w,e,g1,g2,g3⟩
 ·rw[g1,g2];refine⟨vs++[v],?_,?_,⟨λx hx=>?_,?_,?_⟩⟩
  ·simp
  ·simp only[Option.isSome_none,Bool.false_eq_true,if_false,Kz];exact hv.append (ag.cons hu ag.nil)
  ·simp only[Option.isSome_none,Bool.false_eq_true,if_false,Kd,Kp] at hx;rcases hx with hx | rfl
   ·exact hk.key x hx
   ·exact⟨hd,nq⟩
  ·simp only[Option.isSome_none,Bool.false_eq_true,if_false,Kz,Ky,List.map_nil];refine List.nodup_append.mpr ⟨hk.nd,by simp,λa ha b' hb=>?_⟩;cases Kp.mp hb;obtain⟨x,hx,rfl⟩:=Kq.mp ha;intro z;unfold Mx.rT at g1;rw[Option.map_eq_none_iff,List.find?_eq_none] at g1;exact g1 x hx (by simpa using z)
  ·simp only[Option.isSome_none,Bool.false_eq_true,if_false,J7,List.length_singleton];have:=sizeLine_eq;unfold lim at hl
   lia
 ·rw[g1,g2];simp only[Option.isSome_some,if_true];have vY:∀x:Mx.D×Addr×V,(if x.1=d then(x.1,x.2.1,u) else x).1=x.1/\(if x.1=d then(x.1,x.2.1,u) else x).2.1=x.2.1:=λx=>by split <;> exact⟨rfl,rfl⟩
  refine⟨_,?_,pF hu hv,⟨λx hx=>?_,?_,?_⟩⟩
  ·rw[List.map_map];congr 1;exact List.map_congr_left λx _=>by show ofD x.1=ofD _;rw[(vY x).1]
  ·obtain⟨y,hy,rfl⟩:=Kq.mp hx;rw[(vY y).1,(vY y).2];exact hk.key y hy
  ·rw[List.map_map];have:xs.map ((λx=>x.1) ∘ λx=>if x.1=d then(x.1,x.2.1,u) else x)=xs.map (·.1):=List.map_congr_left λx _=>(vY x).1
   rw[this];exact hk.nd
  ·rw[JZ];exact hk.len
theorem Bh {i:Nat} {k v:C} {st:Stmt} (hP:Φ.P=X.prog) (hw:Φ.w=X.w) (hm:cn Γ i=true) (h:PS X st (jD (bb Φ Γ F g.fr v) (zq (gw i) (bb Φ Γ F g.fr k) (Mx.yw X.prog X.w)))):PS X st (gK Φ Γ F W fF (.dset i k v)):=aZ h λD σ H q=>by
 obtain⟨o,ρ,S,oi,er,q⟩:=q;unfold ex at q;obtain⟨gd,q⟩:=ay q;obtain⟨ks,vs,hr⟩:=pU gd;obtain⟨a,JM,h1,_⟩:=fw er hm hr;rw[aa] at q;refine⟨o,ρ,S,er,ab q λp _ q x H1 eo aw=>?_⟩;rw[aa] at q;refine⟨.ref a,h1,o,ρ,p.2,aw,ab q λp2 _ q y H2 eo2 cC=>?_⟩;rw[fB hr,R.ai] at q;obtain⟨gl,q⟩:=ay q;rw[aa] at q;obtain⟨a',xs,gG,h2,h3,h4,h5⟩:=fw cC hm hr;rw[h1] at gG;cases gG;unfold sY at q;simp only at q;cases vB:iV p2.1 with
 | none=>rw[vB] at q;exact q.elim
 | some d=>
  rw[vB] at q;dsimp only at q;obtain⟨gn,q⟩:=ay q;obtain⟨ek,⟨dd,ed⟩,nq⟩:=p7 vB;have hy:Mx.DV H2 y d:=by have:=eo2.val;rw[ek] at this;exact this.dv
  subst ed;obtain⟨b,us,rfl,_,_⟩:=hy.ae;have hx:RV Φ.K o.A H2 x p.1:=(eo.ju (JT gl)).mono eo2.ext er.da λ_ z=>z
  rw[h4] at q gn;rw[JZ] at gn;obtain⟨kn,e1,e2,e3⟩:=xy (b:=b) hx h5 h3 hy nq (JT gn);rw[ek,e1] at q;have wz:ρ[i]?=some (some (.bK ks vs)):=hr;obtain⟨c1,c2,c3⟩:=ER.EY cC hm hr h1 h2 e3 e2;refine⟨a,xs,.tup dd,b,rfl,rfl,by rw[<-hP,<-hw];exact h2,h3,hy,nq,?_⟩;rw[<-hP,<-hw];have ee:=eo.ext.trans eo2.ext;exact q _ _ ⟨⟨o,oi,c1,λb z=> .inl z⟩,(ee.mono er.da).trans c2,λb' x' hb=>by
   obtain⟨y',Cv⟩:=cC.vV ee b' x' hb;exact c3 _ _ Cv⟩
end
noncomputable def gg:Expr->Bool
 | .ListComp ..=>true
 | .SetComp ..=>true
 | .DictComp ..=>true
 | _=>false
noncomputable def y7 (n:Nat) (g:G) (Γ:Gm) (i:Nat) (e:Expr):Option T:=match e with
 | .Name y p=>match slot Γ y with
  | some j=>if cn Γ j then none else(cE n g Γ (.Name y p)).bind λc=>some (.asg i c)
  | none=>(cE n g Γ (.Name y p)).bind λc=>some (.asg i c)
 | e=>(cE n g Γ e).bind λc=>some (if fresh g.fr c&&lk c != 0 then .asgM i c else .asg i c)
noncomputable def y9 (n:Nat) (g:G) (Γ:Gm) (fF:Bool) (e:Expr):Option T:=match e with
 | .Name y p=>match slot Γ y with
  | some j=>if cn Γ j then(if Γ.δ==some j||Γ.κ==some j then none else some (.ret (.mvr j))) else(cE n g Γ (.Name y p)).bind λc=>if fF then none else some (.ret c)
  | none=>(cE n g Γ (.Name y p)).bind λc=>if fF then none else some (.ret c)
 | e=>(cE n g Γ e).bind λc=>if !fF||fresh g.fr c then some (.ret c) else none
mutual
noncomputable def cS:Nat->G->Gm->Bool->Bool->Stmt->Option T
 | 0,_,_,_,_,_=>none
 | n + 1,g,Γ,dp,fF,st=>match st with
  | .Assign tgs e _=>match tgs with
   | [.Name x _]=>(d6 Γ x).bind λi=>
     if Γ.δ==some i then none
     else if cn Γ i then(if Γ.κ==some i then(match e with | .Dict [] [] _=>some (.sW i) | _=>none) else(cE n g Γ e).bind λc=>if fresh g.fr c then some (.asgM i c) else none)
     else y7 n g Γ i e
   | [.Subscript (.Name x _) k _]=>(slot Γ x).bind λi=>if cn Γ i then(cE n g Γ e).bind λv'=>(cE n g Γ k).bind λk'=>if Γ.κ==some i then some (.dset i k' v') else some (.A3 i k' v') else none
   | _=>none
  | .Expr ex _=>match ex with
   | .Call (.Attribute (.Name x _) m ap) [a] [] cp=>(slot Γ x).bind λi=>if cn Γ i&&ap.endLine==cp.line then(cE n g Γ a).bind λa'=>
     (if m==("append":Str) then some (.app i a') else if m==("extend":Str) then some (.xtd i a') else none) else none
   | .Call (.Attribute (.Name x _) m ap) [] [] cp=>(slot Γ x).bind λi=>if cn Γ i&&ap.endLine==cp.line&&m==("clear":Str) then some (.clr i) else none
   | e=>if gg e then none else(cE n g Γ e).bind λc=>some (.E0 c)
  | .Return (some e) _=>y9 n g Γ fF e
  | .Return none _=>some .retN
  | .If t a b _=>(cE n g Γ t).bind λt'=>(za n g Γ dp fF a).bind λa'=>(za n g Γ dp fF b).bind λb'=>some (.ifs t' a' b')
  | .For tg it b els _=>match els with
   | []=>(cI n g Γ tg it).bind λhZ=>(nN Γ tg).bind λjj=>(za n g Γ dp fF b).bind λb'=>some (.fr jj hZ b')
   | _=>none
  | .Break _=>some .brk
  | .Continue _=>some .cnt
  | .Pass _=>some .pas
  | _=>none
noncomputable def za:Nat->G->Gm->Bool->Bool->List Stmt->Option Ts
 | 0,_,_,_,_,_=>none
 | n + 1,g,Γ,dp,fF,lA=>match lA with
  | []=>some .nil
  | st::lA=>(cS n g Γ dp fF st).bind λt=>(za n g Γ dp fF lA).bind λts=>some (.cons t ts)
end
section
variable {g:G} {xv:Nat->Value} {CX:iw} {k:Nat} {F:FT} {X:Cx} {Φ:Fm} {Γ:Gm} {W:Addr->Prop}
theorem mW {e:Expr} (h:gg e=false) (t:Option Expr) (l:Nat) (env:Env):swapsWith e t l env=pure false:=by cases e <;> first | rfl | (simp[gg] at h)
theorem kg {e:Expr} {t:Expr} (ht:∀x p,t≠ .Name x p) (l:Nat) (env:Env):swapsWith e (some t) l env=pure false:=by cases e <;> first | rfl | (cases t <;> first | rfl | exact absurd rfl (ht _ _))
theorem lU {n:Nat} {elt:Expr} {gens:List Comprehension} {sc:Scope} {bY:Pos} {c:C} (h:cE (n + 1) g Γ (.ListComp elt gens sc bY)=some c):sc.kind= .function/\sF sc.names Γ.names (aM Γ sc).1.N Γ.N (aM Γ sc).2=true/\(aM Γ sc).1.N.Nodup/\
  ((∃tg it ifs hZ jj lD e',gens=[⟨tg,it,ifs,0⟩]/\cI n g Γ tg it=some hZ/\nN (aM Γ sc).1 tg=some jj/\vS n g (aM Γ sc).1 ifs=some lD/\cE n g (aM Γ sc).1 elt=some e'/\c= .comp (aM Γ sc).2 hZ jj lD e')\/
   (∃tg it ifs lI ia bG hZ jj lD mh jk mZ e',gens=[⟨tg,it,ifs,0⟩,⟨lI,ia,bG,0⟩]/\cI n g Γ tg it=some hZ/\nN (aM Γ sc).1 tg=some jj/\vS n g (aM Γ sc).1 ifs=some lD/\cI n g (aM Γ sc).1 lI ia=some mh/\nN (aM Γ sc).1 lI=some jk/\vS n g (aM Γ sc).1 bG=some mZ/\cE n g (aM Γ sc).1 elt=some e'/\
   (∀i∈aI jk,i∉aI jj)/\c= .jO (aM Γ sc).2 hZ jj lD mh jk mZ e')):=by
 unfold cE at h;simp only at h;split at h
 ·rename_i hk;split at h
  ·rename_i tg it ifs;obtain⟨hZ,h1,h⟩:=JO.mp h;obtain⟨jj,h2,h⟩:=JO.mp h;obtain⟨lD,h3,h⟩:=JO.mp h;obtain⟨e',h4,h⟩:=JO.mp h;split at h
   ·rename_i hb;cases h;rw[JR] at hb;exact⟨Ke hk,hb.1,JT hb.2,.inl ⟨tg,it,ifs,hZ,jj,lD,e',rfl,h1,h2,h3,h4,rfl⟩⟩
   ·cases h
  ·rename_i tg it ifs lI ia bG;obtain⟨hZ,h1,h⟩:=JO.mp h;obtain⟨jj,h2,h⟩:=JO.mp h;obtain⟨lD,h3,h⟩:=JO.mp h;obtain⟨mh,h5,h⟩:=JO.mp h;obtain⟨jk,h6,h⟩:=JO.mp h;obtain⟨mZ,h7,h⟩:=JO.mp h;obtain⟨e',h4,h⟩:=JO.mp h;split at h
   ·rename_i hb;cases h;rw[JR,JR] at hb;refine⟨Ke hk,hb.1.1,JT hb.1.2,.inr ⟨tg,it,ifs,lI,ia,bG,hZ,jj,lD,mh,jk,mZ,e',rfl,h1,h2,h3,h5,h6,h7,h4,λi hi z=>?_,rfl⟩⟩;have:=Kr.mp hb.2 i hi;simp[z] at this
   ·cases h
  ·cases h
 ·cases h
theorem fU {n i:Nat} {x:Str} {e:Expr} {c:C} {pos' pos:Pos} (gx:GX g Γ X) (hX:HX g xv CX k F Φ X) (hs:d6 Γ x=some i) (h:cE n g Γ e=some c):PS X (.Assign [.Name x pos'] e pos) (jD (bb Φ Γ F g.fr c) (cH i)):=by
 have S:=fW (F:=F) n Γ X Φ gx hX;obtain⟨a1,a2,a3⟩:=fV hs;obtain⟨l1,l2⟩:=gx.loc x a1;have hN:X.N.Nodup:=gx.N▸gx.nd;have hi:X.N[i]?=some x:=by rw[gx.N];exact a3
 by_cases hc:gg e=true
 ·cases n with
  | zero=>simp[cE] at h
  | succ n=>
   cases e with
   | ListComp elt gens sc bY=>
    have Ih:=(S.e _ _ h).1;obtain⟨hk,hb,gH,Cb⟩:=lU h;cases zQ:(X.env.blockKind== .function&&X.env.kindOf x==some .local&&pos'.line==(Expr.ListComp elt gens sc bY).pos.line&& !(sc.names.any λ(n,k)=>n==x&&(k== .local||k== .cell))) with
    | false=>exact oO hN hi l1 Ih (by show pure (X.env.blockKind== .function&&X.env.kindOf x==some .local&&pos'.line==(Expr.ListComp elt gens sc bY).pos.line&& !(sc.names.any λ(n,k)=>n==x&&(k== .local||k== .cell)))=_;rw[zQ]) l2
    | true=>
     have hl:X.env.kindOf x=some .local:=by rw[JR,JR,JR] at zQ;exact Ke zQ.1.1.2
     have B:=nM gx hk hb;have S1:=fW (F:=F) n Γ X Φ gx hX;have J:=λC s H fp=>fW (F:=F) n (aM Γ sc).1 (dN X sc (aM Γ sc).1.N C s H fp (pe X sc (aM Γ sc).1.N (jG Φ xv) C s H fp)) Φ (dh gx B gH) (oq hX)
     rcases Cb with ⟨tg,it,ifs,hZ,jj,lD,e',rfl,h1,h2,h3,h4,rfl⟩ | ⟨tg,it,ifs,lI,ia,bG,hZ,jj,lD,mh,jk,mZ,e',rfl,h1,h2,h3,h5,h6,h7,h4,Ce,rfl⟩
     ·refine aZ (gJ (xb:=pe X sc (aM Γ sc).1.N (jG Φ xv)) (body:=λacc env=>eO elt acc env) (i:=i) gx.calm hN hi hl B (iu hX.st hX.xgx) (S1.i _ _ _ h1).1 (λlG acc env=>m9 ..) (λC s H fp=>oV (dh gx B gH) h2) (λC s H fp=>(J C s H fp).ts _ _ h3) (λC s H fp D=>ij ((J C s H fp).e _ _ h4).1) (eP (S1.i _ _ _ h1).2 _) ?_) λD σ H q=>uO hX.K B gH h2 q
      show pure (X.env.blockKind== .function&&X.env.kindOf x==some .local&&pos'.line==(Expr.ListComp elt [⟨tg,it,ifs,0⟩] sc bY).pos.line&& !(sc.names.any λ(n,k)=>n==x&&(k== .local||k== .cell)))=_;rw[zQ]
     ·refine aZ (gJ (xb:=pe X sc (aM Γ sc).1.N (jG Φ xv)) (body:=λacc env=>nextOf (.ListComp elt [⟨tg,it,ifs,0⟩,⟨lI,ia,bG,0⟩] sc bY) 1 ia acc env) (i:=i) gx.calm hN hi hl B (iu hX.st hX.xgx) (S1.i _ _ _ h1).1 (λlG acc env=>nc ..) (λC s H fp=>oV (dh gx B gH) h2) (λC s H fp=>(J C s H fp).ts _ _ h3)
       (λC s H fp D=>qg gx.calm (qf hX.st) ((J C s H fp).i _ _ _ h5).1 (oV (dh gx B gH) h6) ((J C s H fp).ts _ _ h7) (ij ((J C s H fp).e _ _ h4).1) (eP ((J C s H fp).i _ _ _ h5).2 _)) (eP (S1.i _ _ _ h1).2 _) ?_) λD σ H q=>qo hX.K B gH h2 h6 Ce q
      show pure (X.env.blockKind== .function&&X.env.kindOf x==some .local&&pos'.line==(Expr.ListComp elt [⟨tg,it,ifs,0⟩,⟨lI,ia,bG,0⟩] sc bY).pos.line&& !(sc.names.any λ(n,k)=>n==x&&(k== .local||k== .cell)))=_;rw[zQ]
   | SetComp=>simp[cE] at h
   | DictComp=>simp[cE] at h
   | _=>simp[gg] at hc
 ·exact oO hN hi l1 (S.e _ _ h).1 (mW (by simpa using hc) _ _ _) l2
structure EK (g:G) (F:FT) (n:Nat) (Γ:Gm) (X:Cx) (Φ:Fm) (W:Addr->Prop) (dp fF:Bool):Prop where
 s:∀st t,cS n g Γ dp fF st=some t->PS X st (gK Φ Γ F W fF t)
 ss:∀lA ts,za n g Γ dp fF lA=some ts->qG X lA (gV Φ Γ F W fF ts)
theorem gy {x:Str} {i:Nat} {p:Pos} (gx:GX g Γ X) (h:slot Γ x=some i):PE X (.Name x p) (gw i):=by obtain⟨v1,v2,v3⟩:=ir h;obtain⟨n1,n2,n3⟩:=bO v2;exact lj (by rw[gx.N];exact v3) (gx.vis x v1) n1 n2
theorem yT {n i:Nat} {x:Str} {e:Expr} {t:T} {pos' pos:Pos} {fF:Bool} (gx:GX g Γ X) (hX:HX g xv CX k F Φ X) (hs:d6 Γ x=some i) (hp:plainS Γ i=true) (h:y7 n g Γ i e=some t):PS X (.Assign [.Name x pos'] e pos) (gK Φ Γ F W fF t):=by
 have AI:∀{e:Expr} {t:T},((cE n g Γ e).bind λc=>some (T.asg i c))=some t->PS X (.Assign [.Name x pos'] e pos) (gK Φ Γ F W fF t):=λ {e t} h=>by obtain⟨c,h1,h⟩:=JO.mp h;cases h;exact yF hp (fU gx hX hs h1)
 unfold y7 at h;split at h
 ·rename_i y p;split at h
  ·rename_i j hj;split at h
   ·cases h
   ·exact AI h
  ·exact AI h
 ·obtain⟨c,h1,h⟩:=JO.mp h;cases h;split
  ·rename_i hf;rw[JR] at hf;exact Bf hp hf.1 (fU gx hX hs h1)
  ·exact yF hp (fU gx hX hs h1)
theorem AJ {n:Nat} {e:Expr} {t:T} {pos:Pos} {fF:Bool} (gx:GX g Γ X) (hX:HX g xv CX k F Φ X) (h:y9 n g Γ fF e=some t):PS X (.Return (some e) pos) (gK Φ Γ F W fF t):=by
 have S:=fW (F:=F) n Γ X Φ gx hX;have plain:∀{e:Expr} {t:T},((cE n g Γ e).bind λc=>if fF then none else some (T.ret c))=some t->PS X (.Return (some e) pos) (gK Φ Γ F W fF t):=λ {e t} h=>by
  obtain⟨c,h1,h⟩:=JO.mp h;split at h
  ·cases h
  ·rename_i hf;cases h;exact yG (λz=>absurd z hf) (oN (S.e _ _ h1).1)
 unfold y9 at h;split at h
 ·rename_i y p;split at h
  ·rename_i j hj;split at h
   ·rename_i hm;split at h
    ·cases h
    ·rename_i hk;cases h;exact Bj hm (λz=>hk (by simp[z])) (oN (gy gx hj))
   ·exact plain h
  ·exact plain h
 ·obtain⟨c,h1,h⟩:=JO.mp h;split at h
  ·rename_i hf;cases h;refine yG (λz=>?_) (oN (S.e _ _ h1).1);rw[z] at hf;simpa using hf
  ·cases h
theorem uT {dp fF:Bool} (n:Nat):∀(Γ:Gm) (X:Cx) (Φ:Fm),GX g Γ X->HX g xv CX k F Φ X->(dp=false->Φ.d0=none)->PassesOwn (model X.prog X.w) X.A X.env X.xe->EK g F n Γ X Φ W dp fF:=by
 induction n with
 | zero=>intro Γ X Φ gx hX hd ho;exact⟨λst t h=>by simp[cS] at h,λst t h=>by simp[za] at h⟩
 | succ n ih=>
  intro Γ X Φ gx hX hd ho;have I:=ih Γ X Φ gx hX hd ho;have S:=fW (F:=F) n Γ X Φ gx hX;have hK:=hX.K;refine⟨λst t h=>?_,λlA ts h=>?_⟩
  ·unfold cS at h;split at h
   ·split at h
    ·rename_i e pos x xp;obtain⟨i,hs,h⟩:=JO.mp h;split at h
     ·cases h
     ·rename_i hδ;have hδ':Γ.δ≠some i:=λz=>hδ (by rw[z];exact beq_self_eq_true _)
      split at h
      ·rename_i hm;split at h
       ·rename_i hκ;split at h
        ·cases h;obtain⟨a1,a2,a3⟩:=fV hs;obtain⟨l1,l2⟩:=gx.loc x a1;exact Bg hX.P hX.w hm (Ke hκ) hδ' (oO (gx.N▸gx.nd) (by rw[gx.N];exact a3) l1 Mx.xg rfl l2)
        ·cases h
       obtain⟨c,h1,h⟩:=JO.mp h;split at h
       ·rename_i hf;cases h;exact Be hm hδ' hf (fU gx hX hs h1)
       ·cases h
      ·rename_i hm;refine yT gx hX hs ?_ h;unfold plainS;rw[JR];exact⟨by simpa using hm,by simpa using hδ'⟩
    ·rename_i v pos tg0 x xp kx sp;obtain⟨i,hs,h⟩:=JO.mp h;split at h
     ·rename_i hm;obtain⟨v',h1,h⟩:=JO.mp h;obtain⟨k',h2,h⟩:=JO.mp h;have vB:=(S.e _ _ h2).2.2;split at h
      ·cases h;refine Bh hX.P hX.w hm (uD (S.e _ _ h1).1 (ux (gy gx hs) (S.e _ _ h2).1 (Mx.xE (by have:=gx.un;lia)) (by intro _;cases kx <;> first | rfl | (simp[pM] at vB))) (show swapsWithSole [Expr.Subscript (Expr.Name x xp) kx sp] v pos.line X.env=pure false from kg (e:=v) (t:=Expr.Subscript (Expr.Name x xp) kx sp) (λx p z=>by cases z) pos.line X.env) ?_);cases v <;> rfl
      ·cases h;refine Bl hm (uD (S.e _ _ h1).1 (ux (gy gx hs) (S.e _ _ h2).1 set_list (by intro _;cases kx <;> first | rfl | (simp[pM] at vB))) (show swapsWithSole [Expr.Subscript (Expr.Name x xp) kx sp] v pos.line X.env=pure false from kg (e:=v) (t:=Expr.Subscript (Expr.Name x xp) kx sp) (λx p z=>by cases z) pos.line X.env) ?_);cases v <;> rfl
     ·cases h
    ·cases h
   ·split at h
    ·rename_i pos x xp m ap a cp;obtain⟨i,hs,h⟩:=JO.mp h;split at h
     ·rename_i hm;rw[JR] at hm;obtain⟨a',h1,h9⟩:=JO.mp h;clear h;have yk:=aP (S.e _ _ h1).2.2 [] X.env;split at h9
      ·rename_i hma;have em:=Ke hma;subst em;cases h9;exact DJ hm.1 (il (yq PySem.F.plainAttrs_list PySem.F.slot_list_append PySem.F.type_list_append j6 (gy gx hs) (bh (S.e _ _ h1).1 cT yk) rfl (by rw[yk];rfl) hm.2 yk rfl))
      split at h9
      ·rename_i hma;have em:=Ke hma;subst em;cases h9;exact DQ hm.1 (il (yq PySem.F.plainAttrs_list PySem.F.slot_list_extend PySem.F.type_list_extend rl (gy gx hs) (bh (S.e _ _ h1).1 cT yk) rfl (by rw[yk];rfl) hm.2 yk rfl))
      ·cases h9
     ·cases h
    ·rename_i pos x xp m ap cp;obtain⟨i,hs,h9⟩:=JO.mp h;clear h;split at h9
     ·rename_i hm;rw[JR,JR] at hm;have em:=Ke hm.2;subst em;cases h9;exact DL hm.1.1 (il (Aq PySem.F.plainAttrs_list PySem.F.slot_list_clear PySem.F.type_list_clear uf (gy gx hs) rfl hm.1.2))
     ·cases h9
    ·split at h
     ·cases h
     ·rename_i hc;obtain⟨c,h1,h⟩:=JO.mp h;cases h;exact DN (il (S.e _ _ h1).1 (mW (by simpa using hc) _ _ _))
   ·exact AJ gx hX h
   ·cases h;exact Bk xo
   ·obtain⟨t',h1,h⟩:=JO.mp h;obtain⟨a',h2,h⟩:=JO.mp h;obtain⟨b',h3,h⟩:=JO.mp h;cases h;exact DP (C3 (S.e _ _ h1).2.1 (I.ss _ _ h2) (I.ss _ _ h3))
   ·split at h
    ·obtain⟨hZ,h1,h⟩:=JO.mp h;obtain⟨jj,h2,h⟩:=JO.mp h;obtain⟨b',h3,h⟩:=JO.mp h;cases h;exact DO hK (λi hi=>(d7 h2 i hi).1) (AD ho gx.calm (S.i _ _ _ h1).1 (oV gx h2) (I.ss _ _ h3) (eP (S.i _ _ _ h1).2 _))
    ·cases h
   ·cases h;exact DK uE
   ·cases h;exact DM mM
   ·cases h;exact Bi xn
   ·cases h
  ·unfold za at h;split at h
   ·cases h;exact vh
   ·obtain⟨t,h1,h⟩:=JO.mp h;obtain⟨lD,h2,h⟩:=JO.mp h;cases h;exact xU (I.s _ _ h1) (I.ss _ _ h2)
end
noncomputable def hE:Nat->G->Gm->Nat->List (Str×Bool)->Option (Nat×Bool)->Expr->Option Bool
 | 0,_,_,_,_,_,_=>none
 | n + 1,g,Γ,i,ts,vb,e=>match e with
  | .Call fe as ks _=>match fe,as,ks with
   | .Name f _,[.Name x _,.Name t _],[]=>if f==("isinstance":Str)&&qS (Γ.names.lookup f)&&g.bls.contains f&&slot Γ x==some i&&qS (Γ.names.lookup t)&&cR t then ts.lookup t else none
   | _,_,_=>none
  | .Name x _=>vb.bind λv=>if slot Γ x==some v.1 then some v.2 else none
  | .UnaryOp o a _=>match o with
   | .Not=>(hE n g Γ i ts vb a).bind λb=>some !b
   | _=>none
  | .BoolOp o es p=>match es with
   | [a]=>hE n g Γ i ts vb a
   | a::b::es=>(hE n g Γ i ts vb a).bind λx=>(hE n g Γ i ts vb (.BoolOp o (b::es) p)).bind λy=>some (match o with | .And=>x&&y | .Or=>x||y)
   | []=>none
  | _=>none
noncomputable def hS (n:Nat) (g:G) (Γ:Gm) (i:Nat) (ts:List (Str×Bool)):List Stmt->Option Bool
 | [.Return (some e) _]=>hE n g Γ i ts none e
 | [.Assign [.Name x _] e _,.Return (some r) _]=>if Γ.names.lookup x==some .local&& !gg e then(d6 Γ x).bind λj=>if j==i then none else(hE n g Γ i ts none e).bind λb=>hE n g Γ i ts (some (j,b)) r else none
 | _=>none
noncomputable def y8 (n:Nat) (g:G) (Γ:Gm) (dp fF:Bool):List Stmt->Option Ts
 | []=>some .nil
 | st::lA=>(cS n g Γ dp fF st).bind λt=>(y8 n g Γ dp fF lA).bind λts=>some (.cons t ts)
section
variable {g:G} {xv:Nat->Value} {CX:iw} {k:Nat} {F:FT} {X:Cx} {Φ:Fm} {Γ:Gm} {W:Addr->Prop}
theorem GX.cA {Γ:Gm} {X:Cx} {E:Value->Shared->Prop} (gx:GX g Γ X):GX g Γ (X.cA E):=⟨gx.N,gx.nd,gx.vis,gx.loc,gx.gl,gx.fre,gx.calm,gx.un,gx.con,gx.bl⟩
theorem jm {X:Cx} {E:Value->Shared->Prop} {E':XK} {e:Value} {s':Shared} (h:iz (X.cA E) E' e s'):iz X E' e s':=by obtain⟨σ,H',a,cls,e1,I,f,q⟩:=h;exact⟨σ,H',a,cls,e1,I.dw,f,q⟩
theorem ve {X:Cx} {E:Value->Shared->Prop} {E':XK} {e:Value} {s':Shared} (h:iz X E' e s'):iz (X.cA E) E' e s':=by obtain⟨σ,H',a,cls,e1,I,f,q⟩:=h;exact⟨σ,H',a,cls,e1,I.cA E,f,q⟩
theorem vg {st:Stmt} {lA:List Stmt} {t:T} {ts:Ts} {fF:Bool} (h1:EJ X st (gK Φ Γ F W fF t)) (h2:kr X lA (gV Φ Γ F W fF ts)):kr X (st::lA) (gV Φ Γ F W fF (.cons t ts)):=λs σ H D I q=>rD h1 h2 s σ H D I (by
 obtain⟨o,ρ,S,oi,er,q⟩:=q;unfold aV at q;rw[aa] at q;refine⟨o,ρ,S,oi,er,ab q λp _ q=>?_⟩;unfold bP;cases hp:p.1 with
 | next=>rw[hp] at q;intro σ1 H1 so;obtain⟨⟨o1,F0,aw,Fh⟩,e1,a1⟩:=so;exact⟨o1,p.2.1,p.2.2,F0,aw,ab q λp2 _ q=>bP.go e1 Fh a1 (λ_ _ z=>z) (λ_ _ z=>z) (λ_ _ z=>z) (λ_ _ z=>z) q⟩
 | brk=>rw[hp] at q;unfold mR bP at q;exact q
 | cnt=>rw[hp] at q;unfold mR bP at q;exact q
 | ret d=>rw[hp] at q;unfold mR bP at q;exact q)
theorem sA {dp fF:Bool} {n:Nat} (yh:X.env.scope.names=Γ.names) (gx:GX g Γ X) (hX:HX g xv CX k F Φ X) (hd:dp=false->Φ.d0=none) (own:PassesOwn (model X.prog X.w) X.A X.env X.xe):∀{lA:List Stmt} {ts:Ts},y8 n g Γ dp fF lA=some ts->kr X lA (gV Φ Γ F W fF ts)
 | [],ts,h=>by cases h;exact xq vh
 | st::lA,ts,h=>by obtain⟨t,h1,h⟩:=JO.mp h;obtain⟨lD,h2,h⟩:=JO.mp h;cases h;refine vg ?_ (sA yh gx hX hd own h2);exact AC ((uT (dp:=dp) (fF:=fF) (W:=W) n Γ X Φ gx hX hd own).s _ _ h1)
theorem mN {X:Cx} {E:Value->Shared->Prop} {st:List Stmt} {t:TS} (h:kr (X.cA E) st t) (hx:∀e s',E e s'->X.xe e s'):kr X st t:=λs σ H D I hw=>
 wpAny_mono (h s σ H D (I.cA _) hw) (λ_ _ q=>q.dw) λe s' z=>hx e s' z
end
section
variable {P:Program} {w:World} {K:Frag} {mg:Str->Option Value} {base:Heap} {g:G} {xv:Nat->Value} {F:FT} {k:Nat}
structure MG (g:G) (mg:Str->Option Value):Prop where
 con:∀x d,g.cons.lookup x=some d->∃u,lH d=true/\mg x=some u/\RelV (ny d) u
 bl:∀x∈g.bls,mg x=none
noncomputable def XG (g:G) (K:Frag) (mg:Str->Option Value) (xv:Nat->Value):Prop:=∀k x ts,g.xs[k]?=some (x,ts)->∃C,xv k= .ref C/\mg x=some (.ref C)/\EN K mg C ts
noncomputable def rE (aS:Bool) (args:List Dt) (n ps:Nat):aj:=(if aS then[none] else[])++args.map some++List.replicate (n - ps) none
theorem jc {aS:Bool} {args:List Dt} {n ps i:Nat} {d:Dt} (h:(rE aS args n ps)[i]?=some (some d)):∃j,args[j]?=some d/\i=j + (if aS then 1 else 0):=by
 unfold rE at h;have tail:∀{i:Nat},(args.map some++List.replicate (n - ps) (none:Option Dt))[i]?=some (some d)->args[i]?=some d:=λ {i} h=>by
  by_cases hi:i < args.length
  ·rw[Kw (by simpa using hi),Ka] at h;cases e:args[i]? with
   | none=>rw[e] at h;cases h
   | some a=>rw[e] at h;cases h;rfl
  ·rw[Kx (by simpa using hi),List.getElem?_replicate] at h;split at h <;> cases h
 cases aS with
 | false=>simp only[Bool.false_eq_true,if_false,List.nil_append] at h;exact⟨i,tail h,rfl⟩
 | true=>
  simp only[if_true,J5] at h;cases i with
  | zero=>cases h
  | succ i=>have h:(args.map some++List.replicate (n - ps) (none:Option Dt))[i]?=some (some d):=h;exact⟨i,tail h,rfl⟩
theorem ke {N:List Str} {vs:List V} {i:Nat} {v:V} (h:vs[i]?=some v):(start N vs)[i]?=some (some v):=by unfold L2.start;have hi:=(JU.mp h).1;rw[Kw (by simpa using hi),Ka,h];rfl
theorem tq {M:List Bool} {δ:Option Nat} {names:List (Str×NameKind)} {N:List Str} {np:Nat} {aS:Bool} {vs kn:List V} {H:Hp} {W:Addr->Prop} {dr:Option Addr} {args:List Dt} {S:Sx} {Ek:Nat->Prop} {κ:Option Nat} {P:Program} {w:World}
  (hM:∀i,i < np->M[i]?≠some true) (hδ:aS=true->δ=some 0) (JH:np<=N.length) (hl:vs.length=np)
  (hd:if aS=true then∃(a:Addr) (ns:List Int),vs= .ref a::kn/\dr=some a/\W a/\S=some ns/\H a=some (.lst (ns.map V.int)) else vs=kn/\dr=none/\S=none)
  (ha:ag K W H kn args) (hw:∀a,W a->∃x,H a=some x):ER ⟨K,H,dr,Ek,P,w⟩ ⟨names,N,M,δ,κ⟩ ⟨W,W,dr⟩ (rE aS args N.length np) S (start N vs) H/\args.length + (if aS then 1 else 0)=np:=by
 have IA:=ha.length;have B8:args.length + (if aS then 1 else 0)=np:=by
  cases aS with
  | false=>
   simp only[Bool.false_eq_true,if_false] at hd ⊢;obtain⟨e,_,_⟩:=hd;subst e
   lia
  | true=>
   simp only[if_true] at hd ⊢;obtain⟨a,ns,e,_⟩:=hd;rw[e] at hl;simp at hl
   lia
 refine⟨⟨?_,λa z=>z,λa z=>?_,hw,λi d h=>?_,λi ks vs h=>?_,λi j a d e hm hm' h1 h2 _ _=>?_,λa z=>?_,λz=>?_,λi a hi z=>?_,λa z=> .inl z,aF.refl⟩,B8⟩
 ·unfold L2.start rE;simp only[J7,JZ,List.length_replicate];cases aS <;> simp at B8 ⊢ <;> lia
 ·cases aS with
  | false=>simp only[Bool.false_eq_true,if_false] at hd;rw[hd.2.1] at z;cases z
  | true=>simp only[if_true] at hd;obtain⟨b,ns,_,e,hb,_⟩:=hd;rw[e] at z;cases z;exact hb
 ·obtain⟨j,hj,rfl⟩:=jc h;obtain⟨v,h1,h2⟩:=ha.getD hj;have Iw:=(JU.mp hj).1;have hm:cn ⟨names,N,M,δ,κ⟩ (j + if aS=true then 1 else 0)=false:=by unfold cn;have:=hM (j + if aS=true then 1 else 0) (by lia);simpa using this
  refine⟨v,ke ?_,?_⟩
  ·cases aS with
   | false=>simp only[Bool.false_eq_true,if_false] at hd ⊢;rw[hd.1];exact h1
   | true=>simp only[if_true] at hd ⊢;obtain⟨b,ns,e,_⟩:=hd;rw[e];simpa using h1
  ·rw[hm,if_neg (by simp)];exact h2
 ·obtain⟨j,hj,rfl⟩:=jc h;obtain⟨v,h1,h2⟩:=ha.getD hj;cases h2.nd
 ·obtain⟨j1,hj,rfl⟩:=jc h1;have Iw:=(JU.mp hj).1;exfalso;unfold cn at hm;exact hM (j1 + if aS=true then 1 else 0) (by lia) (Ke hm)
 ·cases aS with
  | false=>simp only[Bool.false_eq_true,if_false] at hd;rw[hd.2.1] at z;cases z
  | true=>simp only[if_true] at hd;obtain⟨b,ns,_,e,_,e2,e3⟩:=hd;rw[e] at z;cases z;exact⟨ns,e2,e3⟩
 ·cases aS with
  | false=>simp only[Bool.false_eq_true,if_false] at hd;exact hd.2.2
  | true=>simp only[if_true] at hd;obtain⟨b,ns,_,e,_⟩:=hd;rw[e] at z;cases z
 ·cases aS with
  | false=>simp only[Bool.false_eq_true,if_false] at hd;rw[hd.2.1] at z;cases z
  | true=>simp only[if_true] at hd;obtain⟨b,ns,e1,e,_⟩:=hd;rw[e] at z;cases z;have hi:δ=some i:=hi;rw[hδ rfl] at hi;cases hi;exact ke (by rw[e1];rfl)
theorem BY {CX:iw} {N ps:List Str} {sc:Scope} {M:List Bool} {δ κ:Option Nat} {qual:Str} {f:Addr} {dM:Value} {A:Around} {outer:List Env} {s:Shared} {H:Hp} {E:XK} (m:MG g mg) (S:dc N ps sc) (hr:fh k (A.deeper (envOfC qual sc s.heap.objs.size f dM))):
  GX g ⟨sc.names,N,M,δ,κ⟩ (iF CX P w K mg base N qual sc f dM A outer s H E) where
 N:=rfl
 nd:=S.nd
 vis:=λx h=>by
  have h:u6 (sc.names.lookup x)=true:=h;show BK sc x;unfold BK;cases hl:sc.names.lookup x with
  | none=>rw[hl] at h;cases h
  | some kk=>
   rw[hl] at h;cases kk with
   | «local»=>exact .inl rfl
   | cell=>exact .inr (.inl rfl)
   | free=>exact .inr (.inr rfl)
   | globalExplicit=>cases h
   | globalImplicit=>cases h
 loc:=λx h=>by
  have h:ue (sc.names.lookup x)=true:=h;refine⟨?_,.inl rfl⟩;show L2.Loc sc x;unfold L2.Loc;cases hl:sc.names.lookup x with
  | none=>rw[hl] at h;cases h
  | some kk=>
   rw[hl] at h;cases kk with
   | «local»=>exact .inl rfl
   | cell=>exact .inr rfl
   | free=>cases h
   | globalExplicit=>cases h
   | globalImplicit=>cases h
 gl:=λx h=>by
  have h:qS (sc.names.lookup x)=true:=h;show sc.names.lookup x=_;cases hl:sc.names.lookup x with
  | none=>rw[hl] at h;cases h
  | some kk=>
   rw[hl] at h;cases kk with
   | globalImplicit=>rfl
   | «local»=>cases h
   | cell=>cases h
   | free=>cases h
   | globalExplicit=>cases h
 fre:=λx h=>h
 calm:=rfl
 un:=by have:=hr.un;show (A.deeper (envOfC qual sc s.heap.objs.size f dM)).units + 150 < cLine;lia
 con:=m.con
 bl:=m.bl
theorem jT {name qual:Str} {params:Arguments} {body:List Stmt} {scope:Scope} {dV kV doc pm dM ct oc:Value} {an od:Option Addr} {qe:Array (Option Value)} {f:Addr} {N ps:List Str} {M:List Bool} {δ κ:Option Nat} {aS fF:Bool} {n m:Nat} {ts:Ts}
  (lk:K.lookup f=some ⟨oc,od,.func (PySem.W.fnOf name qual params body scope dV kV doc pm an dM ct),qe⟩) (vz:PySem.W.codeIn K dM qual=true) (S:dc N ps scope) (hm:MG g mg) (wA:XG g K mg xv) (fx:FX g xv (lF P w) P w K mg base m k F)
  (hM:∀i,i < ps.length->M[i]?≠some true) (hδ:aS=true->δ=some 0) (hc:y8 n g ⟨scope.names,N,M,δ,κ⟩ aS fF body=some ts):
  f7 P w K mg base (lF P w) (k + 1) f (PySem.W.fnOf name qual params body scope dV kV doc pm an dM ct) ps (Ht K xv (eL F ⟨ps.length,N.length,aS,ts⟩) ps.length fF aS):=by
 have nu:ps.length<=N.length:=by have:=congrArg List.length S.pre;rw[List.length_take] at this;lia
 refine zj lk vz S (λvs H Q E h=>h.1) λA outer s H vs Q E hr h=>?_
 obtain⟨hl,W,dr,args,S0,kn,hd,ha,hw,h⟩:=h;have er:=tq (K:=K) (names:=scope.names) (N:=N) (κ:=κ) (P:=P) (w:=w) (Ek:=λkk=>∀H',aF (λb=>dr=some b) H H'->E (xv kk) none H') hM hδ nu hl hd ha hw;obtain⟨er,yd⟩:=er;generalize hXX:iF (lF P w) P w K mg base N qual scope f dM A outer s H E=X;generalize hΦ:(⟨K,H,dr,λkk=>∀H',aF (λb=>dr=some b) H H'->E (xv kk) none H',P,w⟩:Fm)=Φ at er;have hΦE:∀v a H',jG Φ xv v a H'->E v none H':=λv a H' z=>by obtain⟨kk,rfl,z1,z2⟩:=z;subst hΦ;exact z1 H' z2
 have Jq:∀e s',iz X (jG Φ xv) e s'->X.xe e s':=λe s' z=>by subst hXX;obtain⟨σ,H',a,cls,e1,I,fl,q⟩:=z;exact Bm ⟨σ,H',a,cls,e1,I,fl,hΦE _ _ _ q⟩
 have st:dR X:=by subst hXX;exact uV
 have gx:GX g ⟨scope.names,N,M,δ,κ⟩ X:=by subst hXX;exact BY (P:=P) (w:=w) (K:=K) (base:=base) (CX:=lF P w) (M:=M) (δ:=δ) (outer:=outer) (H:=H) (E:=E) hm S hr
 have Hw:dR (X.cA (iz X (jG Φ xv))):=⟨st.pn,st.st⟩;have hX:HX g xv (lF P w) k F Φ (X.cA (iz X (jG Φ xv))):=by
  refine⟨?_,?_,?_,⟨m,?_⟩,?_,?_,Hw,λe s' z=>jm z,?_⟩
  ·subst hΦ hXX;rfl
  ·subst hΦ hXX;rfl
  ·subst hΦ hXX;rfl
  ·subst hXX;exact fx
  ·subst hXX;exact hr
  ·subst hXX;rfl
  ·subst hXX;exact wA
 have own:PassesOwn (model (X.cA (iz X (jG Φ xv))).prog (X.cA (iz X (jG Φ xv))).w) (X.cA (iz X (jG Φ xv))).A (X.cA (iz X (jG Φ xv))).env (X.cA (iz X (jG Φ xv))).xe:=qE (E:=jG Φ xv) Hw (λe s' z=>jm z) λe s' z=>ve z
 have d0:Φ.d0=dr:=by subst hΦ;rfl
 have SS:=sA (dp:=aS) (fF:=fF) (W:=W) (n:=n) (Γ:=⟨scope.names,N,M,δ,κ⟩) (by subst hXX;rfl) gx.cA hX (λz=>by
  rw[d0];subst z;simp only[Bool.false_eq_true,if_false] at hd;exact hd.2.1) own hc
 refine⟨_,mN SS Jq,⟨W,W,dr⟩,_,S0,⟨rfl,λa z=>by rw[d0] at z;exact z⟩,er,?_⟩;subst hΦ;unfold eL at h;simp only at h;rw[if_pos yd] at h;have h:(match (aV F ts (rE aS args N.length ps.length) S0).bind (λp=>match p.1 with
   | .next=>R.ok (Dt.ba,p.2.2)
   | .ret d=>R.ok (d,p.2.2)
   | _=>R.bad) with
  | .ok p=>∀v H',FO K W dr fF H p.1 p.2 v H'->Q v H'
  | .ex kk=>∀H',aF (λb=>dr=some b) H H'->E (xv kk) none H'
  | .bad=>False):=h
 cases he:aV F ts (rE aS args N.length ps.length) S0 with
 | ok p=>
  rw[he] at h;simp only[R.ai] at h;show bP _ _ _ _ _ _ _ p;unfold bP;cases hp:p.1 with
  | next=>rw[hp] at h;intro σ' H' so;obtain⟨o',oi,zg,_⟩:=so.ex;exact h _ _ ⟨zg.ent,RV.eR,λa z=>zg.drw a (oi.d a z),λ_ ds e=>by cases e⟩
  | ret d=>rw[hp] at h;intro v H' ro;exact h _ _ ⟨ro.ent,ro.val,ro.drw,ro.dG⟩
  | brk=>rw[hp] at h;exact h.elim
  | cnt=>rw[hp] at h;exact h.elim
 | ex kk=>rw[he] at h;exact h
 | bad=>rw[he] at h;exact h.elim
end
structure si (g:G) (K:Frag) (mg:Str->Option Value) (e:Str×Nat×List Dt×Bool) (idx:Nat) (fn:Fn):Prop where
 ex:∃(fa:Addr) (ps N:List Str) (M:List Bool) (δ κ:Option Nat) (n:Nat) (oc:Value) (od an:Option Addr) (qe:Array (Option Value)) (params:Arguments) (body:List Stmt) (scope:Scope) (dV kV doc pm dM ct:Value),
  K.lookup fa=some ⟨oc,od,.func (PySem.W.fnOf e.1 e.1 params body scope dV kV doc pm an dM ct),qe⟩/\PySem.W.codeIn K dM e.1=true/\PySem.W.keepIn K (.ref fa)=true/\mg e.1=some (.ref fa)/\dc N ps scope/\(∀i,i < ps.length->M[i]?≠some true)/\
  (e.2.2.2=true->δ=some 0)/\ps.length=e.2.1/\y8 n g ⟨scope.names,N,M,δ,κ⟩ e.2.2.2 (g.fr idx) body=some fn.body/\fn.ps=ps.length/\fn.n=N.length/\fn.aS=e.2.2.2/\
  (∀j,j<=e.2.2.1.length->∃ds,aq ((e.2.2.1.drop j).map ny) ds/\Binds K (PySem.W.fnOf e.1 e.1 params body scope dV kV doc pm an dM ct) ps ds)/\e.2.2.1.all lH=true
noncomputable def lJ (g:G) (K:Frag) (mg:Str->Option Value):Nat->List (Str×Nat×List Dt×Bool)->List Fn->Prop
 | _,[],[]=>True
 | i,e::es,f::fs=>si g K mg e i f/\lJ g K mg (i + 1) es fs
 | _,_,_=>False
section
variable {g:G} {K:Frag} {mg:Str->Option Value}
theorem kP {x:Str}:∀{es:List (Str×Nat×List Dt×Bool)} {fs:List Fn} {i j:Nat} {r:Nat×List Dt×Bool},lJ g K mg i es fs->nZ x es=some (j,r)->∃f,si g K mg (x,r) (i + j) f/\fs[j]?=some f
 | [],fs,i,j,r,_,h=>by simp[nZ] at h
 | e::es,[],i,j,r,h,_=>h.elim
 | e::es,f::fs,i,j,r,ok,h=>by
  obtain⟨o1,o2⟩:=ok;unfold nZ at h;split at h
  ·rename_i hx;cases h;have ex:x=e.1:=Ke hx;subst ex;exact⟨f,o1,rfl⟩
  ·obtain⟨p,h1,h2⟩:=J6.mp h;obtain⟨j',r'⟩:=p;cases h2;obtain⟨f',k1,k2⟩:=kP o2 h1;refine⟨f',?_,k2⟩;have:i + (j' + 1)=i + 1 + j':=by lia
   rw[this];exact k1
variable {P:Program} {w:World} {base:Heap} {xv:Nat->Value} {fs:List Fn}
theorem ja (hm:MG g mg) (wA:XG g K mg xv) (ok:lJ g K mg 0 g.fns fs):∀n,FX g xv (lF P w) P w K mg base n n (aO fs n)
 | 0=>⟨λx f np dU aS h=>by
   obtain⟨fn,⟨fa,ps,N,M,δ,κ,n,oc,od,an,qe,params,body,scope,dV,kV,doc,pm,dM,ct,h1,h2,h3,h4,h5,h6,h7,h8,h9,Fb,Fc,Fe,Ff,Fg⟩,hf⟩:=kP ok h;refine⟨fa,_,ps,h8,h4,h3,⟨λvs H Q E q=>q.1.trans h8.symm,λA outer s H args us vs Q E _ _ _ _ q=>?_⟩,Ff,Fg⟩;obtain⟨_,W,dr,as,S,kn,_,_,_,q⟩:=q;exact q.elim⟩
 | n + 1=>⟨λx f np dU aS h=>by
   have ih:=ja hm wA ok n;obtain⟨fn,⟨fa,ps,N,M,δ,κ,m,oc,od,an,qe,params,body,scope,dV,kV,doc,pm,dM,ct,h1,h2,h3,h4,h5,h6,h7,h8,h9,Fb,Fc,Fe,Ff,Fg⟩,hf⟩:=kP ok h;rw[Nat.zero_add] at h9;refine⟨fa,_,ps,h8,h4,h3,?_,Ff,Fg⟩;have:=jT (xv:=xv) (P:=P) (w:=w) (base:=base) h1 h2 h5 hm wA ih h6 h7 h9;have e:(aO fs (n + 1)) f=eL (aO fs n) ⟨ps.length,N.length,aS,fn.body⟩:=by funext args S;show (match fs[f]? with | some g=>eL (aO fs n) g args S | none=>R.bad)=_;rw[hf];obtain⟨a1,a2,a3,a4⟩:=fn;simp only at Fb Fc Fe;subst Fb Fc Fe;rfl
   have HY:ps.length=np:=h8;rw[e,<-HY];exact this⟩
noncomputable def qt (K:Frag):Sp:=λvs H Q _=>∃(a:Addr) (ns:List Int),vs=[.ref a]/\cY K H a (ns.map V.int)/\ns.length<=63/\∀H',Q (.bl true) H'
theorem len0 {P:List Value->Prop} (h:P []):∀us:List Value,us.length=0->P us:=λus e=>List.eq_nil_of_length_eq_zero e▸h
theorem lenS {n:Nat} {P:List Value->Prop} (h:∀a (us:List Value),us.length=n->P (a::us)):∀us:List Value,us.length=n + 1->P us:=λus e=>by
 cases us with
 | nil=>cases e
 | cons a t=>exact h a t (Nat.succ.inj e)
theorem binds0 {fd:FuncData} {ps:List Str} (h:∀us:List Value,us.length=ps.length->bindArgs fd ⟨us,[]⟩=pure (ps.zip us)):∀j,j<=([]:List Dt).length->∃ds,aq ((([]:List Dt).drop j).map ny) ds/\Binds K fd ps ds:=λj hj=>by
 have:j=0:=by simpa using hj
 subst this;exact⟨[],.nil,Binds.all h⟩
noncomputable def IY (names:List (Str×NameKind)) (ps:List Str):List Str:=ps++names.filterMap λp=>if ue (some p.2)&& !ps.contains p.1 then some p.1 else none
noncomputable def Bx (N ms:List Str):List Bool:=N.map λx=>ms.contains x
theorem CJ {N ms ps:List Str} (h:((Bx N ms).take ps.length).all (λb=> !b)=true):∀i,i < ps.length->(Bx N ms)[i]?≠some true:=λi hi e=>by have hm:true∈(Bx N ms).take ps.length:=List.mem_iff_getElem?.mpr ⟨i,by rw[List.getElem?_take_of_lt hi];exact e⟩;have:=Kr.mp h true hm;cases this
end
end Rx
end
section
namespace Rx
open PySem PySem.W PySem.Spec PyProof.Rows L2
section
variable {F:FT} {S:Sx} {ρ:aj}
theorem c6 {tg:Tg} {body:aj->Sx->RS} {ds:List Dt} (P:List Dt->aj->Prop) (h0:P [] ρ)
  (step:∀pre x post ρ,ds=pre++x::post->P pre ρ->∃ρ1 ρ2,cJ tg x ρ= .ok ρ1/\body ρ1 S= .ok (.next,ρ2,S)/\P (pre++[x]) ρ2):∃ρ',forL tg body ds ρ S= .ok (.next,ρ',S)/\P ds ρ':=by
 have key:∀(post pre:List Dt) (ρ:aj),ds=pre++post->P pre ρ->∃ρ',forL tg body post ρ S= .ok (.next,ρ',S)/\P ds ρ':=by
  intro post
  induction post with
  | nil=>intro pre ρ e h;rw[Ku] at e;subst e;exact⟨ρ,rfl,h⟩
  | cons x post ih=>intro pre ρ e h;obtain⟨ρ1,ρ2,h1,h2,h3⟩:=step pre x post ρ e h;obtain⟨ρ',h4,h5⟩:=ih (pre++[x]) ρ2 (by rw[e];simp) h3;refine⟨ρ',?_,h5⟩;rw[forL,h1,R.ai,h2,R.ai];exact h4
 exact key ds [] ρ rfl h0
theorem iD {f:Dt->Sx->R (List Dt×Sx)} {g:Dt->List Dt}:∀{ds:List Dt},(∀x∈ds,f x S= .ok (g x,S))->bE f ds S= .ok (ds.flatMap g,S)
 | [],_=>rfl
 | x::ds,h=>by rw[bE,h x JX,R.ai,iD λy hy=>h y (JV _ hy),R.ai,List.flatMap_cons]
theorem l0 {α β:Type} (f:α->β):∀l:List α,(l.flatMap λx=>[f x])=l.map f
 | []=>rfl
 | x::l=>by rw[List.flatMap_cons,l0 f l];rfl
theorem iP {α β:Type} (p:α->Bool) (f:α->β):∀l:List α,(l.flatMap λx=>if p x=true then[f x] else[])=(l.filter p).map f
 | []=>rfl
 | x::l=>by
  rw[List.flatMap_cons,iP p f l];by_cases h:p x=true
  ·rw[if_pos h,List.filter_cons_of_pos h];rfl
  ·rw[if_neg h,List.filter_cons_of_neg h];rfl
theorem kH {f:Dt->Sx->R (List Dt×Sx)} {p:Dt->Bool} {g:Dt->Dt} {ds:List Dt} (h:∀x∈ds,f x S= .ok (if p x=true then[g x] else[],S)):bE f ds S= .ok ((ds.filter p).map g,S):=by rw[iD (g:=λx=>if p x=true then[g x] else[]) h,iP]
end
theorem xD {fs:List Fn} {n k:Nat} {g:Fn} {args:List Dt} {S:Sx} (h:fs[k]?=some g):aO fs (n + 1) k args S=eL (aO fs n) g args S:=by show (match fs[k]? with | some g=>eL (aO fs n) g args S | none=>R.bad)=_;rw[h]
noncomputable def CM (d:Dt) (S:Sx):R (Dt×Sx):=match d with | .int i=> .ok (.int (-i),S) | _=> .bad
noncomputable def Hq (d:Dt) (S:Sx):R (Dt×Sx):=match d with | .bl b=> .ok (.bl !b,S) | _=> .bad
noncomputable def BM (d:Dt) (S:Sx):R (Dt×Sx):=match d with | .bl c=> .ok (.bl c,S) | _=> .bad
noncomputable def yS (f:Sx->R (Dt×Sx)) (d:Dt) (S:Sx):R (Dt×Sx):=match d with | .bl true=>(f S).bind (λy=>BM y.1 y.2) | .bl false=> .ok (.bl false,S) | _=> .bad
noncomputable def F2 (f:Sx->R (Dt×Sx)) (d:Dt) (S:Sx):R (Dt×Sx):=match d with | .bl false=>(f S).bind (λy=>BM y.1 y.2) | .bl true=> .ok (.bl true,S) | _=> .bad
noncomputable def yn (k:List Dt->Dt) (ds:List Dt) (S:Sx):R (Dt×Sx):=af (decide (ds.length<=lim)) (.ok (k ds,S))
noncomputable def FM (o:Option (List Dt)) (S:Sx):R (List Dt×Sx):=match o with | some ds=> .ok (ds,S) | none=> .bad
noncomputable def Ds (d e:Dt) (S:Sx):R (Dt×Sx):=match e with | .int i=>(gv d (some i) none).bind λd=> .ok (d,S) | _=> .bad
noncomputable def Dr (d e:Dt) (S:Sx):R (Dt×Sx):=match e with | .int i=>(gv d none (some i)).bind λd=> .ok (d,S) | _=> .bad
theorem RX:
  (∀{F:FT} {S:Sx} {ρ:aj} {d:Dt},ev F (.con d) ρ S= .ok (d,S))/\
  (∀{F:FT} {S:Sx} {ρ:aj} {i:Nat},ev F (.var i) ρ S=(cD ρ i).bind λd=> .ok (d,S))/\
  (∀{F:FT} {S:Sx} {ρ:aj} {i:Nat},ev F (.mvr i) ρ S=(cD ρ i).bind λd=> .ok (d,S))/\
  (∀{F:FT} {S:Sx} {ρ:aj} {o:Operator} {a b:C},ev F (.bin o a b) ρ S=(ev F a ρ S).bind λx=>(ev F b ρ x.2).bind λy=>(oI o x.1 y.1).bind λd=> .ok (d,y.2))/\
  (∀{F:FT} {S:Sx} {ρ:aj} {o:CmpOp} {a b:C},ev F (.cmp o a b) ρ S=(ev F a ρ S).bind λx=>(ev F b ρ x.2).bind λy=>(ck o x.1 y.1).bind λd=> .ok (.bl d,y.2))/\
  (∀{F:FT} {S:Sx} {ρ:aj} {a:C},ev F (.neg a) ρ S=(ev F a ρ S).bind λx=>CM x.1 x.2)/\
  (∀{F:FT} {S:Sx} {ρ:aj} {a:C},ev F (.nt a) ρ S=(ev F a ρ S).bind λx=>Hq x.1 x.2)/\
  (∀{F:FT} {S:Sx} {ρ:aj} {a b:C},ev F (.and a b) ρ S=(ev F a ρ S).bind λx=>yS (ev F b ρ) x.1 x.2)/\
  (∀{F:FT} {S:Sx} {ρ:aj} {a b:C},ev F (.or a b) ρ S=(ev F a ρ S).bind λx=>F2 (ev F b ρ) x.1 x.2)/\
  (∀{F:FT} {S:Sx} {ρ:aj} {a b c:C},ev F (.ite a b c) ρ S=(bR F a ρ S).bind λx=>if x.1=true then ev F b ρ x.2 else ev F c ρ x.2)/\
  (∀{F:FT} {S:Sx} {ρ:aj} {a b:C},ev F (.idx a b) ρ S=(ev F a ρ S).bind λx=>(ev F b ρ x.2).bind λy=>(cQ x.1 y.1).bind λd=> .ok (d,y.2))/\
  (∀{F:FT} {S:Sx} {ρ:aj} {a b:C},ev F (.sliL a b) ρ S=(ev F a ρ S).bind λx=>(ev F b ρ x.2).bind λy=>Ds x.1 y.1 y.2)/\
  (∀{F:FT} {S:Sx} {ρ:aj} {a b:C},ev F (.sliH a b) ρ S=(ev F a ρ S).bind λx=>(ev F b ρ x.2).bind λy=>Dr x.1 y.1 y.2)/\
  (∀{F:FT} {S:Sx} {ρ:aj} {f:Nat} {es:Cs} {ds:List Dt},ev F (.call f es ds) ρ S=(eh F es ρ S).bind λx=>(F f (x.1++ds) none).bind λy=> .ok (y.1,x.2))/\
  (∀{F:FT} {S:Sx} {ρ:aj} {u:BI} {es:Cs},ev F (.bi u es) ρ S=(eh F es ρ S).bind λx=>(dD u x.1).bind λd=> .ok (d,x.2))/\
  (∀{F:FT} {S:Sx} {ρ:aj} {es:Cs},ev F (.tup es) ρ S=(eh F es ρ S).bind λx=>yn .tup x.1 x.2)/\
  (∀{F:FT} {S:Sx} {ρ:aj} {es:Cs},ev F (.lst es) ρ S=(eh F es ρ S).bind λx=>yn .lst x.1 x.2)/\
  (∀{F:FT} {S:Sx} {ρ:aj},eh F .nil ρ S= .ok ([],S))/\
  (∀{F:FT} {S:Sx} {ρ:aj} {a:C} {es:Cs},eh F (.cons a es) ρ S=(ev F a ρ S).bind λx=>(eh F es ρ x.2).bind λy=> .ok (x.1::y.1,y.2))/\
  (∀{F:FT} {S:Sx} {ρ:aj} {o:CmpOp} {a b:C},bR F (.cmp o a b) ρ S=(ev F a ρ S).bind λx=>(ev F b ρ x.2).bind λy=>(ck o x.1 y.1).bind λd=> .ok (d,y.2))/\
  (∀{F:FT} {S:Sx} {ρ:aj} {a b:C},bR F (.and a b) ρ S=(bR F a ρ S).bind λx=>if x.1=true then bR F b ρ x.2 else .ok (false,x.2))/\
  (∀{F:FT} {S:Sx} {ρ:aj} {a b:C},bR F (.or a b) ρ S=(bR F a ρ S).bind λx=>if x.1=true then .ok (true,x.2) else bR F b ρ x.2)/\
  (∀{F:FT} {S:Sx} {ρ:aj} {a:C},bR F (.nt a) ρ S=(bR F a ρ S).bind λx=> .ok (!x.1,x.2))/\
  (∀{F:FT} {S:Sx} {ρ:aj} {f:Nat} {es:Cs} {ds:List Dt},bR F (.call f es ds) ρ S=(eh F es ρ S).bind λx=>(F f (x.1++ds) none).bind λy=>(cF y.1).bind λb=> .ok (b,x.2))/\
  (∀{F:FT} {S:Sx} {ρ:aj} {u:BI} {es:Cs},bR F (.bi u es) ρ S=(eh F es ρ S).bind λx=>(dD u x.1).bind λd=>(cF d).bind λb=> .ok (b,x.2))/\
  (∀{F:FT} {S:Sx} {ρ:aj} {i:Nat},bR F (.var i) ρ S=(cD ρ i).bind λd=>(cF d).bind λb=> .ok (b,S))/\
  (∀{F:FT} {S:Sx} {ρ:aj} {i:Nat},bR F (.mvr i) ρ S=(cD ρ i).bind λd=>(cF d).bind λb=> .ok (b,S))/\
  (∀{F:FT} {S:Sx} {ρ:aj} {a b:C},bR F (.idx a b) ρ S=(ev F a ρ S).bind λx=>(ev F b ρ x.2).bind λy=>(cQ x.1 y.1).bind λd=>(cF d).bind λb=> .ok (b,y.2))/\
  (∀{F:FT} {S:Sx} {ρ:aj},cO F .nil ρ S= .ok (true,S))/\
  (∀{F:FT} {S:Sx} {ρ:aj} {a:C},cO F (.cons a .nil) ρ S=bR F a ρ S)/\
  (∀{F:FT} {S:Sx} {ρ:aj} {a:C},dF F (.seq a) ρ S=(ev F a ρ S).bind λx=>FM (itemsOf x.1) x.2)/\
  (∀{F:FT} {S:Sx} {ρ:aj} {a:C},dF F (.enum a) ρ S=(ev F a ρ S).bind λx=>FM ((bV x.1).map (gF 0)) x.2)/\
  (∀{d:Dt} {ρ:aj},cD (some d::ρ) 0= .ok d)/\
  (∀{e:Option Dt} {ρ:aj} {i:Nat},cD (e::ρ) (i + 1)=cD ρ i)/\
  (∀{S:Sx} {i:Int},CM (.int i) S= .ok (.int (-i),S))/\
  (∀{S:Sx} {b:Bool},Hq (.bl b) S= .ok (.bl !b,S))/\
  (∀{S:Sx} {f:Sx->R (Dt×Sx)},yS f (.bl false) S= .ok (.bl false,S))/\
  (∀{S:Sx} {f:Sx->R (Dt×Sx)},yS f (.bl true) S=(f S).bind λy=>BM y.1 y.2)/\
  (∀{S:Sx} {f:Sx->R (Dt×Sx)},F2 f (.bl true) S= .ok (.bl true,S))/\
  (∀{S:Sx} {f:Sx->R (Dt×Sx)},F2 f (.bl false) S=(f S).bind λy=>BM y.1 y.2)/\
  (∀{S:Sx} {b:Bool},BM (.bl b) S= .ok (.bl b,S))/\
  (∀{S:Sx} {ds:List Dt},FM (some ds) S= .ok (ds,S))/\
  (∀{ds:List Dt} {f:List Dt->List Dt},(some ds).map f=some (f ds))/\
  (∀{S:Sx} {k:List Dt->Dt},yn k [] S= .ok (k [],S))/\
  (∀{S:Sx} {k:List Dt->Dt} {a:Dt},yn k [a] S= .ok (k [a],S))/\
  (∀{S:Sx} {k:List Dt->Dt} {a b:Dt},yn k [a,b] S= .ok (k [a,b],S))/\
  (∀{S:Sx} {k:List Dt->Dt} {a b c:Dt},yn k [a,b,c] S= .ok (k [a,b,c],S))/\
  (∀{S:Sx} {k:List Dt->Dt} {a b c d:Dt},yn k [a,b,c,d] S= .ok (k [a,b,c,d],S))/\
  (∀{S:Sx} {k:List Dt->Dt} {a b c d e:Dt},yn k [a,b,c,d,e] S= .ok (k [a,b,c,d,e],S))/\
  (∀{S:Sx} {d:Dt} {i:Int},Ds d (.int i) S=(gv d (some i) none).bind λd=> .ok (d,S))/\
  (∀{S:Sx} {d:Dt} {i:Int},Dr d (.int i) S=(gv d none (some i)).bind λd=> .ok (d,S))/\
  (∀{m n:Int},oI .Add (.int m) (.int n)= .ok (.int (m + n)))/\
  (∀{m n:Int},oI .Sub (.int m) (.int n)= .ok (.int (m - n)))/\
  (∀{m n:Int},ck .Lt (.int m) (.int n)= .ok (decide (m < n)))/\
  (∀{m n:Int},ck .LtE (.int m) (.int n)= .ok (decide (m<=n)))/\
  (∀{m n:Int},ck .Gt (.int m) (.int n)= .ok (decide (n < m)))/\
  (∀{m n:Int},ck .GtE (.int m) (.int n)= .ok (decide (n<=m)))/\
  (∀{m n:Int},ck .Eq (.int m) (.int n)= .ok (m==n))/\
  (∀{m n:Int},ck .NotEq (.int m) (.int n)= .ok (!(m==n)))/\
  (∀{m n:Str},ck .Eq (.str m) (.str n)= .ok (m==n))/\
  (∀{m n:Str},ck .NotEq (.str m) (.str n)= .ok (!(m==n)))/\
  (∀{ns:List Int},dD .len [.aQ ns]= .ok (.int ns.length))/\
  (∀{ds:List Dt},dD .len [.lst ds]= .ok (.int ds.length))/\
  (∀{ds:List Dt},dD .len [.tup ds]= .ok (.int ds.length))/\
  (∀{ds:List Dt},dD .tuple [.lst ds]= .ok (.tup ds))/\
  (∀{ds:List Dt},dD .tuple [.tup ds]= .ok (.tup ds))/\
  (∀{ds:List Dt},dD .list [.lst ds]= .ok (.lst ds))/\
  (∀{ds:List Dt},dD .list [.tup ds]= .ok (.lst ds))/\
  (∀{m n:Int},dD .min2 [.int m,.int n]= .ok (.int (if n < m then n else m)))/\
  (∀{t:Bool},cF (.bl t)= .ok t)/\
  (∀{ds:List Dt},cF (.lst ds)= .ok !ds.isEmpty)/\
  (∀{ds:List Dt},cF (.tup ds)= .ok !ds.isEmpty)/\
  (∀{ds:List Dt},itemsOf (.lst ds)=some ds)/\
  (∀{ds:List Dt},itemsOf (.tup ds)=some ds)/\
  (∀{ds:List Dt},bV (.lst ds)=some ds)/\
  (∀{ds:List Dt},bV (.tup ds)=some ds)/\
  (∀{α β:Type} {x:α} {f:α->R β},(R.ok x).bind f=f x)/\
  (∀{α:Type} {r:R α},af true r=r)/\
  (∀{ds:List Dt},(ds++[]:List Dt)=ds)/\
  (∀{e v:Option Dt} {ρ:aj},(e::ρ).set 0 v=v::ρ)/\
  (∀{e v:Option Dt} {ρ:aj} {i:Nat},(e::ρ).set (i + 1) v=e::ρ.set i v)/\
  (∀{d:Dt} {ρ:aj} {i:Nat},cJ (.nm i) d ρ= .ok (ρ.set i (some d)))/\
  (∀{is:List Nat} {ds:List Dt} {ρ:aj},cJ (.tp is) (.tup ds) ρ=d5 is ds ρ)/\
  (∀{ρ:aj},d5 [] [] ρ= .ok ρ)/\
  (∀{i:Nat} {is:List Nat} {d:Dt} {ds:List Dt} {ρ:aj},d5 (i::is) (d::ds) ρ=d5 is ds (ρ.set i (some d)))/\
  (∀{d:Dt},cQ (.tup [d]) (.int 0)= .ok d)/\
  (∀{d d2:Dt},cQ (.tup [d,d2]) (.int 0)= .ok d)/\
  (∀{d d2:Dt},cQ (.tup [d,d2]) (.int 1)= .ok d2)/\
  (∀{d d2 d3:Dt},cQ (.tup [d,d2,d3]) (.int 0)= .ok d)/\
  (∀{d d2 d3:Dt},cQ (.tup [d,d2,d3]) (.int 1)= .ok d2)/\
  (∀{d d2 d3:Dt},cQ (.tup [d,d2,d3]) (.int 2)= .ok d3):=
 ⟨@λ_ _ _ _=>rfl,
  @λ_ _ _ _=>rfl,
  @λ_ _ _ _=>rfl,
  @λ_ _ _ _ _ _=>rfl,
  @λ_ _ _ _ _ _=>rfl,
  @λ_ _ _ _=>rfl,
  @λ_ _ _ _=>rfl,
  @λ_ _ _ _ _=>rfl,
  @λ_ _ _ _ _=>rfl,
  @λ_ _ _ _ _ _=>rfl,
  @λ_ _ _ _ _=>rfl,
  @λ_ _ _ _ _=>rfl,
  @λ_ _ _ _ _=>rfl,
  @λ_ _ _ _ _ _=>rfl,
  @λ_ _ _ _ _=>rfl,
  @λ_ _ _ _=>rfl,
  @λ_ _ _ _=>rfl,
  @λ_ _ _=>rfl,
  @λ_ _ _ _ _=>rfl,
  @λ_ _ _ _ _ _=>rfl,
  @λ_ _ _ _ _=>rfl,
  @λ_ _ _ _ _=>rfl,
  @λ_ _ _ _=>rfl,
  @λ_ _ _ _ _ _=>rfl,
  @λ_ _ _ _ _=>rfl,
  @λ_ _ _ _=>rfl,
  @λ_ _ _ _=>rfl,
  @λ_ _ _ _ _=>rfl,
  @λ_ _ _=>rfl,
  @λ_ _ _ _=>rfl,
  @λ_ _ _ _=>rfl,
  @λF S ρ a=>by rw[dF];cases ev F a ρ S with | ok x=>(simp only[R.ai];cases bV x.1 <;> rfl) | ex k=>rfl | bad=>rfl,
  @λ_ _=>rfl,
  @λ_ _ _=>rfl,
  @λ_ _=>rfl,
  @λ_ _=>rfl,
  @λ_ _=>rfl,
  @λ_ _=>rfl,
  @λ_ _=>rfl,
  @λ_ _=>rfl,
  @λ_ _=>rfl,
  @λ_ _=>rfl,
  @λ_ _=>rfl,
  @λ_ _=>rfl,
  @λ_ _ _=>rfl,
  @λ_ _ _ _=>rfl,
  @λ_ _ _ _ _=>rfl,
  @λ_ _ _ _ _ _=>rfl,
  @λ_ _ _ _ _ _ _=>rfl,
  @λ_ _ _=>rfl,
  @λ_ _ _=>rfl,
  @λ_ _=>rfl,
  @λ_ _=>rfl,
  @λ_ _=>rfl,
  @λ_ _=>rfl,
  @λ_ _=>rfl,
  @λ_ _=>rfl,
  @λ_ _=>rfl,
  @λ_ _=>rfl,
  @λ_ _=>rfl,
  @λ_ _=>rfl,
  @λ_=>rfl,
  @λ_=>rfl,
  @λ_=>rfl,
  @λ_=>rfl,
  @λ_=>rfl,
  @λ_=>rfl,
  @λ_=>rfl,
  @λ_ _=>rfl,
  @λ_=>rfl,
  @λ_=>rfl,
  @λ_=>rfl,
  @λ_=>rfl,
  @λ_=>rfl,
  @λ_=>rfl,
  @λ_=>rfl,
  @λ_ _ _ _=>rfl,
  @λ_ _=>rfl,
  @λds=>Ku ds,
  @λ_ _ _=>rfl,
  @λ_ _ _ _=>rfl,
  @λ_ _ _=>rfl,
  @λ_ _ _=>rfl,
  @λ_=>rfl,
  @λ_ _ _ _ _=>rfl,
  @λ_=>rfl,
  @λ_ _=>rfl,
  @λ_ _=>rfl,
  @λ_ _ _=>rfl,
  @λ_ _ _=>rfl,
  @λ_ _ _=>rfl⟩
section
variable {F:FT} {S:Sx} {ρ:aj}
theorem bg {i j:Int} (h:i.natAbs < 2 ^ 64\/j.natAbs < 2 ^ 64):oI .Mult (.int i) (.int j)= .ok (.int (i * j)):=by show af (decide (i.natAbs < 2 ^ 64)||decide (j.natAbs < 2 ^ 64)) _=_;rw[show (decide (i.natAbs < 2 ^ 64)||decide (j.natAbs < 2 ^ 64))=true by simpa using h];rfl
theorem bS {i j:Int} (h:0 < j):oI .Mod (.int i) (.int j)= .ok (.int (i % j)):=by show af (decide (0 < j)) _=_;rw[Kk h];rfl
theorem uv {i j:Int} (h:0 < j) (h2:j.natAbs.log2 < 9000):oI .FloorDiv (.int i) (.int j)= .ok (.int (i / j)):=by show af (decide (0 < j)&&decide (j.natAbs.log2 < 9000)) _=_;rw[Kk h,Kk h2];rfl
noncomputable def fin (r:RS):R (Dt×Sx):=r.bind λp=>match p.1 with
 | .next=> .ok (.ba,p.2.2)
 | .ret d=> .ok (d,p.2.2)
 | _=> .bad
noncomputable def Ts.app:Ts->Ts->Ts
 | .nil,b=>b
 | .cons t a,b=> .cons t (a.app b)
theorem kO:∀{a b:Ts} {ρ:aj} {S:Sx},aV F (a.app b) ρ S=(aV F a ρ S).bind λp=>match p.1 with
  | .next=>aV F b p.2.1 p.2.2
  | f=> .ok (f,p.2)
 | .nil,b,ρ,S=>rfl
 | .cons t a,b,ρ,S=>by
  show aV F (.cons t (a.app b)) ρ S=_;rw[aV,aV];cases ex F t ρ S with
  | ok p=>
   obtain⟨f,ρ1,S1⟩:=p;cases f with
   | next=>exact kO
   | brk=>rfl
   | cnt=>rfl
   | ret d=>rfl
  | ex k=>rfl
  | bad=>rfl
section
variable {r:R (Dt×Sx)} {ts:Ts}
theorem fz {t:T} {ρ1:aj} {S1:Sx} (h:ex F t ρ S= .ok (.next,ρ1,S1)) (k:fin (aV F ts ρ1 S1)=r):fin (aV F (.cons t ts) ρ S)=r:=by rw[aV,h];exact k
theorem v7 {t:T} {ρ1:aj} {S1:Sx} {d:Dt} (h:ex F t ρ S= .ok (.ret d,ρ1,S1)):fin (aV F (.cons t ts) ρ S)= .ok (d,S1):=by rw[aV,h];rfl
theorem aW {i:Nat} {c:C} {d:Dt} {S1:Sx} (h:ev F c ρ S= .ok (d,S1)) (hs:cV c d=true) (k:fin (aV F ts (ρ.set i (some d)) S1)=r):fin (aV F (.cons (.asg i c) ts) ρ S)=r:=by refine fz ?_ k;rw[ex,h,R.ai,hs];rfl
theorem iO {i:Nat} {c:C} {d:Dt} {S1:Sx} (h:ev F c ρ S= .ok (d,S1)) (hs:jg c d=true) (k:fin (aV F ts (ρ.set i (some d)) S1)=r):fin (aV F (.cons (.asgM i c) ts) ρ S)=r:=by refine fz ?_ k;rw[ex,h,R.ai,hs];rfl
theorem aJ {c:C} {d:Dt} {S1:Sx} (h:ev F c ρ S= .ok (d,S1)):fin (aV F (.cons (.ret c) ts) ρ S)= .ok (d,S1):=by refine v7 (ρ1:=ρ) ?_;rw[ex,h];rfl
theorem tE {t:C} {a b:Ts} {x:Bool} {S1:Sx} (h:bR F t ρ S= .ok (x,S1)) (k:fin (aV F ((if x=true then a else b).app ts) ρ S1)=r):fin (aV F (.cons (.ifs t a b) ts) ρ S)=r:=by rw[<-k,kO,aV,ex,h,R.ai];cases x <;> rfl
theorem iN {t:C} {a b:Ts} {S1:Sx} (h:bR F t ρ S= .ok (true,S1)) (k:fin (aV F (a.app ts) ρ S1)=r):fin (aV F (.cons (.ifs t a b) ts) ρ S)=r:=tE h (by rw[if_pos rfl];exact k)
theorem dW {t:C} {a b:Ts} {S1:Sx} (h:bR F t ρ S= .ok (false,S1)) (k:fin (aV F (b.app ts) ρ S1)=r):fin (aV F (.cons (.ifs t a b) ts) ρ S)=r:=tE h (by rw[if_neg (by simp)];exact k)
theorem dg {tg:Tg} {it:nk} {b:Ts} {ds:List Dt} {ρ1:aj} {S1 S2:Sx} (h:dF F it ρ S= .ok (ds,S1)) (hl:r8 it=0) (hf:forL tg (aV F b) ds ρ S1= .ok (.next,ρ1,S2)) (k:fin (aV F ts ρ1 S2)=r):fin (aV F (.cons (.fr tg it b) ts) ρ S)=r:=by refine fz ?_ k;rw[ex,h,R.ai,Kk hl,Bool.true_or];exact hf
end
end
theorem bj {fs:List Fn} {n k ps m:Nat} {body:Ts} {args:List Dt} {r:R (Dt×Sx)} {S:Sx} (h:fs[k]?=some ⟨ps,m,false,body⟩) (hn:1<=n) (hl:args.length=ps) (q:fin (aV (aO fs (n - 1)) body (args.map some++List.replicate (m - ps) none) S)=r):aO fs n k args S=r:=by obtain⟨n,rfl⟩:∃m,n=m + 1:=⟨n - 1,by lia⟩;rw[xD h];unfold eL;simp only[Bool.false_eq_true,if_false,Nat.add_zero,hl,if_true,List.nil_append];exact q
noncomputable def pj:Ts:=(.cons (.ifs (.cmp .Lt (.var 1) (.bi .len (.cons (.var 0) .nil))) (.cons (.ret (.idx (.var 0) (.var 1))) .nil) .nil) (.cons (.asg 2 (.bin .Add (.bin .Mult (.var 1) (.con (.int 7919))) (.con (.int 5)))) (.cons (.ifs (.cmp .Gt (.bi .len (.cons (.var 0) .nil)) (.con (.int 0))) (.cons (.asg 2 (.bin .Add (.bin .Add (.bin .Mult (.bin .Mod (.idx (.var 0) (.bin .Mod (.var 1) (.bi .len (.cons (.var 0) .nil)))) (.con (.int 2147483647))) (.con (.int 48271))) (.bin .Mult (.bin .Mult (.var 1) (.var 1)) (.con (.int 7919)))) (.con (.int 11)))) .nil) .nil) (.cons (.ret (.bin .Mod (.bin .Mult (.var 2) (.var 2)) (.con (.int 2147483629)))) .nil))))
theorem pR {ns:List Int} {k:Nat} (h:k < ns.length):cQ (.aQ ns) (.int k)= .ok (.int ns[k]):=by show vN (ns.map Dt.int) k=_;unfold vN;rw[L2.kD (v:= .int ns[k]) (by simp[h])]
noncomputable def gz (ns:List Int) (k:Nat):Int:=if h:k < ns.length then ns[k] else
 let m:Int:=if h:0 < ns.length then ns[k % ns.length]'(Nat.mod_lt _ h) % 2147483647 * 48271 + k * k * 7919 + 11 else k * 7919 + 5
 m * m % 2147483629
theorem vU {fs:List Fn} {ic:Nat} (hc:fs[ic]?=some ⟨2,3,false,pj⟩) {n:Nat} (hn:1<=n) {ns:List Int} {k:Nat} (hk:k < 1000000):aO fs n ic [.aQ ns,.int k] none= .ok (.int (gz ns k),none):=by
 refine bj hc hn rfl ?_;show fin (aV (aO fs (n - 1)) pj [some (.aQ ns),some (.int k),none] none)=_;by_cases h:k < ns.length
 ·refine iN (S1:=none) (by simp only[RX];simp[h]) ?_;exact(aJ (d:= .int ns[k]) (S1:=none) (by simp only[RX,pR h])).trans (by simp[gz,h])
 ·have b1:(k:Int) * k<=1000000 * 1000000:=by
   have:k * k<=1000000 * 1000000:=Nat.mul_le_mul (by lia) (by lia);rw[<-Int.natCast_mul]
   lia
  have b0:(0:Int)<=(k:Int) * k:=Int.mul_nonneg (by lia) (by lia);have m1:=bg (i:=k) (j:=7919) (.inl (by lia));refine dW (S1:=none) (by simp only[RX];simp;lia) (aW (d:= .int (k * 7919 + 5)) (S1:=none) (by simp only[RX,m1]) rfl ?_);by_cases h2:0 < ns.length
  ·have hm:=Nat.mod_lt k h2;have e1:((k:Int) % (ns.length:Int))=((k % ns.length:Nat):Int):=by simp
   generalize hx:ns[k % ns.length]=x;have r1:=Ks x (b:=2147483647) (by decide);have r2:=Kt x (b:=2147483647) (by decide);have m2:=bS (i:=k) (j:=ns.length) (by lia);rw[e1] at m2;have m3:=bS (i:=x) (j:=2147483647) (by decide);have m4:=bg (i:=x % 2147483647) (j:=48271) (.inl (by lia));have m5:=bg (i:=k) (j:=k) (.inl (by lia));have m6:=bg (i:=(k:Int) * k) (j:=7919) (.inl (by lia));have m7:=bg (i:=x % 2147483647 * 48271 + k * k * 7919 + 11) (j:=x % 2147483647 * 48271 + k * k * 7919 + 11) (.inl (by lia));have m8:=bS (i:=(x % 2147483647 * 48271 + k * k * 7919 + 11) * (x % 2147483647 * 48271 + k * k * 7919 + 11)) (j:=2147483629) (by decide);refine iN (S1:=none) (by simp only[RX];simp;lia) (aW (d:= .int (x % 2147483647 * 48271 + k * k * 7919 + 11)) (S1:=none) ?_ rfl ?_)
   ·simp only[RX,m2,m3,m4,m5,m6,pR hm,hx]
   ·refine(aJ (d:=_) (S1:=none) (by simp only[RX,m7,m8];rfl)).trans ?_;simp[gz,h,h2,hx]
  ·have z0:decide ((0:Int) < ns.length)=false:=Kg (by lia);have m7:=bg (i:=k * 7919 + 5) (j:=k * 7919 + 5) (.inl (by lia));have m8:=bS (i:=((k:Int) * 7919 + 5) * (k * 7919 + 5)) (j:=2147483629) (by decide);refine dW (S1:=none) (by simp only[RX,z0]) ((aJ (d:=_) (S1:=none) (by simp only[RX,m7,m8];rfl)).trans ?_);simp[gz,h,h2]
section
variable {F:FT} {S S1 S2:Sx} {ρ ρ1:aj} {ts:Ts} {r:RS} {d:Dt} {ds:List Dt}
theorem nx {t:T} (h:ex F t ρ S= .ok (.next,ρ1,S1)) (k:aV F ts ρ1 S1=r):aV F (.cons t ts) ρ S=r:=by rw[aV,h];exact k
theorem bC {i:Nat} {c:C} (h:ev F c ρ S= .ok (d,S1)) (hs:cV c d=true) (k:aV F ts (ρ.set i (some d)) S1=r):aV F (.cons (.asg i c) ts) ρ S=r:=by refine nx ?_ k;rw[ex,h,R.ai,hs];rfl
theorem yo {t:C} {a b:Ts} {x:Bool} (h:bR F t ρ S= .ok (x,S1)) (k:aV F ((if x=true then a else b).app ts) ρ S1=r):aV F (.cons (.ifs t a b) ts) ρ S=r:=by rw[<-k,kO,aV,ex,h,R.ai];cases x <;> rfl
theorem oG {t:C} {a b:Ts} (h:bR F t ρ S= .ok (true,S1)) (k:aV F (a.app ts) ρ S1=r):aV F (.cons (.ifs t a b) ts) ρ S=r:=yo h (by rw[if_pos rfl];exact k)
theorem la {t:C} {a b:Ts} (h:bR F t ρ S= .ok (false,S1)) (k:aV F (b.app ts) ρ S1=r):aV F (.cons (.ifs t a b) ts) ρ S=r:=yo h (by rw[if_neg (by simp)];exact k)
theorem wD {i:Nat} (hl:ρ[i]?=some (some (.lst ds))):isLE ρ i=true:=by unfold isLE;rw[hl]
theorem wN {i:Nat} (hl:ρ[i]?=some (some (.lst ds))):mw ρ i= .ok ds:=by unfold mw;rw[hl]
theorem zh {i:Nat} {c:C} (hl:ρ[i]?=some (some (.lst ds))) (h:ev F c ρ S= .ok (d,S1)) (hs:cV c d=true) (hz:ds.length<=lim):ex F (.app i c) ρ S= .ok (.next,ρ.set i (some (.lst (ds++[d]))),S1):=by rw[ex,wD hl,guard_true,h,R.ai,hs,guard_true,wN hl,R.ai,Kk hz];rfl
theorem oH {i:Nat} {c:C} (hl:ρ[i]?=some (some (.lst ds))) (h:ev F c ρ S= .ok (d,S1)) (hs:cV c d=true) (hz:ds.length<=lim) (k:aV F ts (ρ.set i (some (.lst (ds++[d])))) S1=r):aV F (.cons (.app i c) ts) ρ S=r:=nx (zh hl h hs hz) k
theorem tY {c:C} (h:ev F c ρ S= .ok (d,S1)) (hd:itemsOf d=some ds):dF F (.seq c) ρ S= .ok (ds,S1):=by show (ev F c ρ S).bind (λx=>match itemsOf x.1 with | some ds=>R.ok (ds,x.2) | none=> .bad)=_;rw[h,R.ai];show (match itemsOf d with | some ds=>R.ok (ds,S1) | none=> .bad)=_;rw[hd]
theorem gh {c:C} {n:Nat} (h:ev F c ρ S= .ok (.int n,S1)) (hn:n<=lim):dF F (.rng1 c) ρ S= .ok (a6 0 n,S1):=by show (ev F c ρ S).bind (λx=>match x.1 with | .int j=>af (decide (j<=lim)&&decide (-lim<=j)) (.ok (a6 0 j.toNat,x.2)) | _=> .bad)=_;rw[h,R.ai];show af (decide ((n:Int)<=lim)&&decide (-lim<=(n:Int))) (R.ok (a6 0 (n:Int).toNat,S1))=_;rw[show (decide ((n:Int)<=lim)&&decide (-lim<=(n:Int)))=true by have:lim=1000000:=rfl;simp;lia];simp
theorem zT {a b:C} {da db:Dt} {xs ys:List Dt} (ha:ev F a ρ S= .ok (da,S1)) (hb:ev F b ρ S1= .ok (db,S2)) (h1:bV da=some xs) (h2:bV db=some ys):dF F (.zip a b) ρ S= .ok (dJ xs ys,S2):=by show (ev F a ρ S).bind (λx=>(ev F b ρ x.2).bind λy=>match bV x.1,bV y.1 with | some xs,some ys=>R.ok (dJ xs ys,y.2) | _,_=> .bad)=_;rw[ha,R.ai,hb,R.ai];show (match bV da,bV db with | some xs,some ys=>R.ok (dJ xs ys,S2) | _,_=> .bad)=_;rw[h1,h2]
noncomputable def eF (F:FT) (e:C):aj->Sx->R (List Dt×Sx):=λρ1 S1=>(ev F e ρ1 S1).bind λy=>af (cV e y.1) (.ok ([y.1],y.2))
theorem kN {cap:List (Option Nat)} {it:nk} {tg:Tg} {cs:Cs} {e:C} {out:List Dt} (h:dF F it ρ S= .ok (ds,S1)) (hl:ds.length<=lim) (hk:(decide (r8 it<=1)||iL F it ρ S)=true) (hc:bE (bW tg (cO F cs) (eF F e) (jx cap ρ)) ds S1= .ok (out,S2)):
  ev F (.comp cap it tg cs e) ρ S= .ok (.lst out,S2):=by
 rw[ev,h,R.ai,Kk hl,hk,Bool.and_true,guard_true];show (bE (bW tg (cO F cs) (eF F e) (jx cap ρ)) ds S1).bind _=_;rw[hc];rfl
theorem u4 {tg:Tg} {e:C} {y:Dt} (hs:cJ tg d ρ= .ok ρ1) (he:ev F e ρ1 S= .ok (y,S1)) (hb:cV e y=true):bW tg (cO F .nil) (eF F e) ρ d S= .ok ([y],S1):=by unfold bW eF;rw[hs,R.ai,cO,R.ai];simp only[if_true,he,R.ai,hb,guard_true]
theorem turn_if {tg:Tg} {c e:C} {b:Bool} {y:Dt} (hs:cJ tg d ρ= .ok ρ1) (hc:bR F c ρ1 S= .ok (b,S)) (he:b=true->ev F e ρ1 S= .ok (y,S)/\cV e y=true):bW tg (cO F (.cons c .nil)) (eF F e) ρ d S= .ok (if b=true then[y] else[],S):=by
 unfold bW eF;rw[hs,R.ai,cO,hc,R.ai];cases b with
 | false=>rfl
 | true=>simp only[if_true,(he rfl).1,R.ai,(he rfl).2,guard_true]
end
mutual
theorem yu:∀m:Mx.D,pl (ofD m)=true
 | .int _=>by simp[ofD,pl]
 | .str _=>by simp[ofD,pl]
 | .tup ms=>by simp[ofD,pl,uC ms]
theorem uC:∀ms:List Mx.D,gU (ao ms)=true
 | []=>by simp[ao,gU]
 | m::ms=>by simp[ao,gU,yu m,uC ms]
end
mutual
theorem xZ:∀m:Mx.D,dp (ofD m)=Mx.D.dep m
 | .int _=>by simp[ofD,dp,Mx.D.dep]
 | .str _=>by simp[ofD,dp,Mx.D.dep]
 | .tup ms=>by simp[ofD,dp,Mx.D.dep,nV ms]
theorem nV:∀ms:List Mx.D,iJ (ao ms)=Mx.D.bp ms
 | []=>by simp[ao,iJ,Mx.D.bp]
 | m::ms=>by simp[ao,iJ,Mx.D.bp,xZ m,nV ms]
end
mutual
theorem oF:∀m:Mx.D,jr (ofD m)=true
 | .int _=>by simp[ofD,jr]
 | .str _=>by simp[ofD,jr]
 | .tup ms=>by simp[ofD,jr,qd ms]
theorem qd:∀ms:List Mx.D,fO (ao ms)=true
 | []=>by simp[ao,fO]
 | m::ms=>by simp[ao,fO,oF m,qd ms]
end
mutual
theorem yb:∀a b:Mx.D,bt (ofD a) (ofD b)=Mx.D.eJ a b
 | .int i,.int j=>by simp[ofD,bt,Mx.D.eJ]
 | .str i,.str j=>by simp[ofD,bt,Mx.D.eJ]
 | .tup i,.tup j=>by simp[ofD,bt,Mx.D.eJ,tm i j]
 | .int _,.str _=>by simp[ofD,bt,Mx.D.eJ]
 | .int _,.tup _=>by simp[ofD,bt,Mx.D.eJ]
 | .str _,.int _=>by simp[ofD,bt,Mx.D.eJ]
 | .str _,.tup _=>by simp[ofD,bt,Mx.D.eJ]
 | .tup _,.int _=>by simp[ofD,bt,Mx.D.eJ]
 | .tup _,.str _=>by simp[ofD,bt,Mx.D.eJ]
theorem tm:∀a b:List Mx.D,bw (ao a) (ao b)=Mx.D.eqs a b
 | [],[]=>by simp[ao,bw,Mx.D.eqs]
 | [],_::_=>by simp[ao,bw,Mx.D.eqs]
 | _::_,[]=>by simp[ao,bw,Mx.D.eqs]
 | a::as,b::bs=>by simp[ao,bw,Mx.D.eqs,yb a b,tm as bs]
end
theorem pD {a b:Mx.D} (h:Mx.D.dep a<=100):ck .NotEq (ofD a) (ofD b)= .ok (!decide (a=b)):=by show af (jz (ofD a) (ofD b)) (.ok (!bt (ofD a) (ofD b)))=_;rw[show jz (ofD a) (ofD b)=true by simp[jz,yu,xZ,h],guard_true,yb,Mx.D.fy]
theorem mH (a b:List Mx.D):ao (a++b)=ao a++ao b:=by simp[cw]
theorem dZ (a:List Mx.D):(ao a).length=a.length:=by simp[cw]
theorem my {d:Dt} {a:List Mx.D} (h:d∈ao a):∃m∈a,d=ofD m:=by rw[cw,Kq] at h;obtain⟨m,h1,rfl⟩:=h;exact⟨m,h1,rfl⟩
theorem qI {ms:List Mx.D} (h:fu ms=true):dD .sorted [.lst (ao ms)]= .ok (.lst (ao (cg ms)))/\dD .sorted [.tup (ao ms)]= .ok (.lst (ao (cg ms))):=by
 constructor
 ·show (match eD (ao ms) with | some ms=>af (fu ms) (R.ok (Dt.lst (ao (cg ms)))) | none=> .bad)=_;rw[cK];show af (fu ms) _=_;rw[h];rfl
 ·show (match eD (ao ms) with | some ms=>af (fu ms) (R.ok (Dt.lst (ao (cg ms)))) | none=> .bad)=_;rw[cK];show af (fu ms) _=_;rw[h];rfl
theorem sJ {ms:List Mx.D} (k:Mx.SK) (hl:ms.length < 64) (hd:Mx.D.bp ms<=100) (hk:∀d∈ms,CD k d=true) (hp:∀d∈ms,∀e∈ms,gR d e=true):fu ms=true:=by
 have D9:([Mx.SK.tt,.ts,.ti,.s,.i].any λk=>ms.all (CD k))=true:=by rw[List.any_eq_true];exact⟨k,by cases k <;> simp,Kr.mpr hk⟩
 unfold fu;rw[D9,Kk hl,Kk hd];simp only[Bool.true_and,Kv,JR];exact .inr (Kr.mpr λd h=>Kr.mpr λe h2=>hp d h e h2)
theorem ec {n:Nat}:∀{ms:List Mx.D},(∀d∈ms,Mx.D.dep d<=n)->Mx.D.bp ms<=n
 | [],_=>by simp[Mx.D.bp]
 | m::ms,h=>by
  have h1:=h m JX;have h2:=ec λd hd=>h d (JV _ hd)
  simp only[Mx.D.bp]
  lia
theorem je (ms:List Mx.D):(cg ms).Perm ms:=List.mergeSort_perm ..
theorem kb {d:Mx.D} {ms:List Mx.D}:d∈cg ms↔d∈ms:=(je ms).mem_iff
variable {fs:List Fn}
noncomputable def sy (ic:Nat):Ts:=(.cons (.asg 3 (.bin .Add (.bin .Mult (.bin .Mod (.call ic (.cons (.var 0) (.cons (.var 1) .nil)) []) (.con (.int 2147483647))) (.bin .Add (.con (.int 48271)) (.bin .Mult (.con (.int 2)) (.var 1)))) (.bin .Mult (.con (.int 31)) (.var 1)))) (.cons (.ret (.bin .Mod (.bin .FloorDiv (.bin .Mod (.var 3) (.con (.int 2147483629))) (.con (.int 7))) (.var 2))) .nil))
noncomputable def aY (ns:List Int) (k many:Nat):Nat:=((((gz ns k % 2147483647) * (48271 + 2 * k) + 31 * k) % 2147483629 / 7) % many).toNat
theorem cz {ns:List Int} {k many:Nat} (h:0 < many):aY ns k many < many:=by
 unfold aY;have h1:=Ks (((gz ns k % 2147483647) * (48271 + 2 * k) + 31 * k) % 2147483629 / 7) (b:=many) (by lia);have h2:=Kt (((gz ns k % 2147483647) * (48271 + 2 * k) + 31 * k) % 2147483629 / 7) (b:=many) (by lia)
 lia
structure gW (fs:List Fn) (ip:Nat):Prop where
 ex:∃ic,fs[ic]?=some ⟨2,3,false,pj⟩/\fs[ip]?=some ⟨3,4,false,sy ic⟩
theorem fS {ip:Nat} (hp:gW fs ip) {n:Nat} (hn:2<=n) {ns:List Int} {k many:Nat} (hk:k < 1000000) (hm:0 < many):aO fs n ip [.aQ ns,.int k,.int many] none= .ok (.int (aY ns k many),none):=by
 obtain⟨ic,h1,h2⟩:=hp.ex;refine bj h2 (by lia) rfl ?_;show fin (aV (aO fs (n - 1)) (sy ic) [some (.aQ ns),some (.int k),some (.int many),none] none)=_;have hc:=vU h1 (n:=n - 1) (by lia) (ns:=ns) hk;generalize hx:gz ns k=x at hc;have r1:=Ks x (b:=2147483647) (by decide);have r2:=Kt x (b:=2147483647) (by decide);have m1:=bS (i:=x) (j:=2147483647) (by decide);have m2:=bg (i:=2) (j:=k) (.inl (by decide));have m3:=bg (i:=x % 2147483647) (j:=48271 + 2 * k) (.inl (by lia));have m4:=bg (i:=31) (j:=k) (.inl (by decide));have m5:=bS (i:=x % 2147483647 * (48271 + 2 * k) + 31 * k) (j:=2147483629) (by decide);have m6:=uv (i:=(x % 2147483647 * (48271 + 2 * k) + 31 * k) % 2147483629) (j:=7) (by decide) (by decide);have m7:=bS (i:=(x % 2147483647 * (48271 + 2 * k) + 31 * k) % 2147483629 / 7) (j:=many) (by lia);refine aW (d:= .int (x % 2147483647 * (48271 + 2 * k) + 31 * k)) (S1:=none) (by simp only[RX,hc,m1,m2,m3,m4]) rfl ?_;refine(aJ (d:=_) (S1:=none) (by simp only[RX,m5,m6,m7];rfl)).trans ?_;have h1:=Ks (((x % 2147483647) * (48271 + 2 * k) + 31 * k) % 2147483629 / 7) (b:=many) (by lia);have e:((aY ns k many:Nat):Int)=((x % 2147483647) * (48271 + 2 * k) + 31 * k) % 2147483629 / 7 % many:=by unfold aY;rw[hx];omega
 rw[e]
noncomputable def pq:Ts:=(.cons (.ret (.bin .Mod (.bin .Add (.bin .Add (.bin .Mult (.var 0) (.con (.int 31))) (.bin .Mult (.var 1) (.con (.int 7)))) (.con (.int 13))) (.con (.int 9973)))) .nil)
noncomputable def gI (k j:Nat):Nat:=(k * 31 + j * 7 + 13) % 9973
theorem mE {k j:Nat}:gI k j < 9973:=Nat.mod_lt _ (by decide)
theorem qc {i:Nat} (hp:fs[i]?=some ⟨2,2,false,pq⟩) {n:Nat} (hn:1<=n) {k j:Nat}:aO fs n i [.int k,.int j] none= .ok (.int (gI k j),none):=by
 refine bj hp hn rfl ?_;show fin (aV (aO fs (n - 1)) pq [some (.int k),some (.int j)] none)=_;have m1:=bg (i:=k) (j:=31) (.inr (by decide));have m2:=bg (i:=j) (j:=7) (.inr (by decide));have m3:=bS (i:=(k:Int) * 31 + j * 7 + 13) (j:=9973) (by decide);refine(aJ (d:=_) (S1:=none) (by simp only[RX,m1,m2,m3];rfl)).trans ?_;have e:((gI k j:Nat):Int)=((k:Int) * 31 + j * 7 + 13) % 9973:=by unfold gI;lia
 rw[e]
theorem kX {z:Str} {k:Nat} (hz:z.length<=lim) (h:k < z.length):∃c,cQ (.str z) (.int k)= .ok (.str ⟨#[c]⟩):=by
 have Hk:z.cps.toList.length=z.length:=by simp[Str.length]
 refine⟨z.cps.toList[k],?_⟩;show af (decide (z.length<=lim)) (match lM z.cps.toList k with | some c=>R.ok (Dt.str ⟨#[c]⟩) | none=> .bad)=_;rw[Kk hz,guard_true,L2.kD (v:=z.cps.toList[k]) (Kf _)]
theorem d4 {a b:Str} (h:a.length + b.length<=lim):oI .Add (.str a) (.str b)= .ok (.str (a++b)):=by show af (decide (a.length + b.length<=lim)) _=_;rw[Kk h];rfl
theorem len_str {z:Str} (h:z.length<=lim):dD .len [.str z]= .ok (.int z.length):=by show af (decide (z.length<=lim)) _=_;rw[Kk h];rfl
theorem lp {z:Str} {lo hi:Option Int} (h:z.length<=lim):gv (.str z) lo hi= .ok (.str (PySem.Txt.slice z lo hi)):=by show af (decide (z.length<=lim)) _=_;rw[Kk h];rfl
theorem len_cat (a b:Str):(a++b).length=a.length + b.length:=Str.length_append ..
theorem tV {z:Str} {k:Nat} {d} (hz:z.length<=lim) (h:k < z.length):cQ (.str z) (.int k)= .ok (.str ⟨#[z.cps.toList.getD k d]⟩):=by
 have Hk:k < z.cps.toList.length:=by simpa [Str.length] using h
 show af (decide (z.length<=lim)) (match lM z.cps.toList k with | some c=>R.ok (Dt.str ⟨#[c]⟩) | none=> .bad)=_;rw[Kk hz,guard_true,L2.kD (v:=z.cps.toList[k]) (Kf _)];rw[List.getD,Kf Hk];rfl
theorem oX {a b:Str} {x y} (h:a++⟨#[x]⟩++b=a++⟨#[y]⟩++b):x=y:=by
 have h2:=congrArg (λz:Str=>z.cps.toList) h;have e:∀u v:Str,(u++v).cps.toList=u.cps.toList++v.cps.toList:=λu v=>by show (u.cps++v.cps).toList=_;simp
 simp only[e,J5] at h2;simpa using List.append_cancel_left h2
theorem eS {α:Type} {l:List α} {d:α} (hn:l.Nodup) {i j:Nat} (hi:i < l.length) (hj:j < l.length) (h:l.getD i d=l.getD j d):i=j:=by
 simp only[List.getD,Kf hi,Kf hj,Option.getD_some] at h;have hp:=List.pairwise_iff_getElem.mp hn;rcases Nat.lt_trichotomy i j with z | z | z
 ·exact absurd h (hp i j hi hj z)
 ·exact z
 ·exact absurd h.symm (hp j i hj hi z)
noncomputable def pk:Ts:=(.cons (.asg 8 (.idx (.var 2) (.bin .Mod (.bin .Add (.var 6) (.bin .Mult (.con (.int 7)) (.var 4))) (.con (.int 26))))) (.cons (.app 7 (.bin .Add (.bin .Add (.sliH (.var 3) (.var 5)) (.var 8)) (.sliL (.var 3) (.var 5)))) .nil))
noncomputable def nK (ip:Nat):Ts:=(.cons (.asg 3 (.con (.str ""))) (.cons (.fr (.nm 4) (.rng1 (.call ip (.cons (.var 0) (.cons (.var 1) (.cons (.con (.int 6)) .nil))) [])) (.cons (.asg 3 (.bin .Add (.var 3) (.idx (.var 2) (.call ip (.cons (.var 0) (.cons (.bin .Add (.bin .Add (.var 1) (.bin .Mult (.con (.int 11)) (.var 4))) (.con (.int 1))) (.cons (.con (.int 26)) .nil))) [])))) .nil)) (.cons (.asg 5 (.call ip (.cons (.var 0) (.cons (.bin .Add (.var 1) (.con (.int 2))) (.cons (.bin .Add (.bi .len (.cons (.var 3) .nil)) (.con (.int 1))) .nil))) [])) (.cons (.asg 6 (.call ip (.cons (.var 0) (.cons (.bin .Add (.var 1) (.con (.int 3))) (.cons (.con (.int 26)) .nil))) [])) (.cons (.ifs (.cmp .Eq (.call ip (.cons (.var 0) (.cons (.bin .Add (.var 1) (.con (.int 4))) (.cons (.con (.int 3)) .nil))) []) (.con (.int 0))) (.cons (.asg 3 (.bin .Add (.sliH (.var 3) (.con (.int 3))) (.idx (.var 2) (.var 6)))) (.cons (.ret (.lst (.cons (.var 3) (.cons (.bin .Add (.var 3) (.idx (.var 2) (.var 5))) (.cons (.bin .Add (.bin .Add (.var 3) (.idx (.var 2) (.var 5))) (.idx (.var 2) (.var 6))) .nil))))) .nil)) .nil) (.cons (.asgM 7 (.lst .nil)) (.cons (.fr (.nm 4) (.rng1 (.con (.int 3))) pk) (.cons (.ret (.mvr 7)) .nil))))))))
theorem et {n:Nat} {pre post:List Dt} {x:Dt} (h:a6 0 n=pre++x::post):pre.length < n/\x= .int pre.length:=by
 have hl:(a6 0 n).length=n:=by simp[a6]
 have h1:pre.length < n:=by rw[<-hl,h];simp
 refine⟨h1,?_⟩;have e:(a6 0 n)[pre.length]?=some x:=by rw[h];simp
 unfold a6 at e;simp[h1] at e;exact e.symm
theorem mD {ip im:Nat} (hp:gW fs ip) (hf:fs[im]?=some ⟨3,9,false,nK ip⟩) {n:Nat} (hn:3<=n) {ns:List Int} {k:Nat} {L:Str} (hk:k < 100000) (hL:L.length=26) (hD:L.cps.toList.Nodup):∃a b c,aO fs n im [.aQ ns,.int k,.str L] none= .ok (.lst [.str a,.str b,.str c],none)/\a≠b/\b≠c/\a≠c:=by
 have eQ:lim=1000000:=rfl;have kW:=cz (ns:=ns) (k:=k) (many:=6) (by decide);have P:=λ(k many:Nat) (h1:k < 1000000) (h2:0 < many)=>fS hp (n:=n - 1) (by lia) (ns:=ns) h1 h2
 have loop:=c6 (S:=none) (tg:= .nm 4) (body:=aV (aO fs (n - 1)) (.cons (.asg 3 (.bin .Add (.var 3) (.idx (.var 2) (.call ip (.cons (.var 0) (.cons (.bin .Add (.bin .Add (.var 1) (.bin .Mult (.con (.int 11)) (.var 4))) (.con (.int 1))) (.cons (.con (.int 26)) .nil))) [])))) .nil)) (ds:=a6 0 (aY ns k 6))
  (ρ:=[some (.aQ ns),some (.int k),some (.str L),some (.str ""),none,none,none,none,none])
  (λpre ρ=>∃w jv,w.length<=pre.length/\ρ=[some (.aQ ns),some (.int k),some (.str L),some (.str w),jv,none,none,none,none]) ⟨"",none,JW _,rfl⟩ (by
   rintro pre x post ρ e ⟨w,jv,hw,rfl⟩;obtain⟨h1,rfl⟩:=et e;have He:=P (k + 11 * pre.length + 1) 26 (by lia) (by decide);have bZ:=cz (ns:=ns) (k:=k + 11 * pre.length + 1) (many:=26) (by decide);obtain⟨c,hc⟩:=kX (z:=L) (k:=aY ns (k + 11 * pre.length + 1) 26) (by lia) (by lia);have m1:=bg (i:=11) (j:=pre.length) (.inl (by decide));have ca:=d4 (a:=w) (b:=⟨#[c]⟩) (by show w.length + 1<=lim;lia);refine⟨_,_,rfl,bC (d:= .str (w++⟨#[c]⟩)) (S1:=none) ?_ rfl rfl,w++⟨#[c]⟩,_,?_,rfl⟩
   ·rw[show ((k + 11 * pre.length + 1:Nat):Int)=(k:Int) + 11 * pre.length + 1 by lia] at He;simp only[RX,m1];rw[show ([Dt.aQ ns,.int ((k:Int) + 11 * pre.length + 1),.int 26]:List Dt)=[.aQ ns,.int ((k:Int) + 11 * pre.length + 1),.int (26:Nat)] from rfl,He];simp only[RX,hc,ca]
   ·rw[len_cat,J7];show w.length + 1<=_;simp;lia)
 obtain⟨ρ1,dX,w,jv,hw,rfl⟩:=loop;have Ed:w.length<=5:=by
  have:(a6 0 (aY ns k 6)).length=aY ns k 6:=by simp[a6]
  lia
 have p2:=P (k + 2) (w.length + 1) (by lia) (by lia);have l2:=cz (ns:=ns) (k:=k + 2) (many:=w.length + 1) (by lia);have p3:=P (k + 3) 26 (by lia) (by decide);have l3:=cz (ns:=ns) (k:=k + 3) (many:=26) (by decide);have p4:=P (k + 4) 3 (by lia) (by decide);generalize aY ns (k + 2) (w.length + 1)=at' at p2 l2;generalize aY ns (k + 3) 26=fi at p3 l3;generalize aY ns (k + 4) 3=q4 at p4;have hlen:=len_str (z:=w) (by lia);obtain⟨cf,G4⟩:=kX (z:=L) (k:=fi) (by lia) (by lia);obtain⟨ca,G3⟩:=kX (z:=L) (k:=at') (by lia) (by lia);have s3:=lp (z:=w) (lo:=none) (hi:=some 3) (by lia);have e3:=PySem.Txt.slice_le w none (some 3);generalize PySem.Txt.slice w none (some 3)=w3 at s3 e3;have JB:((26:Nat):Int)=26:=rfl;have head:∃a b c,fin (aV (aO fs (n - 1)) (nK ip) [some (.aQ ns),some (.int k),some (.str L),none,none,none,none,none,none] none)= .ok (.lst [.str a,.str b,.str c],none)/\a≠b/\b≠c/\a≠c:=by
  by_cases h4:q4=0
  ·subst h4;have c1:=d4 (a:=w3) (b:=⟨#[cf]⟩) (by show w3.length + 1<=lim;lia);have c2:=d4 (a:=w3++⟨#[cf]⟩) (b:=⟨#[ca]⟩) (by rw[len_cat];show w3.length + 1 + 1<=lim;lia);have c3:=d4 (a:=w3++⟨#[cf]⟩++⟨#[ca]⟩) (b:=⟨#[cf]⟩) (by rw[len_cat,len_cat];show w3.length + 1 + 1 + 1<=lim;lia);refine⟨w3++⟨#[cf]⟩,w3++⟨#[cf]⟩++⟨#[ca]⟩,w3++⟨#[cf]⟩++⟨#[ca]⟩++⟨#[cf]⟩,?_,λz=>?_,λz=>?_,λz=>?_⟩
   rotate_left
   ·have:=congrArg Str.length z;simp only[len_cat] at this;have:(⟨#[ca]⟩:Str).length=1:=rfl;lia
   ·have:=congrArg Str.length z;simp only[len_cat] at this;have:(⟨#[cf]⟩:Str).length=1:=rfl;lia
   ·have:=congrArg Str.length z;simp only[len_cat] at this;have:(⟨#[cf]⟩:Str).length=1:=rfl;lia
   refine aW (d:= .str "") (S1:=none) rfl rfl (dg (ds:=a6 0 (aY ns k 6)) (S1:=none) (gh (by simp only[RX];exact congrArg (R.bind · _) (P k 6 (by lia) (by decide))) (by lia)) rfl dX ?_);refine aW (d:= .int at') (S1:=none) (by simp only[RX,hlen];exact congrArg (R.bind · _) p2) rfl ?_;refine aW (d:= .int fi) (S1:=none) (by simp only[RX];exact congrArg (R.bind · _) p3) rfl ?_;refine iN (S1:=none) (by simp only[RX];rw[show aO fs (n - 1) ip [.aQ ns,.int ((k:Int) + 4),.int 3] none=_ from p4];rfl) ?_;refine aW (d:= .str (w3++⟨#[cf]⟩)) (S1:=none) (by simp only[RX,s3,G4,c1]) rfl ?_;exact aJ (by simp only[RX,G3,G4,c2,c3])
  ·have l4:=λj:Nat=>Nat.mod_lt (fi + 7 * j) (y:=26) (by decide)
   have s5:=lp (z:=w) (lo:=none) (hi:=some (at':Int)) (by lia);have e5:=PySem.Txt.slice_le w none (some (at':Int));have s6:=lp (z:=w) (lo:=some (at':Int)) (hi:=none) (by lia);have e6:=PySem.Txt.slice_le w (some (at':Int)) none;generalize PySem.Txt.slice w none (some (at':Int))=wa at s5 e5;generalize PySem.Txt.slice w (some (at':Int)) none=wb at s6 e6;have hl:L.cps.toList.length=26:=by rw[<-hL];simp[Str.length]
   have CI:=c6 (S:=none) (tg:= .nm 4) (body:=aV (aO fs (n - 1)) pk) (ds:=a6 0 3)
    (ρ:=[some (.aQ ns),some (.int k),some (.str L),some (.str w),jv,some (.int at'),some (.int fi),some (.lst []),none])
    (λpre ρ=>∃jv s8,ρ=[some (.aQ ns),some (.int k),some (.str L),some (.str w),jv,some (.int at'),some (.int fi),some (.lst ((List.range pre.length).map λj=>Dt.str (wa++⟨#[L.cps.toList.getD ((fi + 7 * j) % 26) cf]⟩++wb))),s8]) ⟨jv,none,rfl⟩ (by
     rintro pre x post ρ e ⟨jv,s8,rfl⟩;obtain⟨h1,rfl⟩:=et e;have hc:=tV (z:=L) (k:=(fi + 7 * pre.length) % 26) (d:=cf) (by lia) (by have:=l4 pre.length;lia);rw[show (((fi + 7 * pre.length) % 26:Nat):Int)=((fi:Int) + 7 * pre.length) % 26 by lia] at hc;generalize hcc:L.cps.toList.getD ((fi + 7 * pre.length) % 26) cf=c at hc;have m1:=bg (i:=7) (j:=pre.length) (.inl (by decide));have m2:=bS (i:=(fi:Int) + 7 * pre.length) (j:=26) (by decide);have c1:=d4 (a:=wa) (b:=⟨#[c]⟩) (by show wa.length + 1<=lim;lia);have c2:=d4 (a:=wa++⟨#[c]⟩) (b:=wb) (by rw[len_cat];show wa.length + 1 + wb.length<=lim;lia);refine⟨_,_,rfl,bC (d:= .str ⟨#[c]⟩) (S1:=none) (by simp only[RX,m1,m2,hc]) rfl (oH (ds:=(List.range pre.length).map λj=>Dt.str (wa++⟨#[L.cps.toList.getD ((fi + 7 * j) % 26) cf]⟩++wb)) (d:= .str (wa++⟨#[c]⟩++wb)) (S1:=none) rfl (by simp only[RX,s5,s6,c1,c2]) rfl (by simp;lia) rfl),some (.int pre.length),some (.str ⟨#[c]⟩),?_⟩;rw[J7,List.length_singleton,List.range_succ,Kz,List.map_singleton,hcc];rfl)
   obtain⟨ρ2,zH,JJ,s8,rfl⟩:=CI;refine⟨wa++⟨#[L.cps.toList.getD ((fi + 7 * 0) % 26) cf]⟩++wb,wa++⟨#[L.cps.toList.getD ((fi + 7 * 1) % 26) cf]⟩++wb,wa++⟨#[L.cps.toList.getD ((fi + 7 * 2) % 26) cf]⟩++wb,?_,λz=>?_,λz=>?_,λz=>?_⟩
   rotate_left
   ·have:=eS hD (by rw[hl];exact l4 0) (by rw[hl];exact l4 1) (oX z);lia
   ·have:=eS hD (by rw[hl];exact l4 1) (by rw[hl];exact l4 2) (oX z);lia
   ·have:=eS hD (by rw[hl];exact l4 0) (by rw[hl];exact l4 2) (oX z);lia
   refine aW (d:= .str "") (S1:=none) rfl rfl (dg (ds:=a6 0 (aY ns k 6)) (S1:=none) (gh (by simp only[RX];exact congrArg (R.bind · _) (P k 6 (by lia) (by decide))) (by lia)) rfl dX ?_);refine aW (d:= .int at') (S1:=none) (by simp only[RX,hlen];exact congrArg (R.bind · _) p2) rfl ?_;refine aW (d:= .int fi) (S1:=none) (by simp only[RX];exact congrArg (R.bind · _) p3) rfl ?_;refine dW (S1:=none) (by simp only[RX];rw[show aO fs (n - 1) ip [.aQ ns,.int ((k:Int) + 4),.int 3] none=_ from p4];simp only[RX];simp[h4]) ?_;refine iO (d:= .lst []) (S1:=none) rfl rfl (dg (ds:=a6 0 3) (S1:=none) (gh (n:=3) rfl (by decide)) rfl zH ?_);exact aJ (by simp only[RX];rfl)
 obtain⟨a,b,c,h1,h2⟩:=head;exact⟨a,b,c,bj hf (by lia) rfl h1,h2⟩
variable {fs:List Fn}
mutual
noncomputable def sm:Dt->Bool
 | .int _=>true
 | .str _=>true
 | .tup ds=>xG ds
 | .lst ds=>xG ds
 | _=>false
noncomputable def xG:List Dt->Bool
 | []=>true
 | d::ds=>sm d&&xG ds
end
mutual
theorem Du:∀m:Mx.D,sm (ofD m)=true
 | .int _=>by simp[ofD,sm]
 | .str _=>by simp[ofD,sm]
 | .tup ms=>by simp[ofD,sm,oW ms]
theorem oW:∀ms:List Mx.D,xG (ao ms)=true
 | []=>by simp[ao,xG]
 | m::ms=>by simp[ao,xG,Du m,oW ms]
end
theorem qr:∀{ds:List Dt} {d:Dt},xG ds=true->d∈ds->sm d=true/\dp d<=iJ ds
 | d::ds,x,h,hx=>by
  simp only[xG,JR] at h;simp only[iJ];rcases J3.mp hx with rfl | hx
  ·exact⟨h.1,by lia⟩
  ·have:=qr h.2 hx;exact⟨this.1,by lia⟩
noncomputable def lO (is:Nat):Ts:=(.cons (.ifs (.bi (.isi "str") (.cons (.var 1) .nil)) (.cons (.ret (.and (.bi (.isi "str") (.cons (.var 0) .nil)) (.cmp .Eq (.var 0) (.var 1)))) .nil) .nil) (.cons (.ifs (.bi (.isi "int") (.cons (.var 1) .nil)) (.cons (.ret (.and (.bi (.isi "int") (.cons (.var 0) .nil)) (.and (.nt (.bi (.isi "bool") (.cons (.var 0) .nil))) (.cmp .Eq (.var 0) (.var 1))))) .nil) .nil) (.cons (.ifs (.or (.cmp .NotEq (.bi (.isi "list") (.cons (.var 1) .nil)) (.bi (.isi "list") (.cons (.var 0) .nil))) (.cmp .NotEq (.bi (.isi "tuple") (.cons (.var 1) .nil)) (.bi (.isi "tuple") (.cons (.var 0) .nil)))) (.cons (.ret (.con (.bl false))) .nil) .nil) (.cons (.ifs (.cmp .NotEq (.bi .len (.cons (.var 0) .nil)) (.bi .len (.cons (.var 1) .nil))) (.cons (.ret (.con (.bl false))) .nil) .nil) (.cons (.fr (.tp [2,3]) (.zip (.var 0) (.var 1)) (.cons (.ifs (.nt (.call is (.cons (.var 2) (.cons (.var 3) .nil)) [])) (.cons (.ret (.con (.bl false))) .nil) .nil) .nil)) (.cons (.ret (.con (.bl true))) .nil))))))
theorem rR {ds pre post:List Dt} {x:Dt} (h:dJ ds ds=pre++x::post):∃y∈ds,x= .tup [y,y]:=by
 have hx:x∈dJ ds ds:=by rw[h];simp
 unfold dJ at hx;have:List.zipWith (λx y=>Dt.tup [x,y]) ds ds=ds.map λy=>Dt.tup [y,y]:=by
  clear h hx
  induction ds with
  | nil=>rfl
  | cons d ds ih=>simp[ih]
 rw[this,Kq] at hx;obtain⟨y,h1,h2⟩:=hx;exact⟨y,h1,h2.symm⟩
theorem qp {is:Nat} (hf:fs[is]?=some ⟨2,4,false,lO is⟩):∀(n:Nat) (d:Dt),sm d=true->dp d < n->aO fs n is [d,d] none= .ok (.bl true,none)
 | 0,d,_,h=>by lia
 | n + 1,d,h,hd=>by
  have ih:=qp hf n;have main:∀ds:List Dt,xG ds=true->iJ ds < n->(d= .tup ds\/d= .lst ds)->aO fs (n + 1) is [d,d] none= .ok (.bl true,none):=by
   intro ds hs hl hd;have hlen:dD .len [d]= .ok (.int ds.length):=by rcases hd with rfl | rfl <;> rfl
   have Ec:bV d=some ds:=by rcases hd with rfl | rfl <;> rfl
   have i1:dD (.isi "str") [d]= .ok (.bl false):=by rcases hd with rfl | rfl <;> rfl
   have i2:dD (.isi "int") [d]= .ok (.bl false):=by rcases hd with rfl | rfl <;> rfl
   have i3:(∃b,dD (.isi "list") [d]= .ok (.bl b))/\∃b,dD (.isi "tuple") [d]= .ok (.bl b):=by rcases hd with rfl | rfl <;> exact⟨⟨_,rfl⟩,⟨_,rfl⟩⟩
   obtain⟨⟨b3,i3⟩,⟨b4,i4⟩⟩:=i3;have e3:∀b:Bool,ck .NotEq (.bl b) (.bl b)= .ok false:=λb=>by cases b <;> rfl
   have loop:=c6 (S:=none) (tg:= .tp [2,3]) (body:=aV (aO fs n) (.cons (.ifs (.nt (.call is (.cons (.var 2) (.cons (.var 3) .nil)) [])) (.cons (.ret (.con (.bl false))) .nil) .nil) .nil)) (ds:=dJ ds ds)
    (ρ:=[some d,some d,none,none]) (λpre ρ=>∃a b,ρ=[some d,some d,a,b]) ⟨none,none,rfl⟩ (by
     rintro pre x post ρ e ⟨a,b,rfl⟩;obtain⟨y,hy,rfl⟩:=rR e;have:=qr hs hy;have hc:=ih y this.1 (by lia);exact⟨[some d,some d,some y,some y],_,rfl,la (S1:=none) (by simp only[RX,hc];rfl) rfl,some y,some y,rfl⟩)
   obtain⟨ρ1,dX,a,b,rfl⟩:=loop;refine bj hf (by lia) rfl ?_;show fin (aV (aO fs n) (lO is) [some d,some d,none,none] none)=_;refine dW (S1:=none) (by simp only[RX,i1]) (dW (S1:=none) (by simp only[RX,i2]) (dW (S1:=none) (by simp only[RX,i3,i4,e3];rfl) (dW (S1:=none) (by simp only[RX,hlen];simp) ?_)));refine dg (ds:=dJ ds ds) (S1:=none) (zT (S1:=none) (S2:=none) rfl rfl Ec Ec) rfl dX (aJ rfl)
  cases d with
  | str x=>refine bj hf (by lia) rfl ?_;show fin (aV (aO fs n) (lO is) [some (.str x),some (.str x),none,none] none)=_;have i1:dD (.isi "str") [.str x]= .ok (.bl true):=rfl;exact iN (S1:=none) (by simp only[RX,i1]) (aJ (by simp only[RX,i1];simp))
  | int x=>refine bj hf (by lia) rfl ?_;show fin (aV (aO fs n) (lO is) [some (.int x),some (.int x),none,none] none)=_;have i1:dD (.isi "str") [.int x]= .ok (.bl false):=rfl;have i2:dD (.isi "int") [.int x]= .ok (.bl true):=rfl;have i3:dD (.isi "bool") [.int x]= .ok (.bl false):=rfl;exact dW (S1:=none) (by simp only[RX,i1]) (iN (S1:=none) (by simp only[RX,i2]) (aJ (by simp only[RX,i2,i3,Bool.not_false];simp)))
  | tup ds=>exact main ds (by simpa [sm] using h) (by simp only[dp] at hd;lia) (.inl rfl)
  | lst ds=>exact main ds (by simpa [sm] using h) (by simp only[dp] at hd;lia) (.inr rfl)
  | _=>simp[sm] at h
noncomputable def eA (x:Str):Mx.D:= .tup [.str "any",.str x]
noncomputable def ofT (x:Str) (ps:List Mx.D):Mx.D:= .tup [.str "of",.str x,.tup ps]
noncomputable def vJ (Q:Mx.D->Prop) (it:Mx.D):Prop:=(∃x,it=eA x)\/∃x ps,it=ofT x ps/\ps.length<=3/\∀p∈ps,Q p
noncomputable def BF (Q:Mx.D->Prop) (r:Mx.D):Prop:=∃it c,r= .tup [it,.int c]/\vJ Q it
noncomputable def kq:Nat->Mx.D->Prop
 | 0,_=>False
 | n + 1,d=>∃rs,d= .tup rs/\rs.length<=4/\∀r∈rs,BF (kq n) r
theorem iG {n m:Nat} {it:Mx.D} {Q:Mx.D->Prop} (hQ:∀d,Q d->Mx.D.dep d<=m) (hn:n=m + 2) (h:vJ Q it):Mx.D.dep it<=n:=by
 rcases h with ⟨x,rfl⟩ | ⟨x,ps,rfl,_,hp⟩
 ·simp[eA,Mx.D.dep,Mx.D.bp];lia
 ·have:=ec λp yj=>hQ p (hp p yj)
  simp[ofT,Mx.D.dep,Mx.D.bp]
  lia
theorem c0:∀{n:Nat} {d:Mx.D},kq n d->Mx.D.dep d<=4 * n
 | 0,d,h=>h.elim
 | n + 1,d,⟨rs,e,_,h⟩=>by
  subst e;have:Mx.D.bp rs<=4 * n + 3:=ec λr hr=>by
   obtain⟨it,c,rfl,hi⟩:=h r hr;have:=iG (n:=4 * n + 2) (λd hd=>c0 hd) rfl hi;simp[Mx.D.dep,Mx.D.bp]
   lia
  simp only[Mx.D.dep]
  lia
theorem oA:∀{xs ys:List Mx.D},(∀x∈xs,∀y∈ys,gR x y=true)->fK xs ys=true
 | [],_,_=>by simp[fK]
 | _::_,[],_=>by simp[fK]
 | x::xs,y::ys,h=>by simp only[fK,JR];exact⟨h x JX y JX,oA λa ha b hb=>h a (JV _ ha) b (JV _ hb)⟩
theorem wL {P Q:Mx.D->Prop} {a b:Mx.D} (Fo:∀p q,P p->Q q->gR p q=true) (ha:vJ P a) (hb:vJ Q b):gR a b=true:=by
 rcases ha with ⟨x,rfl⟩ | ⟨x,ps,rfl,_,hp⟩ <;> rcases hb with ⟨y,rfl⟩ | ⟨y,qs,rfl,_,hq⟩
 ·simp[eA,gR,fK]
 ·simp[eA,ofT,gR,fK]
 ·simp[eA,ofT,gR,fK]
 ·simp only[ofT,gR,fK,Bool.true_and,Bool.and_true];exact oA λp yj q hq'=>Fo p q (hp p yj) (hq q hq')
theorem lk_row {P Q:Mx.D->Prop} {a b:Mx.D} (Fo:∀p q,P p->Q q->gR p q=true) (ha:BF P a) (hb:BF Q b):gR a b=true:=by obtain⟨i,c,rfl,hi⟩:=ha;obtain⟨j,d,rfl,hj⟩:=hb;simp only[gR,fK,Bool.and_true];exact wL Fo hi hj
theorem k7:∀{n m:Nat} {a b:Mx.D},kq n a->kq m b->gR a b=true
 | 0,_,_,_,h,_=>h.elim
 | _ + 1,0,_,_,_,h=>h.elim
 | n + 1,m + 1,a,b,⟨rs,e1,_,h1⟩,⟨qs,e2,_,h2⟩=>by subst e1 e2;simp only[gR];exact oA λr hr q hq=>lk_row (λp q hp hq=>k7 hp hq) (h1 r hr) (h2 q hq)
theorem sM {n:Nat} {ms:List Mx.D} (hn:n<=8) (hl:ms.length < 64) (h:∀m∈ms,BF (kq n) m):fu ms=true:=by
 refine sJ .tt hl (ec λd hd=>?_) (λd hd=>?_) λd hd e he=>lk_row (λp q hp hq=>k7 hp hq) (h d hd) (h e he)
 ·obtain⟨it,c,rfl,hi⟩:=h d hd;have:=iG (n:=4 * n + 2) (λd hd=>c0 hd) rfl hi;simp[Mx.D.dep,Mx.D.bp]
  lia
 ·obtain⟨it,c,rfl,hi⟩:=h d hd;rcases hi with ⟨x,rfl⟩ | ⟨x,ps,rfl,_⟩ <;> rfl
variable {fs:List Fn}
theorem lT {f:Dt->Sx->R (List Dt×Sx)} {S:Sx} (Q:Mx.D->Prop):∀{ds:List Dt},(∀x∈ds,∃m,f x S= .ok ([ofD m],S)/\Q m)->∃ms,bE f ds S= .ok (ao ms,S)/\ms.length=ds.length/\∀m∈ms,Q m
 | [],_=>⟨[],by simp[bE,ao],rfl,by simp⟩
 | x::ds,h=>by
  obtain⟨m,h1,h2⟩:=h x JX;obtain⟨ms,k1,k2,k3⟩:=lT Q λy hy=>h y (JV _ hy)
  refine⟨m::ms,?_,by simp[k2],λa ha=>?_⟩
  ·rw[bE,h1,R.ai,k1,R.ai];simp[ao]
  ·rcases J3.mp ha with rfl | ha
   ·exact h2
   ·exact k3 a ha
theorem xC {n:Nat} {x:Dt} (h:x∈a6 0 n):∃i:Nat,i < n/\x= .int i:=by unfold a6 at h;rw[Kq] at h;obtain⟨i,h1,rfl⟩:=h;exact⟨i,KB.mp h1,by simp⟩
noncomputable def su (ix im:Nat):C:=(.call im (.cons (.var 5) (.cons (.call ix (.cons (.var 2) (.cons (.bin .Add (.con (.int 5)) (.var 1)) .nil)) []) (.cons (.bin .Sub (.var 3) (.con (.int 1))) (.cons (.var 4) (.cons (.var 6) (.cons (.con (.int 2)) .nil)))))) [])
theorem fY {a b c:Str} {k:Nat} (h:k < 3):∃x,cQ (.lst [.str a,.str b,.str c]) (.int k)= .ok (.str x):=by
 match k,h with
 | 0,_=>exact⟨a,rfl⟩
 | 1,_=>exact⟨b,rfl⟩
 | 2,_=>exact⟨c,rfl⟩
variable {fs:List Fn}
section
variable {F:FT} {i:Nat} {k e v:C} {ρ:aj} {S S1 S2:Sx} {ks vs:List Dt} {kd d0 x:Dt} {m:Mx.D} {ts:Ts}
theorem vZ (hr:ρ[i]?=some (some (.bK ks vs))) (hk:ev F k ρ S= .ok (kd,S1)) (he:ev F e ρ S1= .ok (d0,S2)) (hm:iV kd=some m):ev F (.n0 i k e) ρ S= .ok ((rW m ks vs).getD d0,S2):=by
 have g:mf ρ i=true:=by unfold mf;rw[hr]
 rw[ev,g,guard_true,hk,R.ai,he,R.ai,fB hr,R.ai];unfold sR;simp only[hm,R.ai]
theorem v5 {ms ns:List Mx.D} (hr:ρ[i]?=some (some (.bK ks vs))) (vD:eD ks=some ms) (yi:eD vs=some ns) (hc:fu (cy ms ns)=true):ev F (.srtI i) ρ S= .ok (.lst (ao (cg (cy ms ns))),S):=by rw[ev,fB hr,R.ai];unfold sZ;simp only[vD,yi,hc,guard_true,R.ai]
theorem wY {r:RS} (hr:ρ[i]?=some (some (.bK ks vs))) (hv:ev F v ρ S= .ok (x,S1)) (hk:ev F k ρ S1= .ok (kd,S2)) (hm:iV kd=some m) (hl:lk v=0) (hn:ks.length < lim)
  (h:aV F ts (ρ.set i (some (if (rW m ks vs).isSome then .bK ks (lW m x ks vs) else .bK (ks++[kd]) (vs++[x])))) S2=r):aV F (.cons (.dset i k v) ts) ρ S=r:=by
 refine nx ?_ h;have g:mf ρ i=true:=by unfold mf;rw[hr]
 rw[ex,g,guard_true,hv,R.ai,hk,R.ai,fB hr,R.ai,Kk hl,guard_true];unfold sY;simp only[hm,Kk hn,guard_true,R.ai]
theorem tD {r:R (Dt×Sx)} (h:fin (aV F ts (ρ.set i (some (.bK [] []))) S)=r):fin (aV F (.cons (.sW i) ts) ρ S)=r:=fz (by rw[ex]) h
end
noncomputable def vq (es:List (Mx.D×Int)):Dt:= .bK (es.map λe=>ofD e.1) (es.map λe=> .int e.2)
theorem pE (m:Mx.D):∀es:List (Mx.D×Int),∃c,(rW m (es.map λe=>ofD e.1) (es.map λe=>Dt.int e.2)).getD (.int 0)= .int c
 | []=>⟨0,rfl⟩
 | e::es=>by
  simp only[Ky,rW];split
  ·exact⟨e.2,rfl⟩
  ·exact pE m es
theorem vX (m:Mx.D) (c:Int) (es:List (Mx.D×Int)):∃cc,(if (rW m (es.map λe=>ofD e.1) (es.map λe=>Dt.int e.2)).isSome then Dt.bK (es.map λe=>ofD e.1) (lW m (.int c) (es.map λe=>ofD e.1) (es.map λe=>Dt.int e.2)) else .bK ((es.map λe=>ofD e.1)++[ofD m]) ((es.map λe=>Dt.int e.2)++[.int c]))=vq cc/\
  cc.length<=es.length + 1/\∀e∈cc,e.1=m\/∃e0∈es,e0.1=e.1:=by
 split
 ·refine⟨es.map λe=>(e.1,if toD (ofD e.1)=some m then c else e.2),?_,by rw[JZ];lia,λe he=>?_⟩
  ·unfold vq;rw[List.map_map,List.map_map];congr 1;rename_i hs;clear hs
   induction es with
   | nil=>rfl
   | cons a es ih=>simp only[Ky,lW,ih,Function.comp];congr 1;split <;> rfl
  ·obtain⟨e0,h0,rfl⟩:=Kq.mp he;exact .inr ⟨e0,h0,rfl⟩
 ·refine⟨es++[(m,c)],by unfold vq;simp,by simp,λe he=>?_⟩;rcases Kd.mp he with h | h
  ·exact .inr ⟨e,h,rfl⟩
  ·cases Kp.mp h;exact .inl rfl
theorem t9 {deep:Nat} {it:Mx.D} (hd:deep<=1) (h:vJ (kq deep) it):iV (ofD it)=some it:=by
 have zB:Mx.D.dep it<=4 * deep + 2:=iG (λd q=>c0 q) rfl h;unfold iV;rw[eY];rcases h with ⟨x,rfl⟩ | ⟨x,ps,rfl,_⟩
 ·exact if_pos (J1 zB (by lia))
 ·exact if_pos (J1 zB (by lia))
noncomputable def nJ (ip:Nat):Ts:=(.cons (.dset 6 (.var 11) (.bi .min2 (.cons (.con (.int 3)) (.cons (.bin .Add (.bin .Add (.n0 6 (.var 11) (.con (.int 0))) (.con (.int 1))) (.bin .FloorDiv (.call ip (.cons (.var 0) (.cons (.bin .Add (.var 8) (.con (.int 3))) (.cons (.con (.int 4)) .nil))) []) (.con (.int 3)))) .nil)))) .nil)
noncomputable def sv (ip ix im:Nat):Ts:=(.cons (.ifs (.and (.cmp .Lt (.var 9) (.con (.int 2))) (.cmp .Gt (.bi .len (.cons (.var 3) .nil)) (.con (.int 0)))) (.cons (.asg 11 (.tup (.cons (.con (.str "any")) (.cons (.idx (.var 3) (.call ip (.cons (.var 0) (.cons (.bin .Add (.var 8) (.con (.int 1))) (.cons (.bi .len (.cons (.var 3) .nil)) .nil))) [])) .nil)))) .nil) (.cons (.ifs (.and (.cmp .Eq (.var 9) (.con (.int 3))) (.cmp .Gt (.var 2) (.con (.int 0)))) (.cons (.asg 12 (.bin .Add (.con (.int 1)) (.call ip (.cons (.var 0) (.cons (.bin .Add (.var 8) (.con (.int 2))) (.cons (.con (.int 3)) .nil))) []))) (.cons (.asg 13 (.comp [none,none,some 8,some 2,some 3,some 0,some 4] (.rng1 (.var 12)) (.nm 1) .nil (su ix im))) (.cons (.asg 11 (.tup (.cons (.con (.str "of")) (.cons (.var 10) (.cons (.bi .tuple (.cons (.var 13) .nil)) .nil))))) .nil))) .nil) .nil)) (nJ ip))
noncomputable def sr (ip ix im:Nat):Ts:=(.cons (.asg 8 (.call ix (.cons (.var 1) (.cons (.var 7) .nil)) [])) (.cons (.asg 9 (.call ip (.cons (.var 0) (.cons (.var 8) (.cons (.con (.int 4)) .nil))) [])) (.cons (.asg 10 (.idx (.var 4) (.call ip (.cons (.var 0) (.cons (.bin .Add (.var 8) (.con (.int 1))) (.cons (.con (.int 3)) .nil))) []))) (.cons (.asg 11 (.tup (.cons (.con (.str "of")) (.cons (.var 10) (.cons (.tup .nil) .nil))))) (sv ip ix im)))))
noncomputable def sx (ip ix im:Nat):Ts:=(.cons (.sW 6) (.cons (.fr (.nm 7) (.rng1 (.call ip (.cons (.var 0) (.cons (.var 1) (.cons (.bin .Add (.var 5) (.con (.int 1))) .nil))) [])) (sr ip ix im)) (.cons (.ret (.bi .tuple (.cons (.srtI 6) .nil))) .nil)))
theorem wQ {ip ix im:Nat} (hp:gW fs ip) (hx:fs[ix]?=some ⟨2,2,false,pq⟩) (hf:fs[im]?=some ⟨6,14,false,sx ip ix im⟩) {ns:List Int} {a b c a' b' c':Str}:
  ∀(deep:Nat),deep<=1->∀{N k most:Nat},deep + 3<=N->k < 1000000->most<=4->∃rs,aO fs N im [.aQ ns,.int k,.int deep,.lst [.str a,.str b,.str c],.lst [.str a',.str b',.str c'],.int most] none= .ok (.tup (ao rs),none)/\kq (deep + 1) (.tup rs):=λdeep=>by
  induction deep using Nat.strongRecOn with | _ deep ih=>?_
  intro nq N k most hN hk hmost;have eQ:lim=1000000:=rfl;generalize yh:Dt.lst [.str a,.str b,.str c]=nm;generalize hsg:Dt.lst [.str a',.str b',.str c']=sg;have P:=λ(k many:Nat) (h1:k < 1000000) (h2:0 < many)=>fS hp (n:=N - 1) (by lia) (ns:=ns) h1 h2
  have kW:=cz (ns:=ns) (k:=k) (many:=most + 1) (by lia);have loop:=c6 (S:=none) (tg:= .nm 7) (ds:=a6 0 (aY ns k (most + 1))) (ρ:=[some (.aQ ns),some (.int k),some (.int deep),some nm,some sg,some (.int most),some (.bK [] []),none,none,none,none,none,none,none])
   (body:=aV (aO fs (N - 1)) (sr ip ix im))
   (λpre ρ=>∃ms x7 x8 x9 Bz BA xS xT,ms.length<=pre.length/\(∀m∈ms,vJ (kq deep) m.1)/\ρ=[some (.aQ ns),some (.int k),some (.int deep),some nm,some sg,some (.int most),some (vq ms),x7,x8,x9,Bz,BA,xS,xT])
   ⟨[],none,none,none,none,none,none,none,Nat.zero_le _,by simp,rfl⟩ (by
    rintro pre x post ρ e ⟨ms,x7,x8,x9,Bz,BA,xS,xT,vD,hr,rfl⟩;obtain⟨h1,rfl⟩:=et e;have Hr:=qc hx (n:=N - 1) (by lia) (k:=k) (j:=pre.length);have Jb:=mE (k:=k) (j:=pre.length);generalize gI k pre.length=at' at Hr Jb;have p0:=P at' 4 (by lia) (by decide);have p1:=P (at' + 1) 3 (by lia) (by decide);have l1:=cz (ns:=ns) (k:=at' + 1) (many:=3) (by decide);have p2:=P (at' + 2) 3 (by lia) (by decide);have l2:=cz (ns:=ns) (k:=at' + 2) (many:=3) (by decide);have p3:=P (at' + 3) 4 (by lia) (by decide);generalize aY ns at' 4=kd at p0;generalize aY ns (at' + 1) 3=v1 at p1 l1;generalize aY ns (at' + 2) 3=v2 at p2 l2;generalize aY ns (at' + 3) 4=v3 at p3;have q0:aO fs (N - 1) ip [.aQ ns,.int at',.int 4] none= .ok (.int kd,none):=p0;have q1:aO fs (N - 1) ip [.aQ ns,.int ((at':Int) + 1),.int 3] none= .ok (.int v1,none):=p1;have q2:aO fs (N - 1) ip [.aQ ns,.int ((at':Int) + 2),.int 3] none= .ok (.int v2,none):=p2;have q3:aO fs (N - 1) ip [.aQ ns,.int ((at':Int) + 3),.int 4] none= .ok (.int v3,none):=p3;obtain⟨rH,zM⟩:=fY (a:=a') (b:=b') (c:=c') l1;obtain⟨FV,gO⟩:=fY (a:=a) (b:=b) (c:=c) l1;rw[hsg] at zM;rw[yh] at gO;have ln:dD .len [nm]= .ok (.int 3):=by rw[<-yh];rfl
    have fd:=uv (i:=v3) (j:=3) (by decide) (by decide);have tl:∀(it:Mx.D) (yH yI:Option Dt),vJ (kq deep) it->∃ρ2,aV (aO fs (N - 1)) (nJ ip) [some (.aQ ns),some (.int k),some (.int deep),some nm,some sg,some (.int most),some (vq ms),some (.int pre.length),some (.int at'),some (.int kd),some (.str rH),some (ofD it),yH,yI] none= .ok (.next,ρ2,none)/\
      ∃ms x7 x8 x9 Bz BA xS xT,ms.length<=(pre++[Dt.int pre.length]).length/\(∀m∈ms,vJ (kq deep) m.1)/\ρ2=[some (.aQ ns),some (.int k),some (.int deep),some nm,some sg,some (.int most),some (vq ms),x7,x8,x9,Bz,BA,xS,xT]:=by
     intro it yH yI hi;have wu:iV (ofD it)=some it:=t9 nq hi;obtain⟨c,hc⟩:=pE it ms;have eg:ev (aO fs (N - 1)) (.n0 6 (.var 11) (.con (.int 0))) [some (.aQ ns),some (.int k),some (.int deep),some nm,some sg,some (.int most),some (vq ms),some (.int pre.length),some (.int at'),some (.int kd),some (.str rH),some (ofD it),yH,yI] none= .ok (.int c,none):=by rw[<-hc];exact vZ (S1:=none) (kd:=ofD it) rfl (by simp only[RX]) (by simp only[RX]) wu
     obtain⟨cc,d1,d2,d3⟩:=vX it (if c + 1 + v3 / 3 < 3 then c + 1 + v3 / 3 else 3) ms;refine⟨_,wY (x:= .int (if c + 1 + v3 / 3 < 3 then c + 1 + v3 / 3 else 3)) (kd:=ofD it) (m:=it) (S1:=none) (S2:=none) rfl (by simp only[RX,eg,q3,fd]) (by simp only[RX]) wu rfl (by rw[JZ];lia) rfl,cc,some (.int pre.length),some (.int at'),some (.int kd),some (.str rH),some (ofD it),yH,yI,by rw[J7];simp;lia,λm hm=>?_,?_⟩
     ·rcases d3 m hm with z | ⟨e,z1,z2⟩
      ·rw[z];exact hi
      ·rw[<-z2];exact hr e z1
     ·rw[<-d1];rfl
    suffices hh:∃it yH yI,vJ (kq deep) it/\∀r,aV (aO fs (N - 1)) (nJ ip) [some (.aQ ns),some (.int k),some (.int deep),some nm,some sg,some (.int most),some (vq ms),some (.int pre.length),some (.int at'),some (.int kd),some (.str rH),some (ofD it),yH,yI] none=r->
      aV (aO fs (N - 1)) (sv ip ix im) [some (.aQ ns),some (.int k),some (.int deep),some nm,some sg,some (.int most),some (vq ms),some (.int pre.length),some (.int at'),some (.int kd),some (.str rH),some (.tup [.str "of",.str rH,.tup []]),xS,xT] none=r by
     obtain⟨it,yH,yI,hi,hh⟩:=hh;obtain⟨ρ2,t1,t2⟩:=tl it yH yI hi;exact⟨[some (.aQ ns),some (.int k),some (.int deep),some nm,some sg,some (.int most),some (vq ms),some (.int pre.length),x8,x9,Bz,BA,xS,xT],ρ2,rfl,bC (d:= .int at') (S1:=none) (by simp only[RX,Hr]) rfl (bC (d:= .int kd) (S1:=none) (by simp only[RX,q0]) rfl (bC (d:= .str rH) (S1:=none) (by simp only[RX,q1,zM]) rfl (bC (d:= .tup [.str "of",.str rH,.tup []]) (S1:=none) (by simp only[RX]) rfl (hh _ t1)))),t2⟩
    by_cases c1:(kd:Int) < 2
    ·refine⟨eA FV,xS,xT,.inl ⟨FV,rfl⟩,λr wz=>?_⟩;refine oG (S1:=none) (by simp only[RX,ln,Kk c1,if_true];rfl) (bC (d:=ofD (eA FV)) (S1:=none) (by simp only[RX,ln,q1,gO];simp[eA,ofD,ao]) rfl wz)
    ·by_cases c2:(kd:Int)=3/\(0:Int) < deep
     ·have Fv:1<=deep:=by lia
      have e1:((1 + v2:Nat):Int)=1 + (v2:Int):=by lia
      obtain⟨qs,k1,k2,k3⟩:=lT (f:=bW (.nm 1) (cO (aO fs (N - 1)) .nil) (eF (aO fs (N - 1)) (su ix im)) [none,none,some (.int at'),some (.int deep),some nm,some (.aQ ns),some sg]) (S:=none) (ds:=a6 0 (1 + v2)) (kq deep) (by
       intro x q9;obtain⟨i,hi,rfl⟩:=xC q9;have Jc:=qc hx (n:=N - 1) (by lia) (k:=at') (j:=5 + i);have JK:=mE (k:=at') (j:=5 + i);obtain⟨rs,r1,r2⟩:=ih (deep - 1) (by lia) (by lia) (N:=N - 1) (k:=gI at' (5 + i)) (most:=2) (by lia) (by lia) (by lia);rw[yh,hsg] at r1;refine⟨.tup rs,u4 (ρ1:=[none,some (.int i),some (.int at'),some (.int deep),some nm,some (.aQ ns),some sg]) rfl ?_ rfl,by rw[show deep=deep - 1 + 1 by lia];exact r2⟩;have Jd:aO fs (N - 1) ix [.int at',.int (5 + (i:Int))] none= .ok (.int (gI at' (5 + i)),none):=Jc;have r3:aO fs (N - 1) im [.aQ ns,.int (gI at' (5 + i)),.int ((deep:Int) - 1),nm,sg,.int 2] none= .ok (.tup (ao rs),none):=by rw[show (deep:Int) - 1=((deep - 1:Nat):Int) by lia];exact r1
       simp only[su,RX,Jd,r3,ofD])
      refine⟨ofT rH qs,some (.int (1 + v2)),some (.lst (ao qs)),.inr ⟨rH,qs,rfl,by rw[k2];simp[a6];lia,k3⟩,λr wz=>?_⟩;refine la (S1:=none) (by simp only[RX,Kg c1];rfl) (oG (S1:=none) (by simp only[RX,c2.1,Kk c2.2];rfl) ?_);refine bC (d:= .int (1 + v2)) (S1:=none) (by simp only[RX,q2]) rfl (bC (d:= .lst (ao qs)) (S1:=none) (kN (ds:=a6 0 (1 + v2)) (S1:=none) (gh (n:=1 + v2) (by simp only[RX];rw[<-e1]) (by lia)) (by simp[a6];lia) rfl k1) rfl ?_);exact bC (d:=ofD (ofT rH qs)) (S1:=none) (by simp only[RX];simp[ofT,ofD,ao]) rfl wz
     ·refine⟨ofT rH [],xS,xT,.inr ⟨rH,[],rfl,by simp,by simp⟩,λr wz=>?_⟩;have c3:(((kd:Int)==3)&&decide ((0:Int) < deep))=false:=by
       cases h:((kd:Int)==3) with
       | false=>rfl
       | true=>have:=Ke h;rw[Bool.true_and];exact Kg λz=>c2 ⟨this,z⟩
      refine la (S1:=none) (by simp only[RX,Kg c1];rfl) (la (S1:=none) ?_ ?_)
      ·simp only[RX];cases h:((kd:Int)==3) with
       | false=>rfl
       | true=>rw[h,Bool.true_and] at c3;rw[if_pos rfl,c3]
      ·exact wz)
  obtain⟨ρ1,dX,ms,x7,x8,x9,Bz,BA,xS,xT,vD,hr,rfl⟩:=loop;have FB:ms.length<=most:=by have:(a6 0 (aY ns k (most + 1))).length=aY ns k (most + 1):=(by simp[a6]);lia
  have Cn:∀m∈cy (ms.map (·.1)) (ms.map λe=>Mx.D.int e.2),BF (kq deep) m:=λm hm=>by unfold cy at hm;obtain⟨z,hz,rfl⟩:=Kq.mp hm;obtain⟨z1,z2⟩:=List.of_mem_zip hz;obtain⟨e1,h1,ze⟩:=Kq.mp z1;obtain⟨e2,h2,vt⟩:=Kq.mp z2;exact⟨z.1,e2.2,by rw[<-vt],by rw[<-ze];exact hr e1 h1⟩
  have hlen:(cy (ms.map (·.1)) (ms.map λe=>Mx.D.int e.2)).length=ms.length:=by unfold cy;simp
  have Fu:=sM (n:=deep) (by lia) (by rw[hlen];lia) Cn;refine⟨cg (cy (ms.map (·.1)) (ms.map λe=>Mx.D.int e.2)),bj hf (by lia) rfl ?_,_,rfl,by unfold cg;rw[List.length_mergeSort,hlen];lia,λm hm=>Cn m (kb.mp hm)⟩;show fin (aV (aO fs (N - 1)) (sx ip ix im) [some (.aQ ns),some (.int k),some (.int deep),some nm,some sg,some (.int most),none,none,none,none,none,none,none,none] none)=_;refine tD (dg (ds:=a6 0 (aY ns k (most + 1))) (S1:=none) (gh (by simp only[RX];exact congrArg (R.bind · _) (P k (most + 1) (by lia) (by lia))) (by lia)) rfl dX (aJ ?_));rw[show∀(e:C) (ρ:aj),ev (aO fs (N - 1)) (.bi .tuple (.cons e .nil)) ρ none=(ev (aO fs (N - 1)) e ρ none).bind (λx=>(dD .tuple [x.1]).bind λd=> .ok (d,x.2)) from λe ρ=>by simp only[RX];cases ev (aO fs (N - 1)) e ρ none <;> rfl,
   v5 (ms:=ms.map (·.1)) (ns:=ms.map λe=>Mx.D.int e.2) rfl (by rw[<-cK (ms.map (·.1)),cw,List.map_map];rfl) (by rw[<-cK (ms.map λe=>Mx.D.int e.2),cw,List.map_map];rfl) Fu]
  rfl
end Rx
end
section
namespace Rx
open PySem PySem.W PySem.Spec PyProof.Rows L2 PySem.SeqAt
theorem uR {fs:List Fn} {n k:Nat} {g:Fn} {args:List Dt} {S:Sx} (h:fs[k]?=some g):aO fs (n + 1) k args S=eL (aO fs n) g args S:=by show (match fs[k]? with | some g=>eL (aO fs n) g args S | none=>R.bad)=_;rw[h]
section
variable {g:G} {K:Frag} {mg:Str->Option Value} {P:Program} {w:World} {base:Heap} {fs:List Fn}
theorem oy {n L m:Nat} {params:Arguments} {body:List Stmt} {scope:Scope} {dV kV doc pm dM ct oc:Value} {an od:Option Addr} {qe:Array (Option Value)} {f:Addr} {N ps:List Str} {M:List Bool} {δ κ:Option Nat} {fF:Bool} {ts:Ts}
  {xv:Nat->Value} (hm:MG g mg) (wA:XG g K mg xv) (ok:lJ g K mg 0 g.fns fs) (lk:K.lookup f=some ⟨oc,od,.func (PySem.W.fnOf "law" "law" params body scope dV kV doc pm an dM ct),qe⟩) (vz:PySem.W.codeIn K dM "law"=true) (S:dc N ps scope)
  (hM:∀i,i < ps.length->M[i]?≠some true) (hp:ps.length=1) (hc:y8 m g ⟨scope.names,N,M,δ,κ⟩ false fF body=some ts) (hf:fs[L]?=some ⟨1,N.length,false,ts⟩)
  (hn:∀ns:List Int,ns.length<=63->∃S,aO fs (n + 1) L [.aQ ns] none= .ok (.bl true,S)):
  f7 P w K mg base (lF P w) (n + 1) f (PySem.W.fnOf "law" "law" params body scope dV kV doc pm an dM ct) ps (qt K):=by
 have h:=jT (xv:=xv) (P:=P) (w:=w) (base:=base) lk vz S hm wA (ja (P:=P) (w:=w) (base:=base) (xv:=xv) hm wA ok n) hM (λz=>by cases z) hc;refine h.imp λvs H Q E q=>?_
 obtain⟨a,ns,rfl,hs,hl,hq⟩:=q;obtain⟨S',hS⟩:=hn ns hl;rw[uR hf] at hS;rw[hp];refine⟨rfl,N0,none,[.aQ ns],none,[.ref a],⟨rfl,rfl,rfl⟩,ag.cons ?_ ag.nil,λb z=>z.elim,?_⟩
 ·unfold RV;refine⟨a,rfl,?_⟩;rcases hs with hs | hs
  ·exact .inl ⟨hs,λz=>z⟩
  ·exact .inr hs
 ·rw[hS];intro v H' fo;rw[fo.val.ax];exact hq H'
end
theorem walkR {l:PySem.W.OpenLaw} {q:Program} {k:Nat} {loose:List Str} {XP:(Str->Option Value)->Heap->Prop} {YP:World->Heap->Prop} {d:DefRec} {K:Params->PySem.W.Frag} (hn:l.most=some 63) (Cd:d.params.defaults=[]) (hr:fh k callerA)
  (hY:∀(w:World) (h:Heap),YP w h->(K w.params).In h)
  (F:∀(w:World) (mg:Str->Option Value) (fa:Addr) (h:Heap),(K w.params).In h->h.Ns mainGlobals mg->mg d.name=some (.ref fa)->
   ∃fd:FuncData,(∀(s:Shared) (u:Value),BindsTo s fd ⟨[u],[]⟩ [("_law_script",u)])/\∀base:Heap,(K w.params).In base->base.Ns mainGlobals mg->f7 l.prog w (K w.params) mg base (lF l.prog w) k fa fd ["_law_script"] (qt (K w.params))):
  PySem.W.WalkO q loose XP YP l.row.toRowW d [] (λf vs=>PySem.call f vs):=
 L2.xR (n:=63) (k:=k) (x:="_law_script") (CX:=λw=>lF l.prog w) (sp:=λw=>qt (K w.params)) hn (by decide) Cd hr hY F (λ_ _ a ns hl _ hS=>⟨a,ns,rfl,hS,hl,λ_=>rfl⟩) λ_ _ _ _ _ z=>by obtain⟨_,_,_,_,_,_,_,_,_,z⟩:=z;exact z
structure Row where
 nm:Str
 s:Stmt
 ps:List Str
 ms:List Str:=[]
 dr:Option Str:=none
 dp:Bool:=false
 dU:List Dt:=[]
 dk:Option Str:=none
namespace Row
noncomputable def N (r:Row):List Str:=IY (bc r.s).names r.ps
noncomputable def gm (r:Row):Gm:=⟨(bc r.s).names,r.N,Bx r.N r.ms,if r.dp then some 0 else r.dr.bind (wG · r.N),r.dk.bind (wG · r.N)⟩
noncomputable def fn (g:G) (j:Nat) (r:Row):Option Fn:=(y8 60 g r.gm r.dp (g.fr j) (fv r.s)).map λts=>⟨r.ps.length,r.N.length,r.dp,ts⟩
noncomputable def ent (r:Row):Str×Nat×List Dt×Bool:=(r.nm,r.ps.length,r.dU,r.dp)
noncomputable def ok (r:Row):Bool:=
 ((bc r.s).kind== .function)&& !(bc r.s).isCoroutine&& !(bc r.s).isGenerator&&decide r.N.Nodup&&decide (r.N.take r.ps.length=r.ps)&&
 (r.ps.all λx=>(bc r.s).names.lookup x==some .local||(bc r.s).names.lookup x==some .cell)&&((bc r.s).names.all λy=>y.2 != .free)&&
 ((Bx r.N r.ms).take r.ps.length).all (λb=> !b)&&r.dU.all lH
theorem scope {r:Row} (h:r.ok=true):dc r.N r.ps (bc r.s)/\(∀i,i < r.ps.length->(Bx r.N r.ms)[i]?≠some true)/\r.dU.all lH=true:=by
 unfold ok at h;simp only[JR] at h;obtain⟨⟨⟨⟨⟨⟨⟨⟨h1,h2⟩,h3⟩,h4⟩,h5⟩,h6⟩,h7⟩,h8⟩,h9⟩:=h;refine⟨⟨Ke h1,by simpa using h2,by simpa using h3,JT h4,JT h5,λx hx=>?_,λy hy e=>?_⟩,CJ h8,h9⟩
 ·have:=Kr.mp h6 x hx;rcases Bool.or_eq_true_iff.mp this with z | z
  ·exact .inl (Ke z)
  ·exact .inr (Ke z)
 ·have:=Kr.mp h7 y hy;rw[e] at this;cases this
end Row
noncomputable def l6 (g:G):Nat->List Row->Option (List Fn)
 | _,[]=>some []
 | j,r::rs=>(r.fn g j).bind λf=>(l6 g (j + 1) rs).map (f:: ·)
noncomputable def Fd (K:Frag) (nm:Str) (s:Stmt) (ps:List Str) (dU:List Dt):Prop:=∃(fa:Addr) (oc dV kV doc pm dM ct:Value) (od an:Option Addr) (qe:Array (Option Value)),
 nsIn K mainGlobals nm=some (some (.ref fa))/\K.lookup fa=some ⟨oc,od,.func (fnOf nm nm (kK s) (fv s) (bc s) dV kV doc pm an dM ct),qe⟩/\codeIn K dM nm=true/\keepIn K (.ref fa)=true/\(dU=[]->dV= .none)/\
 ∀j,j<=dU.length->∃ds,aq ((dU.drop j).map ny) ds/\Binds K (fnOf nm nm (kK s) (fv s) (bc s) dV kV doc pm an dM ct) ps ds
noncomputable def DU (K:Frag):List Row->Prop
 | []=>True
 | r::rs=>Fd K r.nm r.s r.ps r.dU/\DU K rs
section
variable {g:G} {K:Frag} {mg:Str->Option Value} {h:Heap} {fs:List Fn}
theorem tG (X:K.In h) (Gs:h.Ns mainGlobals mg):∀{rs:List Row} {i:Nat} {fs:List Fn},rs.all Row.ok=true->l6 g i rs=some fs->DU K rs->lJ g K mg i (rs.map Row.ent) fs
 | [],i,fs,_,e,_=>by cases e;trivial
 | r::rs,i,fs,hk,e,F=>by rw[List.all_cons,JR] at hk;obtain⟨f,e1,e⟩:=JO.mp e;obtain⟨E8,e2,rfl⟩:=J6.mp e;obtain⟨ts,c1,rfl⟩:=J6.mp e1;obtain⟨⟨fa,oc,dV,kV,doc,pm,dM,ct,od,an,qe,a,l,c,k,_,b⟩,F⟩:=F;obtain⟨s1,s2,s3⟩:=Row.scope hk.1;exact⟨⟨fa,r.ps,r.N,_,_,_,60,oc,od,an,qe,_,_,_,dV,kV,doc,pm,dM,ct,l,c,k,mg_of X Gs a,s1,s2,λz=>if_pos z,rfl,c1,rfl,rfl,rfl,b,s3⟩,tG X Gs hk.2 e2 F⟩
theorem zk {rs:List Row}:∀{L i:Nat} {fs:List Fn} {r:Row},l6 g i rs=some fs->rs[L]?=some r->∃ts,y8 60 g r.gm r.dp (g.fr (i + L)) (fv r.s)=some ts/\fs[L]?=some ⟨r.ps.length,r.N.length,r.dp,ts⟩:=by
 induction rs with
 | nil=>intro L i fs r _ e;simp at e
 | cons r0 rs ih=>
  intro L i fs r e hr;obtain⟨f,e1,e⟩:=JO.mp e;obtain⟨E8,e2,rfl⟩:=J6.mp e;cases L with
  | zero=>cases hr;obtain⟨ts,c1,rfl⟩:=J6.mp e1;exact⟨ts,c1,rfl⟩
  | succ L=>obtain⟨ts,c1,c2⟩:=ih e2 (by simpa using hr);exact⟨ts,by rw[show i + (L + 1)=i + 1 + L by lia];exact c1,by simpa using c2⟩
theorem tx:∀{rs:List Row} {L:Nat} {r:Row},DU K rs->rs[L]?=some r->Fd K r.nm r.s r.ps r.dU
 | [],L,r,_,e=>by simp at e
 | r0::rs,0,r,F,e=>by cases e;exact F.1
 | r0::rs,L + 1,r,F,e=>tx F.2 (by simpa using e)
noncomputable def EI (K:Frag):List Str->Prop
 | []=>True
 | x::xs=>nsIn K mainGlobals x=some none/\EI K xs
noncomputable def EC (K:Frag):List (Str×Dt)->Prop
 | []=>True
 | x::xs=>(∃u,nsIn K mainGlobals x.1=some (some u)/\lH x.2=true/\RelV (ny x.2) u)/\EC K xs
theorem ug {x:Str}:∀{xs:List Str},EI K xs->x∈xs->nsIn K mainGlobals x=some none
 | y::xs,h,hx=>by
  rcases J3.mp hx with rfl | hx
  ·exact h.1
  ·exact ug h.2 hx
theorem sP {x:Str} {d:Dt}:∀{xs:List (Str×Dt)},EC K xs->xs.lookup x=some d->∃u,nsIn K mainGlobals x=some (some u)/\lH d=true/\RelV (ny d) u
 | [],_,e=>by simp at e
 | y::xs,h,e=>by
  rw[Kh] at e;split at e
  ·rename_i q;cases e;rw[Ke q];exact h.1
  ·exact sP h.2 e
noncomputable def ET (K:Frag) (C:Addr):List (Str×Bool)->Prop
 | []=>True
 | x::xs=>(∃c,(nsIn K mainGlobals x.1=some (some c)/\(∃D,c= .ref D)\/nsIn K mainGlobals x.1=some none/\x.1="ValueError"/\c= .type "ValueError")/\kitOne K (.ref C) c=some x.2/\(x.2=true->exmOne K (.ref C) c=some true))/\ET K C xs
noncomputable def ES (K:Frag):List (Str×List (Str×Bool))->Prop
 | []=>True
 | x::xs=>(∃C,nsIn K mainGlobals x.1=some (some (.ref C))/\excIn K C BO "ValueError.__new__"=true/\BL K C/\ET K C x.2)/\ES K xs
theorem vi (X:K.In h) (Gs:h.Ns mainGlobals mg) {C:Addr} {t:Str} {b:Bool}:∀{xs:List (Str×Bool)},ET K C xs->xs.lookup t=some b->∃c,(mg t=some c/\(∃D,c= .ref D)\/mg t=none/\t="ValueError"/\c= .type "ValueError")/\kitOne K (.ref C) c=some b/\(b=true->exmOne K (.ref C) c=some true)
 | [],_,e=>by simp at e
 | y::xs,hx,e=>by
  rw[Kh] at e;split at e
  ·rename_i q;cases e;rw[Ke q];obtain⟨c,h1,h2⟩:=hx.1;exact⟨c,h1.imp (λz=>⟨mg_of X Gs z.1,z.2⟩) λz=>⟨mg_none_of X Gs z.1,z.2⟩,h2⟩
  ·exact vi X Gs hx.2 e
noncomputable def DR (g:G) (mg:Str->Option Value) (k:Nat):Value:=((g.xs[k]?).bind λx=>mg x.1).getD .none
theorem vf (X:K.In h) (Gs:h.Ns mainGlobals mg):∀{xs:List (Str×List (Str×Bool))} {k:Nat} {x:Str} {ts:List (Str×Bool)},ES K xs->xs[k]?=some (x,ts)->∃C,mg x=some (.ref C)/\EN K mg C ts
 | [],k,x,ts,_,e=>by simp at e
 | y::xs,0,x,ts,hx,e=>by cases e;obtain⟨C,h1,h2,h3,h4⟩:=hx.1;exact⟨C,mg_of X Gs h1,h2,h3,λt b q=>vi X Gs h4 q⟩
 | y::xs,k + 1,x,ts,hx,e=>vf X Gs hx.2 (by simpa using e)
theorem law_mk {l:OpenLaw} {w:World} {fa:Addr} {rs:List Row} {cons:List (Str×Dt)} {bls:List Str} {fr:Nat->Bool} {xs:List (Str×List (Str×Bool))} {L n:Nat} {sL:Stmt} {ms:List Str} {dr kd:Option Str} (X:K.In h) (Gs:h.Ns mainGlobals mg) (Iu:mg "law"=some (.ref fa))
  (hL:rs[L]?=some ⟨"law",sL,["_law_script"],ms,dr,false,[],kd⟩) (hk:rs.all Row.ok=true) (hfs:l6 ⟨rs.map Row.ent,cons,bls,fr,xs⟩ 0 rs=some fs)
  (hb:∀(s:Shared) (v:Value) (kV doc pm dM ct:Value) (an:Option Addr),BindsTo s (fnOf "law" "law" (kK sL) (fv sL) (bc sL) .none kV doc pm an dM ct) ⟨[v],[]⟩ [("_law_script",v)])
  (hn:∀ns:List Int,ns.length<=63->∃S,aO fs (n + 1) L [.aQ ns] none= .ok (.bl true,S)) (B:EI K bls) (C:EC K cons) (F:DU K rs) (E:ES K xs):
  ∃fd:FuncData,(∀(s:Shared) (v:Value),BindsTo s fd ⟨[v],[]⟩ [("_law_script",v)])/\∀base:Heap,K.In base->base.Ns mainGlobals mg->f7 l.prog w K mg base (lF l.prog w) (n + 1) fa fd ["_law_script"] (qt K):=by
 have wA:XG ⟨rs.map Row.ent,cons,bls,fr,xs⟩ K mg (DR ⟨rs.map Row.ent,cons,bls,fr,xs⟩ mg):=λk x ts e=>by obtain⟨C,h1,h2⟩:=vf X Gs E e;have e:xs[k]?=some (x,ts):=e;exact⟨C,by simp[DR,e,h1],h1,h2⟩
 have hm:MG ⟨rs.map Row.ent,cons,bls,fr,xs⟩ mg:=⟨λx d hx=>by
   obtain⟨u,k1,k2,k3⟩:=sP C hx;exact⟨u,k2,mg_of X Gs k1,k3⟩,λx hx=>mg_none_of X Gs (ug B hx)⟩
 have ok:=tG (g:=⟨rs.map Row.ent,cons,bls,fr,xs⟩) X Gs hk hfs F;obtain⟨JA,oc,dV,kV,doc,pm,dM,ct,od,an,qe,a,lk,c,k,hd,b⟩:=tx F hL;cases hd rfl;have e:=Iu.symm.trans (mg_of X Gs a);cases e;obtain⟨ts,c1,c2⟩:=zk hfs hL;have hok:=Row.scope (Kr.mp hk _ (List.mem_iff_getElem?.mpr ⟨L,hL⟩));exact⟨_,λs v=>hb s v kV doc pm dM ct an,λbase _ _=>oy hm wA ok lk c hok.1 hok.2.1 rfl c1 c2 hn⟩
end
end Rx
end
section
namespace K33
open PySem PySem.W PySem.Spec PyProof.Rows L2 Mx Rx
noncomputable def top (i:Nat):Stmt:=PySem.Challenge.pw_mixform_k33_cut.main.body.getD i (.Pass ⟨0,0,0,0⟩)
noncomputable abbrev rows:List Rx.Row:=[⟨"just",top 1,["name"],[],none,false,[],none⟩,
 ⟨"cut",top 2,["way","names"],[],none,false,[],none⟩,
 ⟨"_law_cell",top 4,["_law_script","_law_k"],[],none,false,[],none⟩,
 ⟨"_law_pick",top 5,["_law_script","_law_k","_law_many"],[],none,false,[],none⟩,
 ⟨"_law_names",top 6,["_law_script","_law_k","_law_letters"],["_law_names_here"],none,false,[],none⟩,
 ⟨"_law_unknowns",top 7,["_law_script","_law_k"],[],none,false,[],none⟩,
 ⟨"_law_signs",top 8,["_law_script","_law_k"],[],none,false,[],none⟩,
 ⟨"_law_next",top 9,["_law_k","_law_j"],[],none,false,[],none⟩,
 ⟨"_law_mix",top 10,["_law_script","_law_k","_law_deep","_law_names_here","_law_signs_here","_law_most"],["_law_bag"],none,false,[],some "_law_bag"⟩,
 ⟨"_law_same",top 11,["_law_found","_law_due"],[],none,false,[],none⟩,
 ⟨"_law_way",top 12,["_law_script","_law_names_here","_law_signs_here"],["_law_pairs"],none,false,[],none⟩,
 ⟨"law",top 13,["_law_script"],["_law_due"],none,false,[],none⟩]
noncomputable abbrev cons:List (Str×Dt):=[]
noncomputable abbrev bls:List Str:=["bool","int","isinstance","len","list","min","range","reversed","sorted","str","tuple","zip"]
noncomputable abbrev fr (i:Nat):Bool:=[false,false,false,true,true,true,true,true,false,false,false,false].getD i false
noncomputable abbrev xs:List (Str×List (Str×Bool)):=[]
noncomputable def b0:Ts:=(.cons (.ret (.tup (.cons (.tup (.cons (.tup (.cons (.con (.str "any")) (.cons (.var 0) .nil))) (.cons (.con (.int 1)) .nil))) .nil))) .nil)
noncomputable def b1:Ts:=(.cons (.ret (.bi .tuple (.cons (.comp [none,none,none,some 1] (.seq (.var 0)) (.tp [1,2]) (.cons (.and (.cmp .In (.var 1) (.var 3)) (.cmp .NotEq (.var 2) (.call 0 (.cons (.var 1) .nil) []))) .nil) (.tup (.cons (.var 1) (.cons (.var 2) .nil)))) .nil))) .nil)
noncomputable def b5:Ts:=(.cons (.ret (.call 4 (.cons (.var 0) (.cons (.var 1) (.cons (.con (.str "abcdefghijklmnopqrstuvwxyz")) .nil))) [])) .nil)
noncomputable def b6:Ts:=(.cons (.ret (.call 4 (.cons (.var 0) (.cons (.var 1) (.cons (.con (.str "ABCDEFGHIJKLMNOPQRSTUVWXYZ")) .nil))) [])) .nil)
noncomputable def EV:Ts:=(.cons (.asgM 3 (.lst .nil)) (.cons (.fr (.nm 4) (.rng1 (.con (.int 3))) (.cons (.asg 5 (.call 8 (.cons (.var 0) (.cons (.bin .Add (.con (.int 60)) (.bin .Mult (.con (.int 4)) (.var 4))) (.cons (.con (.int 1)) (.cons (.var 1) (.cons (.var 2) (.cons (.con (.int 3)) .nil)))))) [])) (.cons (.asg 6 (.call 3 (.cons (.var 0) (.cons (.bin .Add (.con (.int 40)) (.var 4)) (.cons (.con (.int 9)) .nil))) [])) (.cons (.ifs (.cmp .Eq (.var 6) (.con (.int 0))) (.cons (.asg 5 (.tup (.cons (.tup (.cons (.tup (.cons (.con (.str "any")) (.cons (.idx (.var 1) (.var 4)) .nil))) (.cons (.con (.int 2)) .nil))) .nil))) .nil) .nil) (.cons (.ifs (.cmp .Eq (.var 6) (.con (.int 1))) (.cons (.asg 5 (.tup (.cons (.tup (.cons (.tup (.cons (.con (.str "any")) (.cons (.idx (.var 1) (.bin .Mod (.bin .Add (.var 4) (.con (.int 1))) (.con (.int 3)))) .nil))) (.cons (.con (.int 1)) .nil))) .nil))) .nil) .nil) (.cons (.ifs (.or (.cmp .Eq (.var 6) (.con (.int 2))) (.cmp .Eq (.var 6) (.con (.int 3)))) (.cons (.asg 5 (.tup (.cons (.tup (.cons (.tup (.cons (.con (.str "any")) (.cons (.idx (.var 1) (.var 4)) .nil))) (.cons (.con (.int 1)) .nil))) .nil))) .nil) .nil) (.cons (.ifs (.cmp .Gt (.call 3 (.cons (.var 0) (.cons (.bin .Add (.con (.int 50)) (.var 4)) (.cons (.con (.int 5)) .nil))) []) (.con (.int 0))) (.cons (.app 3 (.tup (.cons (.idx (.var 1) (.var 4)) (.cons (.var 5) .nil)))) .nil) .nil) .nil))))))) (.cons (.ret (.bi .tuple (.cons (.bi .sorted (.cons (.mvr 3) .nil)) .nil))) .nil)))
noncomputable def EW:Ts:=(.cons (.asg 1 (.call 5 (.cons (.var 0) (.cons (.con (.int 0)) .nil)) [])) (.cons (.asg 2 (.call 10 (.cons (.var 0) (.cons (.var 1) (.cons (.call 6 (.cons (.var 0) (.cons (.con (.int 7)) .nil)) []) .nil))) [])) (.cons (.asg 4 (.bin .Add (.comp [none,none,none,some 0] (.zipR (.var 1) (.con (.int 3))) (.tp [1,2]) (.cons (.cmp .Gt (.call 3 (.cons (.var 3) (.cons (.bin .Add (.con (.int 20)) (.var 2)) (.cons (.con (.int 3)) .nil))) []) (.con (.int 0))) .nil) (.var 1)) (.lst (.cons (.con (.str "qqqqqq")) .nil)))) (.cons (.ifs (.cmp .Eq (.call 3 (.cons (.var 0) (.cons (.con (.int 2)) (.cons (.con (.int 2)) .nil))) []) (.con (.int 0))) (.cons (.asg 4 (.bi .revL (.cons (.var 4) .nil))) .nil) .nil) (.cons (.ifs (.cmp .Eq (.call 3 (.cons (.var 0) (.cons (.con (.int 3)) (.cons (.con (.int 8)) .nil))) []) (.con (.int 0))) (.cons (.asg 4 (.lst .nil)) .nil) .nil) (.cons (.asgM 5 (.lst .nil)) (.cons (.fr (.tp [3,6]) (.seq (.var 2)) (.cons (.ifs (.and (.cmp .In (.var 3) (.var 4)) (.cmp .NotEq (.var 6) (.tup (.cons (.tup (.cons (.tup (.cons (.con (.str "any")) (.cons (.var 3) .nil))) (.cons (.con (.int 1)) .nil))) .nil)))) (.cons (.app 5 (.tup (.cons (.var 3) (.cons (.var 6) .nil)))) .nil) .nil) .nil)) (.cons (.asg 7 (.bi .list (.cons (.var 4) .nil))) (.cons (.asg 8 (.call 1 (.cons (.var 2) (.cons (.var 7) .nil)) [])) (.cons (.ifs (.or (.nt (.call 9 (.cons (.var 8) (.cons (.bi .tuple (.cons (.mvr 5) .nil)) .nil)) [])) (.cmp .NotEq (.var 7) (.var 4))) (.cons (.ret (.con (.bl false))) .nil) .nil) (.cons (.ret (.and (.call 9 (.cons (.call 1 (.cons (.var 2) (.cons (.bi .tuple (.cons (.var 4) .nil)) .nil)) []) (.cons (.bi .tuple (.cons (.mvr 5) .nil)) .nil)) []) (.call 9 (.cons (.call 1 (.cons (.var 8) (.cons (.var 4) .nil)) []) (.cons (.bi .tuple (.cons (.mvr 5) .nil)) .nil)) []))) .nil)))))))))))
noncomputable def fs:List Fn:=[⟨1,1,false,b0⟩,⟨2,2,false,b1⟩,⟨2,3,false,pj⟩,⟨3,4,false,sy 2⟩,⟨3,9,false,nK 3⟩,⟨2,2,false,b5⟩,⟨2,2,false,b6⟩,⟨2,2,false,pq⟩,⟨6,14,false,sx 3 7 8⟩,⟨2,4,false,lO 9⟩,⟨3,7,false,EV⟩,⟨1,9,false,EW⟩]
theorem hok:rows.all Rx.Row.ok=true:=by decide +kernel
theorem hfs:l6 ⟨rows.map Rx.Row.ent,cons,bls,fr,xs⟩ 0 rows=some fs:=by kernel_rfl
theorem jU:gW fs 3:=⟨2,rfl,rfl⟩
theorem i9:∀L:List Str,gU (L.map Dt.str)=true
 | []=>rfl
 | x::L=>by simp[gU,pl,i9 L]
theorem iK:∀L:List Str,iJ (L.map Dt.str)=0
 | []=>rfl
 | x::L=>by simp[iJ,dp,iK L]
noncomputable def fJ (x:Str):Mx.D:= .tup [.tup [.tup [.str "any",.str x],.int 1]]
theorem wH (n:Nat) (hn:1<=n) (x:Str):aO fs n 0 [.str x] none= .ok (ofD (fJ x),none):=by refine bj (body:=b0) rfl hn rfl ?_;show fin (aV (aO fs (n - 1)) b0 [some (.str x)] none)=_;exact aJ (by simp only[RX];simp[fJ,ofD,ao])
noncomputable def pW (L:List Str):Mx.D->Bool
 | .tup [.str x,f]=>inD (.str x) (L.map Dt.str)&& !decide (f=fJ x)
 | _=>false
noncomputable def GK (w:Mx.D):Prop:=∃x f,w= .tup [.str x,f]/\Mx.D.dep f<=50
noncomputable def pT (L:List Str) (d:Dt):Bool:=match toD d with
 | some w=>pW L w
 | none=>false
theorem yl {L:List Str} {nm:Dt} (h:nm= .lst (L.map Dt.str)\/nm= .tup (L.map Dt.str)) (x:Str):ck .In (.str x) nm= .ok (inD (.str x) (L.map Dt.str)):=by
 have e:(pl (.str x)&&gU (L.map Dt.str)&&decide (iJ (L.map Dt.str)<=100))=true:=by rw[i9,iK];rfl
 rcases h with rfl | rfl
 ·show af (pl (.str x)&&gU (L.map Dt.str)&&decide (iJ (L.map Dt.str)<=100)) _=_;rw[e];rfl
 ·show af (pl (.str x)&&gU (L.map Dt.str)&&decide (iJ (L.map Dt.str)<=100)) _=_;rw[e];rfl
theorem zi {L:List Str}:∀W:List Mx.D,(ao W).filter (pT L)=ao (W.filter (pW L))
 | []=>rfl
 | w::W=>by
  have e:pT L (ofD w)=pW L w:=by unfold pT;rw[eY]
  rw[ao,List.filter_cons,List.filter_cons,e,zi W];split <;> simp[ao]
theorem nT {n:Nat} (hn:2<=n) {L:List Str} {nm:Dt} (h:nm= .lst (L.map Dt.str)\/nm= .tup (L.map Dt.str)) {W:List Mx.D} (hW:∀w∈W,GK w) (hl:W.length<=3):
  aO fs n 1 [.tup (ao W),nm] none= .ok (.tup (ao (W.filter (pW L))),none):=by
 refine bj (body:=b1) rfl (by lia) rfl ?_;show fin (aV (aO fs (n - 1)) b1 [some (.tup (ao W)),some nm] none)=_;have eQ:lim=1000000:=rfl;have c:=kH (S:=none) (f:=bW (.tp [1,2]) (cO (aO fs (n - 1)) (.cons (.and (.cmp .In (.var 1) (.var 3)) (.cmp .NotEq (.var 2) (.call 0 (.cons (.var 1) .nil) []))) .nil)) (eF (aO fs (n - 1)) (.tup (.cons (.var 1) (.cons (.var 2) .nil)))) [none,none,none,some nm]) (p:=pT L) (g:=id) (ds:=ao W) (by
  intro d hd;obtain⟨w,hw,rfl⟩:=my hd;obtain⟨x,f,rfl,hf⟩:=hW w hw;have rY:=yl h x;have hj:=wH (n - 1) (by lia) x;have nr:=pD (a:=f) (b:=fJ x) (by lia);have e:pT L (ofD (.tup [.str x,f]))=(inD (.str x) (L.map Dt.str)&& !decide (f=fJ x)):=by unfold pT;rw[eY];rfl
  rw[e];refine turn_if (ρ1:=[none,some (.str x),some (ofD f),some nm]) (y:=ofD (.tup [.str x,f])) (by simp[ofD,ao,cJ,d5]) ?_ λ_=>⟨by simp only[RX];simp[ofD,ao],rfl⟩
  cases hb:inD (.str x) (L.map Dt.str) with
  | false=>rw[hb] at rY;simp only[RX,rY,Bool.false_and];rfl
  | true=>rw[hb] at rY;simp only[RX,rY,hj,nr,Bool.true_and,if_true])
 rw[List.map_id,zi] at c;refine aJ ?_;rw[show∀(e:C) (ρ:aj),ev (aO fs (n - 1)) (.bi .tuple (.cons e .nil)) ρ none=(ev (aO fs (n - 1)) e ρ none).bind (λx=>(dD .tuple [x.1]).bind λd=> .ok (d,x.2)) from λe ρ=>by simp only[RX];cases ev (aO fs (n - 1)) e ρ none <;> rfl,
  kN (ds:=ao W) (S1:=none) (tY (d:= .tup (ao W)) (by simp only[RX]) rfl) (by rw[dZ];lia) rfl c]
 rfl
theorem p9 (n:Nat) (hn:4<=n) (ns:List Int) (k:Nat) (hk:k < 1000):(∃a b c,aO fs n 5 [.aQ ns,.int k] none= .ok (.lst [.str a,.str b,.str c],none))/\∃a b c,aO fs n 6 [.aQ ns,.int k] none= .ok (.lst [.str a,.str b,.str c],none):=by
 obtain⟨a,b,c,h1,_⟩:=mD (fs:=fs) jU (im:=4) rfl (n:=n - 1) (by lia) (ns:=ns) (k:=k) (L:="abcdefghijklmnopqrstuvwxyz") (by lia) rfl (by decide);obtain⟨a',b',c',h2,_⟩:=mD (fs:=fs) jU (im:=4) rfl (n:=n - 1) (by lia) (ns:=ns) (k:=k) (L:="ABCDEFGHIJKLMNOPQRSTUVWXYZ") (by lia) rfl (by decide);refine⟨⟨a,b,c,bj (body:=b5) rfl (by lia) rfl ?_⟩,⟨a',b',c',bj (body:=b6) rfl (by lia) rfl ?_⟩⟩
 ·show fin (aV (aO fs (n - 1)) b5 [some (.aQ ns),some (.int k)] none)=_;exact aJ (by simp only[RX,h1])
 ·show fin (aV (aO fs (n - 1)) b6 [some (.aQ ns),some (.int k)] none)=_;exact aJ (by simp only[RX,h2])
noncomputable def qF (w:Mx.D):Prop:=∃x f,w= .tup [.str x,f]/\kq 2 f
theorem uo (x:Str) (c:Int):kq 2 (.tup [.tup [eA x,.int c]]):=⟨_,rfl,by simp,λm hm=>by rw[Kp] at hm;subst hm;exact⟨eA x,c,rfl,.inl ⟨x,rfl⟩⟩⟩
theorem FQ {a b:Mx.D} (ha:qF a) (hb:qF b):gR a b=true:=by obtain⟨x,f,rfl,hf⟩:=ha;obtain⟨y,g,rfl,hg⟩:=hb;have:=k7 hf hg;simp[gR,fK,this]
theorem BQ {ms:List Mx.D} (hl:ms.length<=3) (h:∀m∈ms,qF m):fu ms=true:=by
 refine sJ .ts (by lia) (ec λd hd=>?_) (λd hd=>?_) λd hd e he=>FQ (h d hd) (h e he)
 ·obtain⟨x,f,rfl,hf⟩:=h d hd;have:=c0 hf;simp[Mx.D.dep,Mx.D.bp]
  lia
 ·obtain⟨x,f,rfl,hf⟩:=h d hd;rfl
noncomputable def t3:Ts:=(.cons (.ifs (.cmp .Gt (.call 3 (.cons (.var 0) (.cons (.bin .Add (.con (.int 50)) (.var 4)) (.cons (.con (.int 5)) .nil))) []) (.con (.int 0))) (.cons (.app 3 (.tup (.cons (.idx (.var 1) (.var 4)) (.cons (.var 5) .nil)))) .nil) .nil) .nil)
noncomputable def t2:Ts:=(.cons (.ifs (.or (.cmp .Eq (.var 6) (.con (.int 2))) (.cmp .Eq (.var 6) (.con (.int 3)))) (.cons (.asg 5 (.tup (.cons (.tup (.cons (.tup (.cons (.con (.str "any")) (.cons (.idx (.var 1) (.var 4)) .nil))) (.cons (.con (.int 1)) .nil))) .nil))) .nil) .nil) t3)
noncomputable def t1:Ts:=(.cons (.ifs (.cmp .Eq (.var 6) (.con (.int 1))) (.cons (.asg 5 (.tup (.cons (.tup (.cons (.tup (.cons (.con (.str "any")) (.cons (.idx (.var 1) (.bin .Mod (.bin .Add (.var 4) (.con (.int 1))) (.con (.int 3)))) .nil))) (.cons (.con (.int 1)) .nil))) .nil))) .nil) .nil) t2)
noncomputable def t0:Ts:=(.cons (.ifs (.cmp .Eq (.var 6) (.con (.int 0))) (.cons (.asg 5 (.tup (.cons (.tup (.cons (.tup (.cons (.con (.str "any")) (.cons (.idx (.var 1) (.var 4)) .nil))) (.cons (.con (.int 2)) .nil))) .nil))) .nil) .nil) t1)
theorem Bd (ns:List Int) (a b c a' b' c':Str):∃W,aO fs 59 10 [.aQ ns,.lst [.str a,.str b,.str c],.lst [.str a',.str b',.str c']] none= .ok (.tup (ao W),none)/\W.length<=3/\∀w∈W,qF w:=by
 have eQ:lim=1000000:=rfl;generalize yh:Dt.lst [.str a,.str b,.str c]=nm;generalize hsg:Dt.lst [.str a',.str b',.str c']=sg;have P:=λ(k many:Nat) (h1:k < 1000000) (h2:0 < many)=>fS (fs:=fs) jU (n:=58) (by decide) (ns:=ns) h1 h2
 have loop:=c6 (S:=none) (tg:= .nm 4) (ds:=a6 0 3) (ρ:=[some (.aQ ns),some nm,some sg,some (.lst []),none,none,none])
  (body:=aV (aO fs 58) (.cons (.asg 5 (.call 8 (.cons (.var 0) (.cons (.bin .Add (.con (.int 60)) (.bin .Mult (.con (.int 4)) (.var 4))) (.cons (.con (.int 1)) (.cons (.var 1) (.cons (.var 2) (.cons (.con (.int 3)) .nil)))))) [])) (.cons (.asg 6 (.call 3 (.cons (.var 0) (.cons (.bin .Add (.con (.int 40)) (.var 4)) (.cons (.con (.int 9)) .nil))) [])) t0)))
  (λpre ρ=>∃ms x4 x5 x6,ms.length<=pre.length/\(∀m∈ms,qF m)/\ρ=[some (.aQ ns),some nm,some sg,some (.lst (ao ms)),x4,x5,x6])
  ⟨[],none,none,none,by simp,by simp,by simp[ao]⟩ (by
   rintro pre x post ρ e ⟨ms,x4,x5,x6,vD,hr,rfl⟩;obtain⟨h1,rfl⟩:=et e;generalize hj:pre.length=j at *;have p0:=P (40 + j) 9 (by lia) (by decide);have p1:=P (50 + j) 5 (by lia) (by decide);generalize aY ns (40 + j) 9=w at p0;generalize aY ns (50 + j) 5=v at p1;have q0:aO fs 58 3 [.aQ ns,.int (40 + (j:Int)),.int 9] none= .ok (.int w,none):=p0;have q1:aO fs 58 3 [.aQ ns,.int (50 + (j:Int)),.int 5] none= .ok (.int v,none):=p1;obtain⟨r1,m1,f1⟩:=wQ (fs:=fs) (ip:=3) (ix:=7) (im:=8) jU rfl rfl (ns:=ns) (a:=a) (b:=b) (c:=c) (a':=a') (b':=b') (c':=c') 1 (by lia) (N:=58) (k:=60 + 4 * j) (most:=3) (by lia) (by lia) (by lia);rw[yh,hsg] at m1;have m2:aO fs 58 8 [.aQ ns,.int (60 + 4 * (j:Int)),.int 1,nm,sg,.int 3] none= .ok (.tup (ao r1),none):=m1;obtain⟨x,hx⟩:=fY (a:=a) (b:=b) (c:=c) h1;obtain⟨y,hy⟩:=fY (a:=a) (b:=b) (c:=c) (k:=(j + 1) % 3) (by lia);rw[yh] at hx hy;have Cv:cQ nm (.int (((j:Int) + 1) % 3))= .ok (.str y):=hy;have ml:=bg (i:=4) (j:=(j:Int)) (.inl (by decide));have md:=bS (i:=(j:Int) + 1) (j:=3) (by decide);have s3:∀f,kq 2 f->∃ρ2,aV (aO fs 58) t3 [some (.aQ ns),some nm,some sg,some (.lst (ao ms)),some (.int j),some (ofD f),some (.int w)] none= .ok (.next,ρ2,none)/\∃ms x4 x5 x6,ms.length<=(pre++[Dt.int j]).length/\(∀m∈ms,qF m)/\ρ2=[some (.aQ ns),some nm,some sg,some (.lst (ao ms)),x4,x5,x6]:=by
    intro f hf;by_cases hv:(0:Int) < v
    ·refine⟨_,oG (S1:=none) (by simp only[RX,q1,Kk hv]) (oH (ds:=ao ms) (d:= .tup [.str x,ofD f]) (S1:=none) rfl (by simp only[RX,hx]) (by simp[cV,jr,fO,oF]) (by rw[dZ];lia) rfl),ms++[.tup [.str x,f]],some (.int j),some (ofD f),some (.int w),by simp;lia,λm hm=>?_,?_⟩
     ·rcases Kd.mp hm with hm | hm
      ·exact hr m hm
      ·rw[Kp] at hm;subst hm;exact⟨x,f,rfl,hf⟩
     ·rw[mH];simp[ofD,ao]
    ·exact⟨_,la (S1:=none) (by simp only[RX,q1,Kg hv]) rfl,ms,some (.int j),some (ofD f),some (.int w),by simp;lia,hr,rfl⟩
   have s2:∀f,kq 2 f->∃ρ2,aV (aO fs 58) t2 [some (.aQ ns),some nm,some sg,some (.lst (ao ms)),some (.int j),some (ofD f),some (.int w)] none= .ok (.next,ρ2,none)/\∃ms x4 x5 x6,ms.length<=(pre++[Dt.int j]).length/\(∀m∈ms,qF m)/\ρ2=[some (.aQ ns),some nm,some sg,some (.lst (ao ms)),x4,x5,x6]:=by
    intro f hf;have ht:bR (aO fs 58) (.or (.cmp .Eq (.var 6) (.con (.int 2))) (.cmp .Eq (.var 6) (.con (.int 3)))) [some (.aQ ns),some nm,some sg,some (.lst (ao ms)),some (.int j),some (ofD f),some (.int w)] none= .ok (((w:Int)==2)||((w:Int)==3),none):=by simp only[RX];cases (w:Int)==2 <;> rfl
    cases hb:(((w:Int)==2)||((w:Int)==3)) with
    | true=>rw[hb] at ht;obtain⟨ρ2,k1,k2⟩:=s3 _ (uo x 1);exact⟨ρ2,oG ht (bC (d:=ofD (.tup [.tup [eA x,.int 1]])) (S1:=none) (by simp only[RX,hx];simp[eA,ofD,ao]) rfl k1),k2⟩
    | false=>rw[hb] at ht;obtain⟨ρ2,k1,k2⟩:=s3 f hf;exact⟨ρ2,la ht k1,k2⟩
   have s1:∀f,kq 2 f->∃ρ2,aV (aO fs 58) t1 [some (.aQ ns),some nm,some sg,some (.lst (ao ms)),some (.int j),some (ofD f),some (.int w)] none= .ok (.next,ρ2,none)/\∃ms x4 x5 x6,ms.length<=(pre++[Dt.int j]).length/\(∀m∈ms,qF m)/\ρ2=[some (.aQ ns),some nm,some sg,some (.lst (ao ms)),x4,x5,x6]:=by
    intro f hf;have ht:bR (aO fs 58) (.cmp .Eq (.var 6) (.con (.int 1))) [some (.aQ ns),some nm,some sg,some (.lst (ao ms)),some (.int j),some (ofD f),some (.int w)] none= .ok ((w:Int)==1,none):=by simp only[RX]
    cases hb:((w:Int)==1) with
    | true=>rw[hb] at ht;obtain⟨ρ2,k1,k2⟩:=s2 _ (uo y 1);exact⟨ρ2,oG ht (bC (d:=ofD (.tup [.tup [eA y,.int 1]])) (S1:=none) (by simp only[RX,md,Cv];simp[eA,ofD,ao]) rfl k1),k2⟩
    | false=>rw[hb] at ht;obtain⟨ρ2,k1,k2⟩:=s2 f hf;exact⟨ρ2,la ht k1,k2⟩
   have s0:∀f,kq 2 f->∃ρ2,aV (aO fs 58) t0 [some (.aQ ns),some nm,some sg,some (.lst (ao ms)),some (.int j),some (ofD f),some (.int w)] none= .ok (.next,ρ2,none)/\∃ms x4 x5 x6,ms.length<=(pre++[Dt.int j]).length/\(∀m∈ms,qF m)/\ρ2=[some (.aQ ns),some nm,some sg,some (.lst (ao ms)),x4,x5,x6]:=by
    intro f hf;have ht:bR (aO fs 58) (.cmp .Eq (.var 6) (.con (.int 0))) [some (.aQ ns),some nm,some sg,some (.lst (ao ms)),some (.int j),some (ofD f),some (.int w)] none= .ok ((w:Int)==0,none):=by simp only[RX]
    cases hb:((w:Int)==0) with
    | true=>rw[hb] at ht;obtain⟨ρ2,k1,k2⟩:=s1 _ (uo x 2);exact⟨ρ2,oG ht (bC (d:=ofD (.tup [.tup [eA x,.int 2]])) (S1:=none) (by simp only[RX,hx];simp[eA,ofD,ao]) rfl k1),k2⟩
    | false=>rw[hb] at ht;obtain⟨ρ2,k1,k2⟩:=s1 f hf;exact⟨ρ2,la ht k1,k2⟩
   obtain⟨ρ2,k1,k2⟩:=s0 _ f1;exact⟨[some (.aQ ns),some nm,some sg,some (.lst (ao ms)),some (.int j),x5,x6],ρ2,rfl,bC (d:= .tup (ao r1)) (S1:=none) (by simp only[RX,ml,m2]) rfl (bC (d:= .int w) (S1:=none) (by simp only[RX,q0]) rfl k1),k2⟩)
 obtain⟨ρ1,dX,ms,x4,x5,x6,vD,hr,rfl⟩:=loop;have FB:ms.length<=3:=by simpa [a6] using vD
 have hs:=(qI (BQ FB hr)).1;refine⟨cg ms,bj (body:=EV) rfl (by decide) rfl ?_,by rw[(je _).length_eq];exact FB,λw hw=>hr w (kb.mp hw)⟩;show fin (aV (aO fs 58) EV [some (.aQ ns),some nm,some sg,none,none,none,none] none)=_;refine iO (d:= .lst []) (S1:=none) rfl rfl (dg (ds:=a6 0 3) (S1:=none) (gh (n:=3) rfl (by lia)) rfl dX (aJ ?_));simp only[RX,hs]
theorem iE {f:Dt->Sx->R (List Dt×Sx)} {S:Sx}:∀{ds:List Dt},(∀x∈ds,∃(b:Bool) (y:Str),f x S= .ok (if b=true then[.str y] else[],S))->∃L:List Str,bE f ds S= .ok (L.map Dt.str,S)/\L.length<=ds.length
 | [],_=>⟨[],by simp[bE],by simp⟩
 | x::ds,h=>by
  obtain⟨b,y,h1⟩:=h x JX;obtain⟨L,k1,k2⟩:=iE λy hy=>h y (JV _ hy)
  cases b with
  | false=>exact⟨L,by rw[bE,h1,R.ai,k1,R.ai];simp,by simp;lia⟩
  | true=>exact⟨y::L,by rw[bE,h1,R.ai,k1,R.ai];simp,by simp;lia⟩
theorem D2 {w:Mx.D} (h:qF w):GK w:=by obtain⟨x,f,rfl,hf⟩:=h;have:=c0 hf;exact⟨x,f,rfl,by lia⟩
theorem A2 {W:List Mx.D} (h:∀w∈W,qF w):aO fs 59 9 [.tup (ao W),.tup (ao W)] none= .ok (.bl true,none):=
 qp (fs:=fs) (is:=9) rfl 59 (.tup (ao W)) (by simp[sm,oW]) (by
  have:=ec (n:=12) (ms:=W) λd hd=>by
   obtain⟨x,f,rfl,hf⟩:=h d hd;have:=c0 hf;simp[Mx.D.dep,Mx.D.bp]
   lia
  simp only[dp,nV];lia)
theorem lX:∀L:List Str,bw (L.map Dt.str) (L.map Dt.str)=true
 | []=>by simp[bw]
 | x::L=>by simp[bw,bt,lX L]
theorem wV (L:List Str):ck .NotEq (.lst (L.map Dt.str)) (.lst (L.map Dt.str))= .ok false:=by show af (jz _ _) (.ok (!bt _ _))=_;rw[show jz (.lst (L.map Dt.str)) (.lst (L.map Dt.str))=true by simp[jz,pl,i9,dp,iK],guard_true,show bt (.lst (L.map Dt.str)) (.lst (L.map Dt.str))=true by simp[bt,lX]];rfl
noncomputable def lb:Ts:=(.cons (.ifs (.and (.cmp .In (.var 3) (.var 4)) (.cmp .NotEq (.var 6) (.tup (.cons (.tup (.cons (.tup (.cons (.con (.str "any")) (.cons (.var 3) .nil))) (.cons (.con (.int 1)) .nil))) .nil)))) (.cons (.app 5 (.tup (.cons (.var 3) (.cons (.var 6) .nil)))) .nil) .nil) .nil)
noncomputable def tail:Ts:=(.cons (.asgM 5 (.lst .nil)) (.cons (.fr (.tp [3,6]) (.seq (.var 2)) lb) (.cons (.asg 7 (.bi .list (.cons (.var 4) .nil))) (.cons (.asg 8 (.call 1 (.cons (.var 2) (.cons (.var 7) .nil)) [])) (.cons (.ifs (.or (.nt (.call 9 (.cons (.var 8) (.cons (.bi .tuple (.cons (.mvr 5) .nil)) .nil)) [])) (.cmp .NotEq (.var 7) (.var 4))) (.cons (.ret (.con (.bl false))) .nil) .nil) (.cons (.ret (.and (.call 9 (.cons (.call 1 (.cons (.var 2) (.cons (.bi .tuple (.cons (.var 4) .nil)) .nil)) []) (.cons (.bi .tuple (.cons (.mvr 5) .nil)) .nil)) []) (.call 9 (.cons (.call 1 (.cons (.var 8) (.cons (.var 4) .nil)) []) (.cons (.bi .tuple (.cons (.mvr 5) .nil)) .nil)) []))) .nil))))))
theorem qx {ns:List Int} {x1:Option Dt} {W:List Mx.D} {L:List Str} (hW:∀w∈W,qF w) (hl:W.length<=3):
  fin (aV (aO fs 59) tail [some (.aQ ns),x1,some (.tup (ao W)),none,some (.lst (L.map Dt.str)),none,none,none,none] none)= .ok (.bl true,none):=by
 have eQ:lim=1000000:=rfl;have c1:=nT (n:=59) (by decide) (nm:= .lst (L.map Dt.str)) (.inl rfl) (λw hw=>D2 (hW w hw)) hl;have c2:=nT (n:=59) (by decide) (nm:= .tup (L.map Dt.str)) (.inr rfl) (λw hw=>D2 (hW w hw)) hl;have hD:∀w∈W.filter (pW L),qF w:=λw hw=>hW w (List.mem_filter.mp hw).1
 have B1:(W.filter (pW L)).length<=3:=J1 (List.length_filter_le _ _) hl;have c3:=nT (n:=59) (by decide) (nm:= .lst (L.map Dt.str)) (.inl rfl) (λw hw=>D2 (hD w hw)) B1;rw[show (W.filter (pW L)).filter (pW L)=W.filter (pW L) by simp[List.filter_filter]] at c3;have s:=A2 hD;have ne:=wV L;have loop:=c6 (S:=none) (tg:= .tp [3,6]) (ds:=ao W) (ρ:=[some (.aQ ns),x1,some (.tup (ao W)),none,some (.lst (L.map Dt.str)),some (.lst []),none,none,none]) (body:=aV (aO fs 59) lb)
  (λpre ρ=>∃x3 x6,ρ=[some (.aQ ns),x1,some (.tup (ao W)),x3,some (.lst (L.map Dt.str)),some (.lst (pre.filter (pT L))),x6,none,none]) ⟨none,none,rfl⟩ (by
   rintro pre d post ρ e ⟨x3,x6,rfl⟩;have hd:d∈ao W:=by rw[e];simp
   have nu:pre.length<=3:=by
    have:=congrArg List.length e;rw[dZ] at this;simp at this
    lia
   obtain⟨w,hw,rfl⟩:=my hd;obtain⟨x,f,rfl,hf⟩:=D2 (hW w hw);have rY:=yl (L:=L) (nm:= .lst (L.map Dt.str)) (.inl rfl) x;have nr:=pD (a:=f) (b:=fJ x) (by lia);have hj:ofD (fJ x)= .tup [.tup [.tup [.str "any",.str x],.int 1]]:=by simp[fJ,ofD,ao]
   rw[hj] at nr;have ep:pT L (ofD (.tup [.str x,f]))=(inD (.str x) (L.map Dt.str)&& !decide (f=fJ x)):=by unfold pT;rw[eY];rfl
   have ht:bR (aO fs 59) (.and (.cmp .In (.var 3) (.var 4)) (.cmp .NotEq (.var 6) (.tup (.cons (.tup (.cons (.tup (.cons (.con (.str "any")) (.cons (.var 3) .nil))) (.cons (.con (.int 1)) .nil))) .nil)))) [some (.aQ ns),x1,some (.tup (ao W)),some (.str x),some (.lst (L.map Dt.str)),some (.lst (pre.filter (pT L))),some (ofD f),none,none] none= .ok (pT L (ofD (.tup [.str x,f])),none):=by
    rw[ep];cases hb:inD (.str x) (L.map Dt.str) with
    | false=>rw[hb] at rY;simp only[RX,rY,Bool.false_and];rfl
    | true=>rw[hb] at rY;simp only[RX,rY,nr,Bool.true_and,if_true]
   refine⟨[some (.aQ ns),x1,some (.tup (ao W)),some (.str x),some (.lst (L.map Dt.str)),some (.lst (pre.filter (pT L))),some (ofD f),none,none],?_⟩;cases hb:pT L (ofD (.tup [.str x,f])) with
   | true=>rw[hb] at ht;refine⟨_,by simp[ofD,ao,cJ,d5],oG ht (oH (ds:=pre.filter (pT L)) (d:=ofD (.tup [.str x,f])) (S1:=none) rfl (by simp only[RX];simp[ofD,ao]) (by simp[cV,oF]) (by have:=List.length_filter_le (pT L) pre;lia) rfl),some (.str x),some (ofD f),?_⟩;rw[List.filter_append,List.filter_cons,if_pos hb];rfl
   | false=>
    rw[hb] at ht;refine⟨_,by simp[ofD,ao,cJ,d5],la ht rfl,some (.str x),some (ofD f),?_⟩;rw[List.filter_append,List.filter_cons,if_neg (by simp[hb])];simp)
 obtain⟨ρ1,dX,x3,x6,rfl⟩:=loop;rw[zi] at dX;refine iO (d:= .lst []) (S1:=none) rfl rfl (dg (ds:=ao W) (S1:=none) (tY (d:= .tup (ao W)) (by simp only[RX]) rfl) rfl dX ?_);refine aW (d:= .lst (L.map Dt.str)) (S1:=none) (by simp only[RX]) rfl (aW (d:= .tup (ao (W.filter (pW L)))) (S1:=none) (by simp only[RX,c1]) rfl (dW (S1:=none) (by simp only[RX,s,ne];rfl) (aJ ?_)));simp only[List.set_cons_succ,List.set_cons_zero,RX,c2,c3,s]
 try rfl
noncomputable def xX:C:=(.comp [none,none,none,some 0] (.zipR (.var 1) (.con (.int 3))) (.tp [1,2]) (.cons (.cmp .Gt (.call 3 (.cons (.var 3) (.cons (.bin .Add (.con (.int 20)) (.var 2)) (.cons (.con (.int 3)) .nil))) []) (.con (.int 0))) .nil) (.var 1))
theorem xH {ns:List Int} {a b c:Str} {W:List Mx.D}:∃L:List Str,ev (aO fs 59) xX [some (.aQ ns),some (.lst [.str a,.str b,.str c]),some (.tup (ao W)),none,none,none,none,none,none] none= .ok (.lst (L.map Dt.str),none)/\L.length<=3:=by
 have eQ:lim=1000000:=rfl;have P:=λ(k many:Nat) (h1:k < 1000000) (h2:0 < many)=>fS (fs:=fs) jU (n:=59) (by decide) (ns:=ns) h1 h2
 have one:∀(x:Str) (j:Nat),j < 3->∃(b:Bool) (y:Str),bW (.tp [1,2]) (cO (aO fs 59) (.cons (.cmp .Gt (.call 3 (.cons (.var 3) (.cons (.bin .Add (.con (.int 20)) (.var 2)) (.cons (.con (.int 3)) .nil))) []) (.con (.int 0))) .nil)) (eF (aO fs 59) (.var 1)) [none,none,none,some (.aQ ns)] (.tup [.str x,.int j]) none= .ok (if b=true then[.str y] else[],none):=by intro x j hj;have q:aO fs 59 3 [.aQ ns,.int (20 + (j:Int)),.int 3] none= .ok (.int (aY ns (20 + j) 3),none):=P (20 + j) 3 (by lia) (by decide);exact⟨decide ((0:Int) < aY ns (20 + j) 3),x,turn_if (ρ1:=[none,some (.str x),some (.int j),some (.aQ ns)]) rfl (by simp only[RX,q]) λ_=>⟨rfl,rfl⟩⟩
 obtain⟨L,k1,k2⟩:=iE (S:=none) (ds:=[.tup [.str a,.int (0:Nat)],.tup [.str b,.int (1:Nat)],.tup [.str c,.int (2:Nat)]]) (f:=bW (.tp [1,2]) (cO (aO fs 59) (.cons (.cmp .Gt (.call 3 (.cons (.var 3) (.cons (.bin .Add (.con (.int 20)) (.var 2)) (.cons (.con (.int 3)) .nil))) []) (.con (.int 0))) .nil)) (eF (aO fs 59) (.var 1)) [none,none,none,some (.aQ ns)]) (by
  intro x hx;simp only[J3,J4,or_false] at hx;rcases hx with rfl | rfl | rfl
  ·exact one a 0 (by decide)
  ·exact one b 1 (by decide)
  ·exact one c 2 (by decide))
 exact⟨L,kN (ds:=[.tup [.str a,.int (0:Nat)],.tup [.str b,.int (1:Nat)],.tup [.str c,.int (2:Nat)]]) (S1:=none) rfl (by rw[eQ];simp) rfl k1,k2⟩
noncomputable def Jp:Ts:=(.cons (.ifs (.cmp .Eq (.call 3 (.cons (.var 0) (.cons (.con (.int 3)) (.cons (.con (.int 8)) .nil))) []) (.con (.int 0))) (.cons (.asg 4 (.lst .nil)) .nil) .nil) tail)
theorem law_true:∀ns:List Int,ns.length<=63->∃S,aO fs 60 11 [.aQ ns] none= .ok (.bl true,S):=λns _=>by
 refine⟨none,bj (body:=EW) rfl (by decide) rfl ?_⟩;show fin (aV (aO fs 59) EW [some (.aQ ns),none,none,none,none,none,none,none,none] none)=_;have eQ:lim=1000000:=rfl;obtain⟨⟨a,b,c,e1⟩,_⟩:=p9 59 (by decide) ns 0 (by decide);obtain⟨_,a',b',c',e2⟩:=p9 59 (by decide) ns 7 (by decide);obtain⟨W,hw,hl,hW⟩:=Bd ns a b c a' b' c';have P:=λ(k many:Nat) (h1:k < 1000000) (h2:0 < many)=>fS (fs:=fs) jU (n:=59) (by decide) (ns:=ns) h1 h2
 have p1:=P 2 2 (by decide) (by decide);have p2:=P 3 8 (by decide) (by decide);generalize aY ns 2 2=u at p1;generalize aY ns 3 8=v at p2;have q1:aO fs 59 3 [.aQ ns,.int 2,.int 2] none= .ok (.int u,none):=p1;have q2:aO fs 59 3 [.aQ ns,.int 3,.int 8] none= .ok (.int v,none):=p2;have ze:aO fs 59 5 [.aQ ns,.int 0] none= .ok (.lst [.str a,.str b,.str c],none):=e1;have vt:aO fs 59 6 [.aQ ns,.int 7] none= .ok (.lst [.str a',.str b',.str c'],none):=e2;obtain⟨L,hs,hL⟩:=xH (ns:=ns) (a:=a) (b:=b) (c:=c) (W:=W);have Ft:oI .Add (.lst (L.map Dt.str)) (.lst [.str "qqqqqq"])= .ok (.lst ((L++[("qqqqqq":Str)]).map Dt.str)):=by show af (decide ((L.map Dt.str).length + 1<=lim)) _=_;rw[Kk (by rw[JZ];lia),guard_true,Kz];rfl
 have t3:∀M:List Str,fin (aV (aO fs 59) Jp [some (.aQ ns),some (.lst [.str a,.str b,.str c]),some (.tup (ao W)),none,some (.lst (M.map Dt.str)),none,none,none,none] none)= .ok (.bl true,none):=by
  intro M;cases hv:((v:Int)==0) with
  | true=>exact iN (S1:=none) (by simp only[RX,q2,hv]) (aW (d:= .lst (([]:List Str).map Dt.str)) (S1:=none) rfl rfl (qx hW hl))
  | false=>exact dW (S1:=none) (by simp only[RX,q2,hv]) (qx hW hl)
 refine aW (d:= .lst [.str a,.str b,.str c]) (S1:=none) (by simp only[RX,ze]) rfl (aW (d:= .tup (ao W)) (S1:=none) (by simp only[RX,vt,hw]) rfl (aW (d:= .lst ((L++[("qqqqqq":Str)]).map Dt.str)) (S1:=none) ?_ rfl ?_))
 ·show (ev (aO fs 59) xX [some (.aQ ns),some (.lst [.str a,.str b,.str c]),some (.tup (ao W)),none,none,none,none,none,none] none).bind _=_;rw[hs];simp only[RX,Ft]
 cases hu:((u:Int)==0) with
 | true=>refine iN (S1:=none) (by simp only[RX,q1,hu]) (aW (d:= .lst ((L++[("qqqqqq":Str)]).reverse.map Dt.str)) (S1:=none) (by simp only[RX];rw[List.map_reverse];rfl) rfl (t3 _))
 | false=>exact dW (S1:=none) (by simp only[RX,q1,hu]) (t3 _)
end K33
end
section
namespace PySem.W.Fast
theorem tw13473556892088144380:True:=⟨⟩
theorem tw13409367367631073606:True:=⟨⟩
theorem tw9968427112061615233:True:=⟨⟩
theorem tw6220781706567646269:True:=⟨⟩
theorem tw762194607060594250:True:=⟨⟩
theorem tw11860491978375581795:True:=⟨⟩
theorem tw7548584058316725104:True:=⟨⟩
theorem tw18103384512849298838:True:=⟨⟩
theorem tw13979469925474602846:True:=⟨⟩
theorem tw5383751416398852855:True:=⟨⟩
theorem tw10299289678678199170:True:=⟨⟩
theorem tw4004807935268834631:True:=⟨⟩
theorem tw6331448686981646373:True:=⟨⟩
theorem tw16569385348417209393:True:=⟨⟩
theorem tw17127112351811934915:True:=⟨⟩
theorem tw18159740866278660504:True:=⟨⟩
theorem tw14746231982266392184:True:=⟨⟩
theorem tw11118145703257206878:True:=⟨⟩
theorem tw16000350857412304826:True:=⟨⟩
theorem tw11641725451490730663:True:=⟨⟩
theorem tw6718602834892859656:True:=⟨⟩
theorem tw13079146189188871053:True:=⟨⟩
theorem tw8216857434556650265:True:=⟨⟩
theorem tw470798800697881465:True:=⟨⟩
theorem tw5410708984443401088:True:=⟨⟩
theorem tw17644308857223958967:True:=⟨⟩
theorem tw7590223420175200721:True:=⟨⟩
theorem tw6820217484188039534:True:=⟨⟩
theorem tw6575137960229070071:True:=⟨⟩
theorem tw9254787828828123129:True:=⟨⟩
theorem tw7723272049093617801:True:=⟨⟩
theorem tw2959864036508490784:True:=⟨⟩
theorem tw14654427319385693588:True:=⟨⟩
theorem tw7635155760715021939:True:=⟨⟩
theorem tw135001149649441919:True:=⟨⟩
theorem tw5023767773331697719:True:=⟨⟩
theorem tw17536300374521868053:True:=⟨⟩
theorem tw490155676507134735:True:=⟨⟩
theorem tw10915211597638769772:True:=⟨⟩
theorem tw6508833781301588999:True:=⟨⟩
theorem tw5338762986811164842:True:=⟨⟩
theorem tw15333192004982486519:True:=⟨⟩
theorem tw7460718856631539843:True:=⟨⟩
theorem tw17368602067648409265:True:=⟨⟩
theorem tw12542334452582924697:True:=⟨⟩
theorem tw14187835356940817539:True:=⟨⟩
theorem tw18333420788515777321:True:=⟨⟩
theorem tw14862920178745708732:True:=⟨⟩
theorem tw8181591202322226597:True:=⟨⟩
theorem tw16927981509845013988:True:=⟨⟩
theorem tw6482582123198655848:True:=⟨⟩
theorem tw11412999496343929224:True:=⟨⟩
theorem tw5444364395969797277:True:=⟨⟩
theorem tw8969727508449641884:True:=⟨⟩
theorem tw7319220385091798012:True:=⟨⟩
theorem tw4610263783223856006:True:=⟨⟩
theorem tw5985549760570286888:True:=⟨⟩
theorem tw16097765539222095306:True:=⟨⟩
theorem tw9885537944325679158:True:=⟨⟩
theorem tw9794949134986780148:True:=⟨⟩
theorem tw9269701424328956215:True:=⟨⟩
theorem tw9243760170600289593:True:=⟨⟩
theorem tw9165868401546930196:True:=⟨⟩
theorem tw7470588793633492569:True:=⟨⟩
theorem tw5219993397701643728:True:=⟨⟩
theorem tw481034829690340032:True:=⟨⟩
theorem tw4707303152190645473:True:=⟨⟩
theorem tw3057172017664867690:True:=⟨⟩
theorem tw2102583379510218688:True:=⟨⟩
theorem tw17379370733255975017:True:=⟨⟩
theorem tw16915411645115424898:True:=⟨⟩
theorem tw16524198363300334460:True:=⟨⟩
theorem tw16422166697208521360:True:=⟨⟩
theorem tw1640036700135177640:True:=⟨⟩
theorem tw15784488566880940222:True:=⟨⟩
theorem tw15302985488654411912:True:=⟨⟩
theorem tw14560315605320929967:True:=⟨⟩
theorem tw14027680577541524672:True:=⟨⟩
theorem tw12042489570666874487:True:=⟨⟩
theorem tw11293533269411440522:True:=⟨⟩
end PySem.W.Fast
open PySem PySem.W PyProof.Rows Rx
set_option maxHeartbeats 0 in
theorem PySem.Challenge.cw_mixform_k33_cut_holds : PySem.Challenge.rw_mixform_k33_cut.Holds := by
 w_on;o_law;k_head;(case hw=>w_witness2)
 k_fill
 refine walkR (k:=60) (l:=PySem.Challenge.rw_mixform_k33_cut) rfl rfl ⟨rfl,by decide,by decide⟩ (λw h Y=>kIn_of Y) ?F
 case F=>
  intro w mg fa h KX G hmg;refine law_mk (rs:=K33.rows) (cons:=K33.cons) (bls:=K33.bls) (xs:=K33.xs) (L:=11) (n:=59) KX G hmg rfl K33.hok K33.hfs (λs v _ _ _ _ _ _=> .of_eq rfl) K33.law_true ?B ?C ?D ?E
  case B=>exact⟨by k_is,by k_is,by k_is,by k_is,by k_is,by k_is,by k_is,by k_is,by k_is,by k_is,by k_is,by k_is,trivial⟩
  case C=>exact trivial
  case D=>
   refine⟨?_,?_,?_,?_,?_,?_,?_,?_,?_,?_,?_,?_,trivial⟩
   all_goals exact⟨_,_,_,_,_,_,_,_,_,_,_,by k_is,by k_is,by k_is,by k_is,λ_=>rfl,binds0 (by repeat first | exact len0 rfl | refine lenS λ_=>?_)⟩
  case E=>exact trivial
#print axioms PySem.Challenge.cw_mixform_k33_cut_holds
end