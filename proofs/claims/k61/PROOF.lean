import PyProof.Rows.All
import Wide.All
import OpenK.AllK
import Wide.FinOn
import Lean
import PyProof.EqAt
import PyProof.EqKinds
import PyProof.TupleCall
import PyProof.NeKinds
import PyProof.ExcBaseAll.ValueError
import KE.KTryMore
import PyProof.Rows.CallKwBuiltin
import PySem.Challenge.RW_mixform_k61_partings
set_option Elab.async false
set_option linter.all false
set_option maxRecDepth 100000
set_option maxHeartbeats 4000000
set_option bootstrap.genMatcherCode false
section
open PySem PySem.W PySem.Spec PyProof.Rows
def Jv:=@wpAny_bind
def Jw:=@Option.bind_eq_some_iff
def Jx:=@Heap.get?_push_of_some
def Jy:=@wpAny_pure
def Jz:=@Bool.and_eq_true
def JA:=@List.size_toArray
def JB:=@of_decide_eq_true
def JC:=@List.getElem?_eq_some_iff
def JD:=@List.mem_cons_of_mem
def JE:=@Nat.le_refl
def JF:=@List.mem_cons_self
def JG:=@Heap.get?_push_size
def JH:=@List.length_map
def JI:=@Heap.lt_size
def JJ:=@Nat.le_trans
def JK:=@List.mem_cons
def JL:=@List.not_mem_nil
def JM:=@List.append_assoc
def JN:=@Option.map_eq_some_iff
def JO:=@List.length_append
def JP:=@List.getElem?_set_ne
def JQ:=@List.length_cons
def JR:=@List.getElem?_map
def JS:=@Array.length_toList
def JT:=@Nat.lt_of_lt_of_le
def JU:=@List.mem_append
def JV:=@eq_of_beq
def JW:=@List.getElem?_eq_getElem
def JX:=@decide_eq_false
def JY:=@List.lookup_cons
def JZ:=@KeyOrd.kle_trans
def J0:=@Heap.get?_update_other
def J1:=@decide_eq_true
def J3:=@Heap.size_push
def J4:=@Nat.ne_of_lt
def J5:=@List.mem_append_right
def J6:=@wpAny_setField_rec
def J7:=@List.mem_singleton
def J8:=@List.mem_map
def J9:=@List.all_eq_true
def Ka:=@List.any_eq_true
def Kb:=@Int.emod_nonneg
def Kc:=@Int.emod_lt_of_pos
def Kd:=@List.append_nil
def Ke:=@Bool.or_eq_true
def Kf:=@List.getElem?_append_left
def Kg:=@List.getElem?_append_right
def Kh:=@List.map_cons
def Ki:=@List.map_append
def Kj:=@List.getElem?_set_self
def Kk:=@List.mem_range
end
section
namespace L2
open PySem PySem.Spec PyProof.Rows
noncomputable abbrev Key:=Sum Int Str
noncomputable def xM:Key->Value->Bool
 | .inl k,v=>Value.isInt k v
 | .inr x,v=>Value.isStrOf x v
noncomputable def FY (w:World):Key->Int
 | .inl k=>hashInt k
 | .inr x=>hashStr w x
theorem aU:∀{k:Key} {v:Value},xM k v=true->(∃i t,k=Sum.inl i/\v=Value.int i t)\/(∃x t,k=Sum.inr x/\v=Value.str x t)
 | .inl i,v,h=>by obtain⟨t,e⟩:=Value.isInt_shape (k:=i) (v:=v) h;exact .inl ⟨i,t,rfl,e⟩
 | .inr x,v,h=>by obtain⟨t,e⟩:=Value.isStrOf_shape (x:=x) (v:=v) h;exact .inr ⟨x,t,rfl,e⟩
theorem yJ (a b:Int):decide ((Sum.inl a:Key)=Sum.inl b)=(a==b):=by grind
theorem yE (a b:Str):decide ((Sum.inr a:Key)=Sum.inr b)=decide (a=b):=by grind
theorem ye (a:Int) (b:Str):decide ((Sum.inl a:Key)=Sum.inr b)=false:=JX (λq=>nomatch q)
theorem An (a:Str) (b:Int):decide ((Sum.inr a:Key)=Sum.inl b)=false:=JX (λq=>nomatch q)
noncomputable def kE (prog:Program) (w:World):PySem.KeyKind prog w Key where
 is:=xM
 hash:=FY w
 inj:=λv a b ha hb=>by
  rcases aU ha with ⟨i,t,rfl,rfl⟩ | ⟨x,t,rfl,rfl⟩
  ·rcases aU hb with ⟨j,u,rfl,e⟩ | ⟨y,u,rfl,e⟩
   ·injection e with e1 _;rw[e1]
   ·exact nomatch e
  ·rcases aU hb with ⟨j,u,rfl,e⟩ | ⟨y,u,rfl,e⟩
   ·exact nomatch e
   ·injection e with e1 _;rw[e1]
 byValue:=λk v h=>by rcases aU h with ⟨i,t,rfl,rfl⟩ | ⟨x,t,rfl,rfl⟩ <;> rfl
 pyHash:=λhv h=>by
  rcases aU hv with ⟨i,t,rfl,rfl⟩ | ⟨x,t,rfl,rfl⟩
  ·exact wpAny_pyHash_int h
  ·exact wpAny_pyHash_str h
 eqBool:=λhu hv h=>by
  rcases aU hu with ⟨i,t,rfl,rfl⟩ | ⟨x,t,rfl,rfl⟩
  ·rcases aU hv with ⟨j,u,rfl,rfl⟩ | ⟨y,u,rfl,rfl⟩
   ·rw[yJ] at h;exact wpAny_eqBool_int h
   ·rw[ye] at h;exact SeqAt.EqAt.int_str i t y u _ _ _ _ h
  ·rcases aU hv with ⟨j,u,rfl,rfl⟩ | ⟨y,u,rfl,rfl⟩
   ·rw[An] at h;exact SeqAt.EqAt.str_int x t j u _ _ _ _ h
   ·rw[yE] at h;exact wpAny_eqBool_str h
 «strs»:=λk x t v h=>by
  rcases aU h with ⟨i,u,rfl,e⟩ | ⟨y,u,rfl,e⟩
  ·exact nomatch e
  ·injection e with e1 _;subst e1;cases v <;> rfl
end L2
namespace L2
open PySem PySem.Spec PyProof.Rows
inductive V where
 | a6 | bl (b:Bool) | int (i:Int) | str (x:Str) | AK (b:Array UInt8) | wL (b:UInt64) | ref (a:Addr) | ty (n:String)
 deriving DecidableEq
noncomputable def RelV:V->Value->Prop
 | .a6,u=>u=Value.none
 | .bl b,u=>u=Value.bool b
 | .int i,u=>∃t,u=Value.int i t
 | .str x,u=>∃t,u=Value.str x t
 | .AK b,u=>∃t,u=Value.bytes b t
 | .wL b,u=>∃t,u=Value.float b t
 | .ref a,u=>u=Value.ref a
 | .ty n,u=>u=Value.type n
noncomputable abbrev au:List V->List Value->Prop:=Paired RelV
theorem au.length {xs:List V} {us:List Value} (r:au xs us):xs.length=us.length:=Paired.length r
theorem au.get:∀{xs:List V} {us:List Value} {i:Nat} {x:V},au xs us->xs[i]?=some x->∃u,us[i]?=some u/\RelV x u
 | _,_,_,_,.nil,e=>by simp at e
 | _,_,0,_,.cons r _,e=>by simp at e;subst e;exact⟨_,rfl,r⟩
 | _,_,i + 1,x,.cons _ t,e=>by obtain⟨u,h1,h2⟩:=au.get (i:=i) (x:=x) t (by simpa using e);exact⟨u,by simpa using h1,h2⟩
theorem au.set {x:V} {u:Value} (r:RelV x u):∀{xs:List V} {us:List Value} (i:Nat),au xs us->au (xs.set i x) (us.set i u)
 | _,_,_,.nil=> .nil
 | _,_,0,.cons _ t=> .cons r t
 | _,_,i + 1,.cons q t=> .cons q (au.set r i t)
theorem au.append:∀{xs ys:List V} {us ws:List Value},au xs us->au ys ws->au (xs++ys) (us++ws)
 | _,_,_,_,.nil,s=>s
 | _,_,_,_,.cons r t,s=> .cons r (au.append t s)
theorem au.take:∀{xs:List V} {us:List Value} (n:Nat),au xs us->au (xs.take n) (us.take n)
 | _,_,0,_=> .nil
 | _,_,_ + 1,.nil=> .nil
 | _,_,n + 1,.cons r t=> .cons r (au.take n t)
theorem au.drop:∀{xs:List V} {us:List Value} (n:Nat),au xs us->au (xs.drop n) (us.drop n)
 | _,_,0,r=>r
 | _,_,_ + 1,.nil=> .nil
 | _,_,n + 1,.cons _ t=>au.drop n t
noncomputable def yN:Option V->Option Value->Prop
 | some v,some u=>RelV v u
 | none,none=>True
 | _,_=>False
noncomputable def KV {κ:Type}:List (κ×V)->List (κ×Value)->Prop:=Paired λ(p:κ×V) (q:κ×Value)=>p.1=q.1/\RelV p.2 q.2
noncomputable def kV:Key->V
 | .inl i=> .int i
 | .inr x=> .str x
inductive HO where
 | lst (xs:List V)
 | tup (xs:List V)
 | dK (dJ:List (Key×V)) | dT (dJ:List (List Key×V))
 | set (S:Int->Bool) (n:Nat)
 | ins (C dx:Addr) (fs:List (Str×V))
 | own (x:Addr)
 | xd (fs:List (Str×V))
 | met (f x:Addr)
 | Ew (lo hi:Int)
 | qh (o:Obj) (u:HO)
 | rH (ps:Array Value)
 | ext (φ:Heap->Prop)
noncomputable abbrev Hp:=Addr->Option HO
noncomputable def upd (H:Hp) (a:Addr) (o:HO):Hp:=λb=>if b=a then some o else H b
theorem aA {H:Hp} {a:Addr} {o:HO}:upd H a o a=some o:=by unfold upd;rw[if_pos rfl]
theorem ar {H:Hp} {a b:Addr} {o:HO} (h:b≠a):upd H a o b=H b:=by unfold upd;rw[if_neg h]
theorem az {H:Hp} {a b:Addr} {o:HO} (h:H a=some o) (h':H b=none):a≠b:=by intro e;subst e;rw[h] at h';cases h'
section
variable (P:Program) (w:World)
noncomputable def bB (H:Hp) (h:Heap) (a:Addr):HO->Prop
 | .lst xs=>xs.length<=sizeLine/\∃(its:List Value) (n:Nat),au xs its/\h.get? a=some {cls:= .type "list",data:= .seq its.toArray n}
 | .tup xs=>xs.length<=sizeLine/\∃its:List Value,au xs its/\IsTup h a its.toArray
 | .dK dJ=>dJ.length<=sizeLine/\(a==sysModules)=false/\∃vs,KV dJ vs/\h.DictOf (kE P w) a vs
 | .dT dJ=>dJ.length<=sizeLine/\(a==sysModules)=false/\∃xs:List (List Key×Addr×Value),
   Paired (λ(p:List Key×V) (q:List Key×Addr×Value)=>p.1=q.1/\H q.2.1=some (.tup (p.1.map kV))/\RelV p.2 q.2.2) dJ xs/\
   ∃o es ep,h.get? a=some o/\o.ExactDict/\o.data= .dict es ep/\es.toList=xs.map (entryOfKey (tupleKind (kE P w)))/\(xs.map (·.1)).Nodup
 | .set S n=>h.SetOf (intKind P w) a S n
 | .ins C dx fs=>H dx=some (.own a)/\fs.length<=1000/\dx≠a/\h.get? a=some (PySem.W.instObj C dx)/\
   ∃mA,h.Ns1 dx mA/\(∀f,yN (fs.lookup f) (mA f))/\PySem.Within mA (fs.map (·.1))
 | .own _=>∃o,h.get? a=some o
 | .xd fs=>∃mA,h.Ns1 a mA/\∀f,yN (fs.lookup f) (mA f)
 | .Ew lo hi=>∃t u v,h.get? a=some {cls:= .type "range",data:= .fields #[.int lo t,.int hi u,.int 1 v]}
 | .qh o u=>h.get? a=some o/\bB H h a u
 | .rH ps=>h.get? a=some {cls:= .none,data:= .fields ps}
 | .met f x=>h.get? a=some (PySem.W.methodObj (.ref f) (.ref x))
 | .ext φ=>φ h/\(∃o,h.get? a=some o)/\∀h1 h2:Heap,φ h1->(∀o,h1.get? a=some o->h2.get? a=some o)->φ h2
noncomputable def dm (H:Hp) (h:Heap):Prop:=∀a o,H a=some o->bB P w H h a o
end
section
variable {P:Program} {w:World} {H H':Hp} {h h':Heap} {a:Addr} {o:HO}
theorem bB.lt (x:bB P w H h a o):a < h.objs.size:=by
 cases o with
 | lst xs=>obtain⟨_,_,_,_,e⟩:=x;exact JI e
 | tup xs=>obtain⟨_,_,_,p⟩:=x;exact p.lt
 | dK dJ=>obtain⟨_,_,_,_,o,_,_,e,_⟩:=x;exact JI e
 | dT dJ=>obtain⟨_,_,_,_,o,_,_,e,_⟩:=x;exact JI e
 | set S n=>obtain⟨o,_,_,_,e,_⟩:=x;exact JI e
 | ins C dx fs=>obtain⟨_,_,_,e,_⟩:=x;exact JI e
 | own y=>obtain⟨_,e⟩:=x;exact JI e
 | xd fs=>obtain⟨_,⟨_,_,_,e,_⟩,_⟩:=x;exact JI e
 | Ew lo hi=>obtain⟨_,_,_,e⟩:=x;exact JI e
 | qh ob u=>obtain⟨e,_⟩:=x;exact JI e
 | rH ps=>exact JI (show h.get? a=some _ from x)
 | met f y=>exact JI (show h.get? a=some _ from x)
 | ext φ=>obtain⟨_,⟨_,e⟩,_⟩:=x;exact JI e
theorem Paired.Dj {α β:Type} {F G:α->β->Prop}:∀{l₁:List α} {l₂:List β},Paired F l₁ l₂->(∀a b,F a b->G a b)->Paired G l₁ l₂
 | _,_,.nil,_=> .nil
 | _,_,.cons r t,f=> .cons (f _ _ r) (Paired.Dj t f)
theorem bB.iY (x:bB P w H h a o) (k:∀b u,(b=a\/H b=some (.own a))->h.get? b=some u->h'.get? b=some u)
  (ho:∀b,H b=some (.own a)->H' b=some (.own a)) (ht:∀b xs,H b=some (.tup xs)->H' b=some (.tup xs)):bB P w H' h' a o:=by
 induction o with
 | lst xs=>obtain⟨z,its,n,r,e⟩:=x;exact⟨z,its,n,r,k _ _ (.inl rfl) e⟩
 | tup xs=>obtain⟨z,its,r,ob,e,c⟩:=x;exact⟨z,its,r,ob,k _ _ (.inl rfl) e,c⟩
 | dK dJ=>obtain⟨z,y,vs,r,ob,es,ep,e,c⟩:=x;exact⟨z,y,vs,r,ob,es,ep,k _ _ (.inl rfl) e,c⟩
 | dT dJ=>obtain⟨z,y,xs,r,ob,es,ep,e,c⟩:=x;exact⟨z,y,xs,Paired.Dj r λp q z=>⟨z.1,ht _ _ z.2.1,z.2.2⟩,ob,es,ep,k _ _ (.inl rfl) e,c⟩
 | set S n=>obtain⟨ob,es,ep,t,e,c⟩:=x;exact⟨ob,es,ep,t,k _ _ (.inl rfl) e,c⟩
 | ins C dx fs=>obtain⟨d,z,ne,e,mA,⟨od,es,ep,e2,c⟩,r⟩:=x;exact⟨ho _ d,z,ne,k _ _ (.inl rfl) e,mA,⟨od,es,ep,k _ _ (.inr d) e2,c⟩,r⟩
 | own y=>obtain⟨ob,e⟩:=x;exact⟨ob,k _ _ (.inl rfl) e⟩
 | xd fs=>obtain⟨mA,⟨od,es,ep,e,c⟩,r⟩:=x;exact⟨mA,⟨od,es,ep,k _ _ (.inl rfl) e,c⟩,r⟩
 | Ew lo hi=>obtain⟨t,u,v,e⟩:=x;exact⟨t,u,v,k _ _ (.inl rfl) e⟩
 | qh ob u ih=>obtain⟨e,q⟩:=x;exact⟨k _ _ (.inl rfl) e,ih q⟩
 | rH ps=>have e:h.get? a=some {cls:= .none,data:= .fields ps}:=x;show h'.get? a=some {cls:= .none,data:= .fields ps};exact k a _ (.inl rfl) e
 | met f y=>have e:h.get? a=some (PySem.W.methodObj (.ref f) (.ref y)):=x;show h'.get? a=some (PySem.W.methodObj (.ref f) (.ref y));exact k a _ (.inl rfl) e
 | ext φ=>obtain⟨p,⟨o,e⟩,st⟩:=x;exact⟨st _ _ p λo q=>k _ _ (.inl rfl) q,⟨o,k _ _ (.inl rfl) e⟩,st⟩
theorem dm.lt (x:dm P w H h) (e:H a=some o):a < h.objs.size:=(x a o e).lt
theorem dm.fresh (x:dm P w H h) (e:h.objs.size<=a):H a=none:=by
 cases q:H a with
 | none=>rfl
 | some u=>exact absurd (JT (x.lt q) e) (Nat.lt_irrefl _)
theorem dm.kept (x:dm P w H h) (k:∀b u,h.get? b=some u->h'.get? b=some u):dm P w H h':=λa o e=>
 (x a o e).iY (λb u _ q=>k b u q) (λ_ q=>q) λ_ _ q=>q
theorem dm.laid (x:dm P w H h) (k:∀b u,h.get? b=some u->h'.get? b=some u) (hp:h.objs.size<=a) (new:bB P w (upd H a o) h' a o):dm P w (upd H a o) h':=λb u e=>by
 have hn:=x.fresh hp;by_cases hb:b=a
 ·subst hb;rw[aA] at e;cases e;exact new
 ·rw[ar hb] at e;exact(x b u e).iY (λc v _ q=>k c v q) (λc q=>by rw[ar (az q hn)];exact q) λc xs q=>by rw[ar (az q hn)];exact q
end
noncomputable def Rd (H:Hp) (a:Addr) (u:HO):Prop:=H a=some u\/∃o,H a=some (.qh o u)
theorem Rd.ok {P:Program} {w:World} {H:Hp} {h:Heap} {a:Addr} {u:HO} (r:Rd H a u) (x:dm P w H h):bB P w H h a u:=by
 rcases r with r | ⟨o,r⟩
 ·exact x a u r
 ·obtain⟨_,q⟩:=x a _ r;exact q
noncomputable def Dx:Option HO->Prop
 | some (.lst _)=>True
 | some (.dK _)=>True
 | some (.dT _)=>True
 | some (.set _ _)=>True
 | some (.ins _ _ _)=>True
 | some (.ext _)=>True
 | _=>False
section
variable {P:Program} {w:World} {H:Hp} {h h':Heap} {x e:Addr} {o':HO}
theorem dm.write (ok:dm P w H h) (mu:Dx (H x)) (he:e=x\/H e=some (.own x)) (k:∀b u,b≠e->h.get? b=some u->h'.get? b=some u) (AO:∃u,h'.get? e=some u)
  (new:bB P w (upd H x o') h' x o'):dm P w (upd H x o') h':=λb u q=>by
 have BH:∀c y,H c=some (.own y)->c≠x:=λc y r z=>by subst z;rw[r] at mu;exact mu
 have Ef:∀c xs,H c=some (.tup xs)->c≠x:=λc xs r z=>by subst z;rw[r] at mu;exact mu
 by_cases hb:b=x
 ·subst hb;rw[aA] at q;cases q;exact new
 ·rw[ar hb] at q;by_cases hbe:b=e
  ·have q':H b=some (.own x):=by
    rcases he with z | z
    ·exact absurd (hbe.trans z) hb
    ·rw[hbe];exact z
   rw[q] at q';cases q';obtain⟨v,hv⟩:=AO;exact⟨v,by rw[hbe];exact hv⟩
  ·refine(ok b u q).iY (λc v hc r=>k c v ?_ r) (λc r=>by rw[ar (BH c b r)];exact r) λc xs r=>by rw[ar (Ef c xs r)];exact r
   rcases hc with rfl | hc
   ·exact hbe
   ·rintro rfl;rcases he with z | z
    ·exact BH c b hc z
    ·rw[hc] at z;cases z;exact hb rfl
end
structure Un (fs ex:List Addr) (H H':Hp) (h h':Heap):Prop where
 keep:∀b o,h.get? b=some o->H b=none->b∉fs->b∉ex->h'.get? b=some o
 slot:∀b o,h.get? b=some o->H b=none->b∈fs->b∉ex->∃sl,h'.get? b=some {o with slots:=sl}
 free:∀b o,h.get? b=some o->H b=none->b∉ex->H' b=none
 there:∀b o,h.get? b=some o->b∉ex->∃o',h'.get? b=some o'
 tups:∀b xs,H b=some (.tup xs)->H' b=some (.tup xs)
 frzs:∀b o u,H b=some (.qh o u)->H' b=some (.qh o u)
 tbls:∀b ps,H b=some (.rH ps)->∃more,H' b=some (.rH (ps++more))
section
variable {fs EH ex Je:List Addr} {H H1 H2:Hp} {h h1 h2 h':Heap} {a x e:Addr} {o:HO}
theorem Un.any (u:Un fs ex H H1 h h1) {b:Addr} {ob:Obj} (q:h.get? b=some ob) (n:H b=none) (hx:b∉ex):∃sl,h1.get? b=some {ob with slots:=sl}:=by
 by_cases hb:b∈fs
 ·exact u.slot b ob q n hb hx
 ·exact⟨ob.slots,u.keep b ob q n hb hx⟩
theorem Un.trans (a:Un fs ex H H1 h h1) (b:Un fs ex H1 H2 h1 h2):Un fs ex H H2 h h2 where
 keep:=λc ob q n hc hx=>b.keep c ob (a.keep c ob q n hc hx) (a.free c ob q n hx) hc hx
 slot:=λc ob q n hc hx=>by obtain⟨sl,e1⟩:=a.slot c ob q n hc hx;obtain⟨Bm,e2⟩:=b.slot c _ e1 (a.free c ob q n hx) hc hx;exact⟨Bm,e2⟩
 free:=λc ob q n hx=>by obtain⟨o',e1⟩:=a.there c ob q hx;exact b.free c o' e1 (a.free c ob q n hx) hx
 there:=λc ob q hx=>by obtain⟨o',e1⟩:=a.there c ob q hx;exact b.there c o' e1 hx
 tups:=λc xs q=>b.tups c xs (a.tups c xs q)
 frzs:=λc ob xs q=>b.frzs c ob xs (a.frzs c ob xs q)
 tbls:=λc ps q=>by obtain⟨m1,e1⟩:=a.tbls c ps q;obtain⟨m2,e2⟩:=b.tbls c _ e1;exact⟨m1++m2,by rw[e2,Array.append_assoc]⟩
theorem Un.kept (k:∀b u,h.get? b=some u->h'.get? b=some u):Un fs ex H H h h':=
 ⟨λb ob q _ _ _=>k b ob q,λb ob q _ _ _=>⟨ob.slots,k b ob q⟩,λ_ _ _ n _=>n,λb ob q _=>⟨ob,k b ob q⟩,λ_ _ q=>q,λ_ _ _ q=>q,λ_ ps q=>⟨#[],by rw[q];simp⟩⟩
theorem Un.refl:Un fs ex H H h h:=Un.kept λ_ _ q=>q
theorem Un.laid (k:∀b u,h.get? b=some u->h'.get? b=some u) (hp:h.objs.size<=a) (hn:H a=none):Un fs ex H (upd H a o) h h' where
 keep:=λb u q _ _ _=>k b u q
 slot:=λb u q _ _ _=>⟨u.slots,k b u q⟩
 free:=λb u q n _=>by rw[ar (J4 (JT (JI q) hp))];exact n
 there:=λb u q _=>⟨u,k b u q⟩
 tups:=λb xs q=>by rw[ar (az q hn)];exact q
 frzs:=λb u xs q=>by rw[ar (az q hn)];exact q
 tbls:=λb ps q=>⟨#[],by rw[ar (az q hn),q];simp⟩
theorem Un.write (mu:Dx (H x)) (he:e=x\/H e=some (.own x)) (k:∀b u,b≠e->h.get? b=some u->h'.get? b=some u) (AO:∃u,h'.get? e=some u):Un fs ex H (upd H x o) h h':=by
 have hx:∀b,H b=none->b≠x:=λb n z=>by subst z;rw[n] at mu;exact mu
 have hb:∀b,H b=none->b≠e:=λb n z=>by
  subst z;rcases he with r | r
  ·exact hx b n r
  ·rw[n] at r;cases r
 have hm:∀b u,H b=some u->¬Dx (some u)->b≠x:=λb u q nm z=>by subst z;rw[q] at mu;exact nm mu
 refine⟨λb u q n _ _=>k b u (hb b n) q,λb u q n _ _=>⟨u.slots,k b u (hb b n) q⟩,λb u q n _=>by rw[ar (hx b n)];exact n,λb u q _=>?_,
  λb xs q=>by rw[ar (hm b _ q λz=>z)];exact q,λb u xs q=>by rw[ar (hm b _ q λz=>z)];exact q,λb ps q=>⟨#[],by rw[ar (hm b _ q λz=>z),q];simp⟩⟩
 by_cases hbe:b=e
 ·subst hbe;exact AO
 ·exact⟨u,k b u hbe q⟩
end
noncomputable def zN (h:Heap) (H:Hp):List Addr:=(List.range h.objs.size).filter λa=>(H a).isSome
noncomputable def lq (h:Heap) (H:Hp):Heap:=PySem.W.hideAll h (zN h H)
theorem rh (h:Heap) (H:Hp):(lq h H).objs.size=h.objs.size:=PySem.W.hideAll_size _ _
theorem uI {h:Heap} {H:Hp} {b:Addr} {o:Obj} (e:h.get? b=some o) (n:H b=none):(lq h H).get? b=some o:=
 PySem.W.hideAll_get _ e λhm=>by have q:(H b).isSome=true:=(List.mem_filter.mp hm).2;rw[n] at q;simp at q
theorem xm {h:Heap} {H:Hp} {b:Addr} {o:Obj} (e:(lq h H).get? b=some o):h.get? b=some o/\H b=none:=by
 have e':h.get? b=some o:=PySem.W.of_hideAll (zN h H) e;refine⟨e',?_⟩;cases q:H b with
 | none=>rfl
 | some x=>have hm:b∈zN h H:=List.mem_filter.mpr ⟨Kk.mpr (JI e'),by simp[q]⟩;have z:(lq h H).get? b=none:=PySem.W.hideAll_none (zN h H) hm;rw[z] at e;cases e
noncomputable def vQ (g h:Heap) (L:Addr):List (Addr×Obj):=(List.range h.objs.size).filterMap λa=>if a=L\/(g.get? a).isSome=true then none else(h.get? a).map λo=>(a,o)
noncomputable def rest (g h:Heap) (L d:Addr):List (Addr×Obj):=(vQ g h L).filter λp=>decide (p.1≠d)
end L2
namespace L2
open PySem PySem.Spec PyProof.Rows
structure Mod (K:PySem.W.Frag) (mg:Str->Option Value) (base:Heap):Prop where
 Fq:K.In base
 glob:base.Ns mainGlobals mg
 blt:∃mb,base.Ns builtinsNs mb/\∀x:Str,x≠"__name__"->mb x=bootBuiltins x
 nolimit:base.NoLimit
structure Cx where
 prog:Program
 w:World
 K:PySem.W.Frag
 mg:Str->Option Value
 base:Heap
 A:Around
 N:List Str
 s₀:Shared
 H₀:Hp
 env:Env
 outer:List Env
 stack:List Env
 ex:List Addr
 fn:Str->Bool
 calm:Bool
 pn:List (Addr×Obj)
 xe:Value->Shared->Prop
noncomputable def dh (l:List Env):List Addr:=l.filterMap (·.frame)
noncomputable abbrev Cx.fs (X:Cx):List Addr:=dh X.outer
noncomputable def AN (sc:Scope) (x:Str):Prop:=sc.names.lookup x=some .local\/sc.names.lookup x=some .cell\/sc.names.lookup x=some .free
noncomputable def Loc (sc:Scope) (x:Str):Prop:=sc.names.lookup x=some .local\/sc.names.lookup x=some .cell
noncomputable def Look (env:Env) (h:Heap) (m:Str->Option Value) (x:Str) (u:Value):Prop:=
 (env.kindOf x=some .local/\m x=some u)\/((env.kindOf x=some .cell\/env.kindOf x=some .free)/\∃c,env.cells.lookup x=some c/\h.IsCell c (some u))
structure Cx.Ok (X:Cx):Prop where
 mod:Mod X.K X.mg X.base
 kind:X.env.scope.kind= .function
 glob:X.env.globals=mainGlobals
 blt:X.env.builtins=builtinsNs
 above:X.s₀.heap.objs.size<=X.env.locals
 inj:∀x y c,X.env.cells.lookup x=some c->X.env.cells.lookup y=some c->x=y
 has:∀x,(X.env.kindOf x=some .cell\/X.env.kindOf x=some .free)->∃c,X.env.cells.lookup x=some c
 vz:∀x c,X.fn x=true->X.env.cells.lookup x=some c->X.s₀.heap.objs.size<=c
 hd:X.calm=true->X.A.handled=none
 frames:X.A.frames=some X.stack
 xu:X.stack=X.outer\/(X.stack=X.env::X.outer/\X.env.frame=some X.env.locals)
 y7:∀b∈X.ex,b≠X.env.locals/\∀x c,X.env.cells.lookup x=some c->c≠b
 bs:∀b o,X.base.get? b=some o->X.s₀.heap.get? b=some o/\X.H₀ b=none
 vd:X.base.objs.size<=X.s₀.heap.objs.size
 lb:∀b o,X.base.get? b=some o->b∉X.ex
 ng:∀b∈X.ex,b∉X.fs
 fG:X.s₀.heap.FunFrames X.base X.outer
 xG:∀b∈X.fs,X.H₀ b=none
structure Inv (X:Cx) (pins:List (Addr×Obj)) (σ:List (Option V)) (H:Hp) (s:Shared):Prop where
 ok:X.Ok
 os:s.os=X.s₀.os
 bare:AllBare s.gens
 base:Un X.fs X.ex X.H₀ H X.s₀.heap s.heap
 loc:∃m,s.heap.Ns X.env.locals m/\∀(i:Nat) (x:Str) (v:V),X.N[i]?=some x->σ[i]?=some (some v)->AN X.env.scope x->∃u,RelV v u/\Look X.env s.heap m x u
 cell:∀x c,X.env.cells.lookup x=some c->∃v,s.heap.IsCell c v
 free:H X.env.locals=none
 bO:∀x c,X.env.cells.lookup x=some c->H c=none
 pin:∀p∈X.pn++pins,s.heap.get? p.1=some p.2/\H p.1=none/\p.1≠X.env.locals/\p.1∉X.fs/\∀v,p.2.data≠ .cell v
 hok:dm X.prog X.w H s.heap
 len:σ.length=X.N.length
section
variable {X:Cx} {pins:List (Addr×Obj)} {σ:List (Option V)} {H H':Hp} {s:Shared} {h':Heap}
theorem Cx.Ok.FZ (ok:X.Ok) {b:Addr} {o:Obj} (e:X.base.get? b=some o):b∉X.fs:=λhb=>by have:=(ok.fG.mem hb).1;rw[e] at this;cases this
theorem Inv.bs (I:Inv X pins σ H s):∀b o,X.base.get? b=some o->s.heap.get? b=some o/\H b=none:=λb o e=>
 ⟨I.base.keep b o (I.ok.bs b o e).1 (I.ok.bs b o e).2 (I.ok.FZ e) (I.ok.lb b o e),I.base.free b o (I.ok.bs b o e).1 (I.ok.bs b o e).2 (I.ok.lb b o e)⟩
theorem Inv.bk (I:Inv X pins σ H s):∀b o,X.base.get? b=some o->s.heap.get? b=some o:=λb o e=>(I.bs b o e).1
theorem Inv.mod (I:Inv X pins σ H s):Mod X.K X.mg X.base:=I.ok.mod
theorem Inv.gV (I:Inv X pins σ H s):X.K.In s.heap:=I.ok.mod.Fq.keeps I.bk
theorem Inv.fr (I:Inv X pins σ H s):∃m,Fr X.base X.env.locals s.heap m:=
 let ⟨m,hn,_⟩:=I.loc
 ⟨m,hn,I.bk,JJ I.ok.vd I.ok.above⟩
theorem Inv.lt (I:Inv X pins σ H s):X.env.locals < s.heap.objs.size:=let ⟨_,hn,_⟩:=I.loc;hn.lt
theorem Inv.sz (I:Inv X pins σ H s):X.s₀.heap.objs.size<=s.heap.objs.size:=JJ I.ok.above (Nat.le_of_lt I.lt)
theorem Inv.EU (I:Inv X pins σ H s) {a:Addr} (h:s.heap.objs.size<=a):a∉X.fs:=λhb=>by obtain⟨_,o,ho,_⟩:=I.ok.fG.mem hb;exact absurd (JT (JI ho) (JJ I.sz h)) (Nat.lt_irrefl _)
theorem Inv.zi (I:Inv X pins σ H s):∀x c,X.env.cells.lookup x=some c->c≠X.env.locals:=λx c e z=>by obtain⟨v,o,ho,hd⟩:=I.cell x c e;obtain⟨m,⟨o',es,ep,oS,nW,_⟩,_⟩:=I.loc;rw[z,oS] at ho;cases ho;rw[nW] at hd;cases hd
theorem Inv.fG (I:Inv X pins σ H s):s.heap.FunFrames X.base X.outer:=by
 have all:∀(l:List Env),(∀b∈dh l,b∈X.fs)->X.s₀.heap.FunFrames X.base l->s.heap.FunFrames X.base l:=by
  intro l
  induction l with
  | nil=>intro _ _;trivial
  | cons env r ih=>
   intro hs hl;obtain⟨hk,⟨L,o,hf,hn,ho,hd⟩,hr⟩:=hl;have hL:L∈X.fs:=hs L (by unfold dh;rw[List.filterMap_cons,hf];exact JF);obtain⟨sl,e⟩:=I.base.slot L o ho (I.ok.xG L hL) hL λz=>I.ok.ng L z hL
   exact⟨hk,⟨L,_,hf,hn,e,hd⟩,ih (λb hb=>hs b (by unfold dh;rw[List.filterMap_cons,hf];exact JD _ hb)) hr⟩
 exact all X.outer (λ_ hb=>hb) I.ok.fG
theorem Inv.stack (I:Inv X pins σ H s):s.heap.FunFrames X.base X.stack:=by
 rcases I.ok.xu with e | ⟨e,hf⟩
 ·rw[e];exact I.fG
 ·rw[e];obtain⟨m,hn,_⟩:=I.loc;refine .cons (by rw[I.ok.kind];decide) hf hn ?_ I.fG;exact Heap.get?_none_of_le (JJ I.ok.vd I.ok.above)
theorem Inv.iL (I:Inv X pins σ H s):∀b∈dh X.stack,b∈X.env.locals::X.fs:=λb hb=>by
 rcases I.ok.xu with e | ⟨e,hf⟩
 ·rw[e] at hb;exact JD _ hb
 ·rw[e] at hb;unfold dh at hb;rw[List.filterMap_cons,hf] at hb;exact hb
theorem Inv.lB (I:Inv X pins σ H s):∀b∈dh X.stack,H b=none:=λb hb=>by
 rcases JK.mp (I.iL b hb) with e | hb
 ·rw[e];exact I.free
 ·obtain⟨_,o,ho,_⟩:=I.ok.fG.mem hb;exact I.base.free b o ho (I.ok.xG b hb) λz=>I.ok.ng b z hb
theorem Inv.step {g':Array GenState} {t':Nat} {d':Drawn} {ch:List Addr} (I:Inv X pins σ H s)
  (vm:∀b∈ch,(b∈X.ex\/X.s₀.heap.objs.size<=b)/\b≠X.env.locals/\(∀x c,X.env.cells.lookup x=some c->c≠b)/\∀p∈X.pn++pins,p.1≠b)
  (keep:∀b o,b≠X.env.locals->b∉X.fs->b∉ch->s.heap.get? b=some o->H b=none->h'.get? b=some o)
  (slot:∀b o,b≠X.env.locals->b∈X.fs->b∉ch->s.heap.get? b=some o->H b=none->∃sl,h'.get? b=some {o with slots:=sl}) (free:∀b o,b∉ch->s.heap.get? b=some o->H b=none->H' b=none)
  (there:∀b o,b∉ch->s.heap.get? b=some o->∃o',h'.get? b=some o')
  (tups:∀b xs,H b=some (.tup xs)->H' b=some (.tup xs)) (frzs:∀b o u,H b=some (.qh o u)->H' b=some (.qh o u)) (tbls:∀b ps,H b=some (.rH ps)->∃more,H' b=some (.rH (ps++more)))
  (ns:∀m,s.heap.Ns X.env.locals m->h'.Ns X.env.locals m) (hok:dm X.prog X.w H' h') (hg:AllBare g'):
  Inv X pins σ H' {s with heap:=h',gens:=g',drawn:=d',toks:=t'}:=by
 have Dv:∀b o,X.s₀.heap.get? b=some o->b≠X.env.locals:=λb o e=>J4 (JT (JI e) I.ok.above)
 have DB:∀b o,X.s₀.heap.get? b=some o->b∉X.ex->b∉ch:=λb o e hx hb=>by
  rcases (vm b hb).1 with z | z
  ·exact hx z
  ·exact absurd (JT (JI e) z) (Nat.lt_irrefl _)
 have cellK:∀x c,X.env.cells.lookup x=some c->∀v,s.heap.IsCell c v->h'.IsCell c v:=λx c e v ⟨o,ho,hd⟩=>by
  have BC:c∉ch:=λz=>(vm c z).2.2.1 x c e rfl
  by_cases hc:c∈X.fs
  ·obtain⟨sl,q⟩:=slot c o (I.zi x c e) hc BC ho (I.bO x c e);exact⟨_,q,hd⟩
  ·exact⟨o,keep c o (I.zi x c e) hc BC ho (I.bO x c e),hd⟩
 refine⟨I.ok,I.os,hg,⟨λb o e n hb hx=>?_,λb o e n hb hx=>?_,λb o e n hx=>?_,λb o e hx=>?_,λb xs e=>tups b xs (I.base.tups b xs e),λb o xs e=>frzs b o xs (I.base.frzs b o xs e),λb ps e=>?_⟩,?_,λx c e=>?_,?_,λx c e=>?_,λp hp=>?_,hok,I.len⟩
 ·exact keep b o (Dv b o e) hb (DB b o e hx) (I.base.keep b o e n hb hx) (I.base.free b o e n hx)
 ·obtain⟨sl,e1⟩:=I.base.slot b o e n hb hx;obtain⟨Bm,e2⟩:=slot b _ (Dv b o e) hb (DB b o e hx) e1 (I.base.free b o e n hx);exact⟨Bm,e2⟩
 ·obtain⟨o',e1⟩:=I.base.there b o e hx;exact free b o' (DB b o e hx) e1 (I.base.free b o e n hx)
 ·obtain⟨o',e1⟩:=I.base.there b o e hx;exact there b o' (DB b o e hx) e1
 ·obtain⟨m1,e1⟩:=I.base.tbls b ps e;obtain⟨m2,e2⟩:=tbls b _ e1;exact⟨m1++m2,by rw[e2,Array.append_assoc]⟩
 ·obtain⟨m,hn,hl⟩:=I.loc;refine⟨m,ns m hn,λi x v e1 e2 e3=>?_⟩;obtain⟨u,r,l⟩:=hl i x v e1 e2 e3;refine⟨u,r,?_⟩;rcases l with l | ⟨k,c,e,z⟩
  ·exact .inl l
  ·exact .inr ⟨k,c,e,cellK x c e _ z⟩
 ·obtain⟨v,z⟩:=I.cell x c e;exact⟨v,cellK x c e v z⟩
 ·obtain⟨m,⟨o,_,_,ho,_⟩,_⟩:=I.loc;exact free _ o (λz=>(vm _ z).2.1 rfl) ho I.free
 ·obtain⟨v,o,ho,hd⟩:=I.cell x c e;exact free c o (λz=>(vm c z).2.2.1 x c e rfl) ho (I.bO x c e)
 ·obtain⟨e,n,ne,nf,d⟩:=I.pin p hp;have BC:p.1∉ch:=λz=>(vm p.1 z).2.2.2 p hp rfl
  exact⟨keep p.1 p.2 ne nf BC e n,free p.1 p.2 BC e n,ne,nf,d⟩
theorem Inv.un {t':Nat} (I:Inv X pins σ H s) (u:Un X.fs [] H H' s.heap h') (hok:dm X.prog X.w H' h'):Inv X pins σ H' {s with heap:=h',toks:=t'}:=by
 obtain⟨m,⟨o,es,ep,ho,r⟩,_⟩:=id I.loc;obtain⟨sl,hL⟩:=u.any ho I.free (by simp);exact I.step (g':=s.gens) (d':=s.drawn) (ch:=[]) (λ_ z=>nomatch z) (λb o _ hb _ e n=>u.keep b o e n hb (by simp)) (λb o _ hb _ e n=>u.slot b o e n hb (by simp)) (λb o _ e n=>u.free b o e n (by simp)) (λb o _ e=>u.there b o e (by simp)) u.tups u.frzs u.tbls (λm' hm=>by
  obtain⟨o',dR,Ea,oS,r'⟩:=hm;rw[ho] at oS;cases oS;exact⟨_,dR,Ea,hL,r'⟩) hok I.bare
theorem Inv.call {g':Array GenState} {t':Nat} {d':Drawn} {ch:List Addr} (I:Inv X pins σ H s) (u:Un (dh X.stack) ch H H' s.heap h') (hok:dm X.prog X.w H' h') (hg:AllBare g')
  (vm:∀b∈ch,(b∈X.ex\/X.s₀.heap.objs.size<=b)/\b≠X.env.locals/\(∀x c,X.env.cells.lookup x=some c->c≠b)/\∀p∈X.pn++pins,p.1≠b):
  Inv X pins σ H' {s with heap:=h',gens:=g',drawn:=d',toks:=t'}:=by
 obtain⟨m,⟨o,es,ep,ho,r⟩,_⟩:=id I.loc;obtain⟨sl,hL⟩:=u.any ho I.free λz=>(vm _ z).2.1 rfl
 exact I.step (ch:=ch) vm (λb o hL hb hc e n=>u.keep b o e n (λz=>(JK.mp (I.iL b z)).elim hL hb) hc) (λb o _ _ hc e n=>u.any e n hc) (λb o hc e n=>u.free b o e n hc) (λb o hc e=>u.there b o e hc) u.tups u.frzs u.tbls (λm' hm=>by
  obtain⟨o',dR,Ea,oS,r'⟩:=hm;rw[ho] at oS;cases oS;exact⟨_,dR,Ea,hL,r'⟩) hok hg
theorem Inv.turned {t':Nat} {it:Addr} (I:Inv X pins σ H s) (k:∀b o,b≠it->s.heap.get? b=some o->h'.get? b=some o) (hn:H it=none) (hL:it≠X.env.locals)
  (h1:it∈X.ex\/X.s₀.heap.objs.size<=it) (h2:∀x c,X.env.cells.lookup x=some c->c≠it) (h3:∀p∈X.pn++pins,p.1≠it):Inv X pins σ H {s with heap:=h',toks:=t'}:=by
 have GR:∀b u,H b=some u->b≠it:=λb u e z=>by rw[z,hn] at e;cases e
 refine I.step (g':=s.gens) (d':=s.drawn) (ch:=[it]) (λb hb=>?_) (λb o _ _ hc e _=>k b o (λz=>hc (by simp[z])) e) (λb o _ _ hc e _=>⟨o.slots,k b o (λz=>hc (by simp[z])) e⟩) (λ_ _ _ _ n=>n)
  (λb o hc e=>⟨o,k b o (λz=>hc (by simp[z])) e⟩) (λ_ _ e=>e) (λ_ _ _ e=>e) (λb ps e=>⟨#[],by rw[e];simp⟩) (λm hm=>?_) (λb u e=>?_) I.bare
 ·have e:b=it:=by simpa using hb
  subst e;exact⟨h1,hL,h2,h3⟩
 ·obtain⟨o,es,ep,ho,r⟩:=hm;exact⟨o,es,ep,k _ o (Ne.symm hL) ho,r⟩
 ·refine(I.hok b u e).iY (λc v hc q=>k c v ?_ q) (λ_ q=>q) λ_ _ q=>q
  rcases hc with z | z
  ·rw[z];exact GR b u e
  ·exact GR c _ z
theorem Inv.tok (I:Inv X pins σ H s) (t:Nat):Inv X pins σ H {s with toks:=t}:=I.un (h':=s.heap) (t':=t) Un.refl I.hok
theorem Inv.kept {t':Nat} (I:Inv X pins σ H s) (k:∀b u,s.heap.get? b=some u->h'.get? b=some u):Inv X pins σ H {s with heap:=h',toks:=t'}:=I.un (Un.kept k) (I.hok.kept k)
theorem Inv.laid {a:Addr} {o:HO} {t':Nat} (I:Inv X pins σ H s) (k:∀b u,s.heap.get? b=some u->h'.get? b=some u) (hp:s.heap.objs.size<=a) (new:bB X.prog X.w (upd H a o) h' a o):
  Inv X pins σ (upd H a o) {s with heap:=h',toks:=t'}:=I.un (Un.laid k hp (I.hok.fresh hp)) (I.hok.laid k hp new)
theorem Inv.write {x e:Addr} {o:HO} {t':Nat} (I:Inv X pins σ H s) (mu:Dx (H x)) (he:e=x\/H e=some (.own x)) (k:∀b u,b≠e->s.heap.get? b=some u->h'.get? b=some u) (AO:∃u,h'.get? e=some u)
  (new:bB X.prog X.w (upd H x o) h' x o):Inv X pins σ (upd H x o) {s with heap:=h',toks:=t'}:=I.un (Un.write mu he k AO) (I.hok.write mu he k AO new)
theorem Inv.weak {σ':List (Option V)} (I:Inv X pins σ H s) (hl:σ'.length=σ.length) (w:∀(i:Nat) v,σ'[i]?=some (some v)->σ[i]?=some (some v)):Inv X pins σ' H s:=
 ⟨I.ok,I.os,I.bare,I.base,let ⟨m,hn,yo⟩:=I.loc;⟨m,hn,λi x v e1 e2 e3=>yo i x v e1 (w i v e2) e3⟩,I.cell,I.free,I.bO,I.pin,I.hok,hl.trans I.len⟩
theorem Inv.ey {pins':List (Addr×Obj)} (I:Inv X pins σ H s) (h:∀p∈pins',s.heap.get? p.1=some p.2/\H p.1=none/\p.1≠X.env.locals/\p.1∉X.fs/\∀v,p.2.data≠ .cell v):Inv X pins' σ H s:=
 ⟨I.ok,I.os,I.bare,I.base,I.loc,I.cell,I.free,I.bO,λp hp=>(JU.mp hp).elim (λz=>I.pin p (List.mem_append_left _ z)) (h p),I.hok,I.len⟩
theorem iP {N:List Str} (hN:N.Nodup) {i j:Nat} {x:Str} (a:N[i]?=some x) (b:N[j]?=some x):i=j:=by obtain⟨h1,e1⟩:=JC.mp a;obtain⟨h2,e2⟩:=JC.mp b;exact(List.getElem_inj hN).mp (e1.trans e2.symm)
theorem j0 {M:Model} {A:Around} {E:Value->Shared->Prop} {i:Nat} {x:Str} {v:V} {u:Value} {Q:Unit->Shared->Prop} (I:Inv X pins σ H s) (hN:X.N.Nodup) (hi:X.N[i]?=some x) (hx:Loc X.env.scope x) (r:RelV v u)
  (h:∀s',Inv X pins (σ.set i (some v)) H s'->(∃a,Heap.SameBut a s.heap s'.heap/\(a=X.env.locals\/X.env.cells.lookup x=some a))->Q () s') (hf:X.fn x=true\/X.env.scope.names.lookup x=some .local:=by first | exact .inl rfl | exact .inr rfl | assumption):wpAny M A (storeName X.env x u) Q E s:=by
 obtain⟨m,hn,hl⟩:=id I.loc;have mh:(X.env.scope.kind== .class||(X.env.scope.kind== .module&&X.env.locals != X.env.globals))=false:=by rw[I.ok.kind];rfl
 have hiσ:i < σ.length:=by rw[I.len];exact(JC.mp hi).1
 have zi:=I.zi;have tracked:∀{a:Addr} {h':Heap},(∃o,s.heap.get? a=some o/\H a=none)->Heap.SameBut a s.heap h'->dm X.prog X.w H h':=λ {a h'} ha hs b ob e=>by
  obtain⟨_,_,xE⟩:=ha;refine(I.hok b ob e).iY (λc w' hc q=>(hs.2 c ?_).trans q) (λ_ q=>q) λ_ _ q=>q
  rintro rfl;rcases hc with rfl | hc
  ·rw[xE] at e;cases e
  ·rw[xE] at hc;cases hc
 rcases hx with hk | hk
 ·refine wpAny_storeName_local hk hn (λh' IL hs=>?_) mh;obtain⟨oL,_,_,Dp,_⟩:=id hn;refine h _ ⟨I.ok,I.os,I.bare,⟨λb o e n hb hx=>?_,λb o e n hb hx=>?_,I.base.free,λb o e hx=>?_,I.base.tups,I.base.frzs,I.base.tbls⟩,⟨_,IL,λj y v' e1 e2 e3=>?_⟩,λy c e=>?_,I.free,I.bO,λp hp=>?_,tracked ⟨oL,Dp,I.free⟩ hs,by simpa using I.len⟩ ⟨_,hs,.inl rfl⟩
  ·exact(hs.2 b (J4 (JT (JI e) I.ok.above))).trans (I.base.keep b o e n hb hx)
  ·obtain⟨sl,e1⟩:=I.base.slot b o e n hb hx;exact⟨sl,(hs.2 b (J4 (JT (JI e) I.ok.above))).trans e1⟩
  ·obtain⟨o',e1⟩:=I.base.there b o e hx;exact⟨o',(hs.2 b (J4 (JT (JI e) I.ok.above))).trans e1⟩
  ·by_cases hj:j=i
   ·subst hj;rw[hi] at e1;cases e1;rw[Kj hiσ] at e2;cases e2;exact⟨u,r,.inl ⟨hk,by simp⟩⟩
   ·rw[JP (Ne.symm hj)] at e2;obtain⟨u',r',q⟩:=hl j y v' e1 e2 e3;refine⟨u',r',?_⟩;rcases q with ⟨k,e⟩ | ⟨k,c,e,z⟩
    ·refine .inl ⟨k,?_⟩;have:y≠x:=λe=>hj (iP hN e1 (e▸hi))
     simp[this,e]
    ·exact .inr ⟨k,c,e,z.sameBut hs (zi y c e)⟩
  ·obtain⟨w',z⟩:=I.cell y c e;exact⟨w',z.sameBut hs (zi y c e)⟩
  ·obtain⟨e,n,ne,nf,d⟩:=I.pin p hp;exact⟨(hs.2 p.1 ne).trans e,n,ne,nf,d⟩
 ·have sv:X.fn x=true:=by
   rcases hf with z | z
   ·exact z
   ·rw[z] at hk;cases hk
  obtain⟨c,hc⟩:=I.ok.has x (.inl hk);obtain⟨w',z⟩:=I.cell x c hc;refine wpAny_storeName_cell I.ok.kind hk hc z (λh' jr hs=>?_);obtain⟨oc,G3,D5⟩:=id z;refine h {s with heap:=h'} ⟨I.ok,I.os,I.bare,⟨λb o e n hb hx=>?_,λb o e n hb hx=>?_,I.base.free,λb o e hx=>?_,I.base.tups,I.base.frzs,I.base.tbls⟩,⟨m,hn.sameBut hs (Ne.symm (zi x c hc)),λj y v' e1 e2 e3=>?_⟩,λy c' e=>?_,I.free,I.bO,λp hp=>?_,tracked ⟨oc,G3,I.bO x c hc⟩ hs,by simpa using I.len⟩ ⟨c,hs,.inr hc⟩
  ·exact(hs.2 b (J4 (JT (JI e) (I.ok.vz x c sv hc)))).trans (I.base.keep b o e n hb hx)
  ·obtain⟨sl,e1⟩:=I.base.slot b o e n hb hx;exact⟨sl,(hs.2 b (J4 (JT (JI e) (I.ok.vz x c sv hc)))).trans e1⟩
  ·obtain⟨o',e1⟩:=I.base.there b o e hx;exact⟨o',(hs.2 b (J4 (JT (JI e) (I.ok.vz x c sv hc)))).trans e1⟩
  ·by_cases hj:j=i
   ·subst hj;rw[hi] at e1;cases e1;rw[Kj hiσ] at e2;cases e2;exact⟨u,r,.inr ⟨.inl hk,c,hc,jr⟩⟩
   ·rw[JP (Ne.symm hj)] at e2;obtain⟨u',r',q⟩:=hl j y v' e1 e2 e3;refine⟨u',r',?_⟩;rcases q with q | ⟨k,c',e,z'⟩
    ·exact .inl q
    ·refine .inr ⟨k,c',e,z'.sameBut hs ?_⟩;rintro rfl;exact hj (iP hN e1 (I.ok.inj _ _ _ e hc▸hi))
  ·by_cases hcc:c'=c
   ·subst hcc;exact⟨_,jr⟩
   ·obtain⟨w2,z2⟩:=I.cell y c' e;exact⟨w2,z2.sameBut hs hcc⟩
  ·obtain⟨e,n,ne,nf,d⟩:=I.pin p hp;refine⟨(hs.2 p.1 ?_).trans e,n,ne,nf,d⟩;intro q;rw[q,G3] at e;have q':oc=p.2:=Option.some.inj e;exact d w' (by rw[<-q'];exact D5)
theorem jf {M:Model} {A:Around} {E:Value->Shared->Prop} {i:Nat} {x:Str} {v:V} {u:Value} {Q:Unit->Shared->Prop} (I:Inv X pins σ H s) (hN:X.N.Nodup) (hi:X.N[i]?=some x) (hx:Loc X.env.scope x) (r:RelV v u)
  (h:∀s',Inv X pins (σ.set i (some v)) H s'->Q () s') (hf:X.fn x=true\/X.env.scope.names.lookup x=some .local:=by first | exact .inl rfl | exact .inr rfl | assumption):wpAny M A (storeName X.env x u) Q E s:=
 j0 I hN hi hx r (λs' I' _=>h s' I') hf
theorem Inv.uo {s':Shared} {ch:List Addr} (I:Inv X pins σ H s) (ho:s'.os=s.os) (u:Un (dh X.stack) ch H H' s.heap s'.heap) (hok:dm X.prog X.w H' s'.heap) (hg:AllBare s'.gens)
  (vm:∀b∈ch,(b∈X.ex\/X.s₀.heap.objs.size<=b)/\b≠X.env.locals/\(∀x c,X.env.cells.lookup x=some c->c≠b)/\∀p∈X.pn++pins,p.1≠b):Inv X pins σ H' s':=by
 obtain⟨h',g',d',t',o'⟩:=s';have e:o'=s.os:=ho;subst e;exact I.call (g':=g') (t':=t') (d':=d') u hok hg vm
end
noncomputable abbrev XK:=Value->Option Addr->Hp->Prop
noncomputable abbrev St:=List (Option V)
noncomputable abbrev VK:=V->Hp->Prop
noncomputable abbrev TE:=St->Hp->VK->Prop
noncomputable abbrev TT:=St->Hp->(Bool->Hp->Prop)->Prop
noncomputable abbrev TA:=St->Hp->(List V->Hp->Prop)->Prop
structure Ends where
 nx:St->Hp->Prop
 rt:VK
 bk:St->Hp->Prop:=λ_ _=>False
 ct:St->Hp->Prop:=λ_ _=>False
noncomputable abbrev TS:=Ends->St->Hp->Prop
noncomputable def EP (X:Cx) (pins:List (Addr×Obj)) (σ:St) (Q:VK) (u:Value) (s':Shared):Prop:=∃v H',Inv X pins σ H' s'/\RelV v u/\Q v H'
noncomputable def TP (X:Cx) (pins:List (Addr×Obj)) (σ:St) (Q:Bool->Hp->Prop) (b:Bool) (s':Shared):Prop:=∃H',Inv X pins σ H' s'/\Q b H'
noncomputable def AP (X:Cx) (pins:List (Addr×Obj)) (σ:St) (Q:List V->Hp->Prop) (us:List Value) (s':Shared):Prop:=∃vs H',Inv X pins σ H' s'/\au vs us/\Q vs H'
noncomputable def SP (X:Cx) (pins:List (Addr×Obj)) (D:Ends) (f:Flow) (s':Shared):Prop:=
 match f with
 | .next=>∃σ' H',Inv X pins σ' H' s'/\D.nx σ' H'
 | .brk=>∃σ' H',Inv X pins σ' H' s'/\D.bk σ' H'
 | .cont=>∃σ' H',Inv X pins σ' H' s'/\D.ct σ' H'
 | .ret u=>∃v σ' H',Inv X pins σ' H' s'/\RelV v u/\D.rt v H'
noncomputable def PE (X:Cx) (e:Expr) (t:TE):Prop:=
 ∀(pins:List (Addr×Obj)) (s:Shared) (σ:St) (H:Hp) (Q:VK),Inv X pins σ H s->t σ H Q->wpAny (model X.prog X.w) X.A (eval e X.env) (EP X pins σ Q) X.xe s
noncomputable def PT (X:Cx) (e:Expr) (t:TT):Prop:=
 ∀(pins:List (Addr×Obj)) (s:Shared) (σ:St) (H:Hp) (Q:Bool->Hp->Prop),Inv X pins σ H s->t σ H Q->wpAny (model X.prog X.w) X.A (isTrue e X.env (eval e X.env)) (TP X pins σ Q) X.xe s
noncomputable def PW (X:Cx) (e:Expr) (t:TT):Prop:=
 ∀(whole:Sem Value) (pins:List (Addr×Obj)) (s:Shared) (σ:St) (H:Hp) (Q:Bool->Hp->Prop),Inv X pins σ H s->t σ H Q->wpAny (model X.prog X.w) X.A (isTrue e X.env whole) (TP X pins σ Q) X.xe s
theorem PW.pt {X:Cx} {e:Expr} {t:TT} (h:PW X e t):PT X e t:=h _
noncomputable def PA (X:Cx) (es:List Expr) (t:TA):Prop:=
 ∀(pos:Pos) (pins:List (Addr×Obj)) (s:Shared) (σ:St) (H:Hp) (Q:List V->Hp->Prop),Inv X pins σ H s->t σ H Q->wpAny (model X.prog X.w) X.A (spliced (backTo pos (starEach es X.env))) (AP X pins σ Q) X.xe s
noncomputable def PS (X:Cx) (st:Stmt) (t:TS):Prop:=
 ∀(pins:List (Addr×Obj)) (s:Shared) (σ:St) (H:Hp) (D:Ends),Inv X pins σ H s->t D σ H->wpAny (model X.prog X.w) X.A (exec st X.env) (SP X pins D) X.xe s
noncomputable def lT (X:Cx) (st:List Stmt) (t:TS):Prop:=
 ∀(pins:List (Addr×Obj)) (s:Shared) (σ:St) (H:Hp) (D:Ends),Inv X pins σ H s->t D σ H->wpAny (model X.prog X.w) X.A (execs st X.env) (SP X pins D) X.xe s
theorem bq {α:Type} {t:Sem α} {Q Q':α->Shared->Prop} {M:Model} {A:Around} {E:Value->Shared->Prop} {s:Shared} (h:wpAny M A t Q E s) (hQ:∀a s,Q a s->Q' a s):wpAny M A t Q' E s:=wpAny_mono h hQ λ_ _ x=>x
end L2
namespace L2
open PySem PySem.Spec PyProof.Rows
section
variable {X:Cx}
theorem bin {a b:Expr} {ta tb:TE} (ha:PE X a ta) (hb:PE X b tb) {pins:List (Addr×Obj)} {s:Shared} {σ:St} {H:Hp} {R:V->V->Hp->Prop} (I:Inv X pins σ H s) (h:ta σ H λx H1=>tb σ H1 λy H2=>R x y H2)
  {α:Type} {Q:α->Shared->Prop} {f:Value->Value->Sem α}
  (hf:∀v u s2 x y H2,Inv X pins σ H2 s2->RelV x v->RelV y u->R x y H2->wpAny (model X.prog X.w) X.A (f v u) Q X.xe s2):
  wpAny (model X.prog X.w) X.A (eval a X.env) (λv s₁=>wpAny (model X.prog X.w) X.A (eval b X.env) (λu s₂=>wpAny (model X.prog X.w) X.A (f v u) Q X.xe s₂) X.xe s₁) X.xe s:=by
 refine bq (ha pins s σ H _ I h) λv s1 ⟨x,H1,I1,r1,q1⟩=>?_
 refine bq (hb pins s1 σ H1 _ I1 q1) λu s2 ⟨y,H2,I2,r2,q2⟩=>?_
 exact hf v u s2 x y H2 I2 r1 r2 q2
noncomputable def gz (i:Nat):TE:=λσ H Q=>∃v,σ[i]?=some (some v)/\Q v H
noncomputable def tC (v:V):TE:=λ_ H Q=>Q v H
theorem oj {i:Nat} {x:Str} {pos:Pos} (hN:X.N[i]?=some x) (hv:AN X.env.scope x) (hd:(x==("__debug__":Str))=false:=by decide) (rN:(x==("__classdict__":Str))=false:=by decide):PE X (.Name x pos) (gz i):=by
 intro pins s σ H Q I h;obtain⟨v,e,h⟩:=h;obtain⟨m,hn,hl⟩:=I.loc;obtain⟨u,r,l⟩:=hl i x v hN e hv;have fin:EP X pins σ Q u s:=⟨v,H,I,r,h⟩;rcases l with ⟨hk,hm⟩ | ⟨hk,c,hc,lR⟩
 ·exact wpAny_Name (wpAny_loadName_local I.ok.kind hk hn hm fin) hd
 ·rcases hk with hk | hk
  ·exact wpAny_Name (wpAny_loadName_cell I.ok.kind hk hc lR fin) hd
  ·exact wpAny_Name (wpAny_loadName_free I.ok.kind hk hc lR fin rN) hd
theorem y8 {i j pos}:PE X (.Constant (.int i) j pos) (tC (.int i)):=λ_ _ _ H _ I h=>wpAny_Constant_int ⟨.int i,H,I.tok _,⟨_,rfl⟩,h⟩
theorem Bj {b j pos}:PE X (.Constant (.bool b) j pos) (tC (.bl b)):=λ_ _ _ H _ I h=>Constant_bool ⟨.bl b,H,I,rfl,h⟩
theorem zH {j pos}:PE X (.Constant .none j pos) (tC .a6):=λ_ _ _ H _ I h=>Constant_none ⟨.a6,H,I,rfl,h⟩
theorem yQ {x j pos}:PE X (.Constant (.str x) j pos) (tC (.str x)):=λ_ _ _ H _ I h=>Calls.Constant_str ⟨.str x,H,I.tok _,⟨_,rfl⟩,h⟩
noncomputable def Gl (X:Cx) (x:Str):Prop:=X.env.kindOf x=some .globalImplicit
theorem fH {E:Value->Shared->Prop} {pins:List (Addr×Obj)} {s:Shared} {σ:St} {H:Hp} {x:Str} {u:Value} {pos:Pos} {Q:Value->Shared->Prop} (I:Inv X pins σ H s) (hg:Gl X x) (hm:X.mg x=some u) (h:Q u s)
  (hd:(x==("__debug__":Str))=false:=by decide):wpAny (model X.prog X.w) X.A (eval (.Name x pos) X.env) Q E s:=
 Calls.Name_function_global I.ok.kind hg (Calls.loadGlobal_global (by rw[I.ok.glob];exact I.mod.glob.keeps I.bk) hm h) hd
theorem gd {E:Value->Shared->Prop} {pins:List (Addr×Obj)} {s:Shared} {σ:St} {H:Hp} {x:Str} {u:Value} {pos:Pos} {Q:Value->Shared->Prop} (I:Inv X pins σ H s) (hg:Gl X x) (hm:X.mg x=none) (hv:bootBuiltins x=some u) (h:Q u s)
  (hn:x≠"__name__":=by decide) (hd:(x==("__debug__":Str))=false:=by decide):wpAny (model X.prog X.w) X.A (eval (.Name x pos) X.env) Q E s:=by
 obtain⟨mb,h1,h2⟩:=I.mod.blt;exact Calls.Name_function_global I.ok.kind hg (Calls.loadGlobal_builtin (by rw[I.ok.glob];exact I.mod.glob.keeps I.bk) hm (by rw[I.ok.blt];exact h1.keeps I.bk) ((h2 x hn).trans hv) h) hd
theorem qd {x:Str} {v:V} {u:Value} {pos:Pos} (hg:Gl X x) (hm:X.mg x=some u) (r:RelV v u) (hd:(x==("__debug__":Str))=false:=by decide):PE X (.Name x pos) (tC v):=
 λ_ _ _ H _ I h=>fH I hg hm ⟨v,H,I,r,h⟩ hd
theorem pY {x:Str} {v:V} {u:Value} {pos:Pos} (hg:Gl X x) (hm:X.mg x=none) (hv:bootBuiltins x=some u) (r:RelV v u) (hn:x≠"__name__":=by decide) (hd:(x==("__debug__":Str))=false:=by decide):PE X (.Name x pos) (tC v):=
 λ_ _ _ H _ I h=>gd I hg hm hv ⟨v,H,I,r,h⟩ hn hd
variable {a b:Expr} {ta tb:TE} {pos:Pos}
noncomputable def tB (t:TE):TT:=λσ H Q=>t σ H λx H1=>∃c,x= .bl c/\Q c H1
variable {tA DA:TT} {rest:List Expr}
noncomputable def Er (t u:TT):TT:=λσ H Q=>t σ H λc H1=>if c=true then u σ H1 Q else Q false H1
noncomputable def HZ (t u:TT):TT:=λσ H Q=>t σ H λc H1=>if c=true then Q true H1 else u σ H1 Q
noncomputable def E4 (t:TT):TT:=λσ H Q=>t σ H λc H1=>Q (!c) H1
theorem wt (ha:PT X a tA):PW X (.BoolOp .And [a] pos) tA:=by
 intro wh pins s σ H Q I h;refine isTrue_and (bq (ha pins s σ H Q I h) λc s1 e=>?_);cases c with
 | true=>exact isTrue_and_nil e
 | false=>exact e
theorem zk (ha:PT X a tA):PW X (.BoolOp .Or [a] pos) tA:=by
 intro wh pins s σ H Q I h;refine isTrue_or (bq (ha pins s σ H Q I h) λc s1 e=>?_);cases c with
 | false=>exact isTrue_or_nil e
 | true=>exact e
theorem zm (ha:PT X a tA) (hb:PW X (.BoolOp .And (b::rest) pos) DA):PW X (.BoolOp .And (a::b::rest) pos) (Er tA DA):=by
 intro wh pins s σ H Q I h;refine isTrue_and (bq (ha pins s σ H _ I h) λc s1 ⟨H1,I1,q1⟩=>?_);cases c with
 | true=>exact hb wh pins s1 σ H1 Q I1 q1
 | false=>exact⟨H1,I1,q1⟩
theorem De (ha:PT X a tA) (hb:PW X (.BoolOp .Or (b::rest) pos) DA):PW X (.BoolOp .Or (a::b::rest) pos) (HZ tA DA):=by
 intro wh pins s σ H Q I h;refine isTrue_or (bq (ha pins s σ H _ I h) λc s1 ⟨H1,I1,q1⟩=>?_);cases c with
 | true=>exact⟨H1,I1,q1⟩
 | false=>exact hb wh pins s1 σ H1 Q I1 q1
theorem yY (ha:PT X a tA):PT X (.UnaryOp .Not a pos) (E4 tA):=by intro pins s σ H Q I h;exact isTrue_not (ha pins s σ H (λc H1=>Q (!c) H1) I h)
noncomputable def A7 (ta tb:TE):TE:=λσ H Q=>ta σ H λx H1=>∃c,x= .bl c/\if c=true then tb σ H1 Q else Q (.bl false) H1
noncomputable def E8 (ta tb:TE):TE:=λσ H Q=>ta σ H λx H1=>∃c,x= .bl c/\if c=true then Q (.bl true) H1 else tb σ H1 Q
noncomputable def Ba (ta:TE):TE:=λσ H Q=>ta σ H λx H1=>∃c,x= .bl c/\Q (.bl (!c)) H1
theorem si {op} {t:TE} (h:PE X a t):PE X (.BoolOp op [a] pos) t:=λpins s σ H Q I hw=>BoolOp_one (h pins s σ H Q I hw)
theorem sP (ha:PE X a ta) (hb:PE X (.BoolOp .And (b::rest) pos) tb):PE X (.BoolOp .And (a::b::rest) pos) (A7 ta tb):=by
 intro pins s σ H Q I h;refine BoolOp_and (bq (ha pins s σ H _ I h) λv s1 ⟨x,H1,I1,r1,q1⟩=>?_);obtain⟨c,rfl,q1⟩:=q1;cases r1;refine wpAny_truthy_bool ?_;cases c with
 | true=>exact hb pins s1 σ H1 Q I1 q1
 | false=>exact⟨.bl false,H1,I1,rfl,q1⟩
theorem xV (ha:PE X a ta) (hb:PE X (.BoolOp .Or (b::rest) pos) tb):PE X (.BoolOp .Or (a::b::rest) pos) (E8 ta tb):=by
 intro pins s σ H Q I h;refine BoolOp_or (bq (ha pins s σ H _ I h) λv s1 ⟨x,H1,I1,r1,q1⟩=>?_);obtain⟨c,rfl,q1⟩:=q1;cases r1;refine wpAny_truthy_bool ?_;cases c with
 | false=>exact hb pins s1 σ H1 Q I1 q1
 | true=>exact⟨.bl true,H1,I1,rfl,q1⟩
theorem tx (ha:PE X a ta):PE X (.UnaryOp .Not a pos) (Ba ta):=by intro pins s σ H Q I h;refine UnaryOp_ (bq (ha pins s σ H _ I h) λv s1 ⟨x,H1,I1,r1,q1⟩=>?_);obtain⟨c,rfl,q1⟩:=q1;cases r1;exact not_of (wpAny_truthy_bool ⟨.bl (!c),H1,I1,rfl,q1⟩)
end
end L2
namespace L2
open PySem PySem.Spec PyProof.Rows
noncomputable def cW (K:PySem.W.Frag) (H:Hp) (a:Addr) (xs:List V):Prop:=
 Rd H a (.lst xs)\/
  ∃(o:Obj) (its:Array Value) (n:Nat),K.lookup a=some o/\o.cls= .type "list"/\o.dict=none/\o.data= .seq its n/\its.size<=sizeLine/\au xs its.toList
noncomputable def dy (K:PySem.W.Frag) (H:Hp) (a:Addr) (xs:List V):Prop:=
 Rd H a (.tup xs)\/
  ∃(o:Obj) (its:Array Value) (n:Nat),K.lookup a=some o/\o.cls= .type "tuple"/\o.data= .seq its n/\its.size<=sizeLine/\au xs its.toList
noncomputable def B1:Value->Option V
 | .none=>some .a6
 | .bool b=>some (.bl b)
 | .int i _=>some (.int i)
 | .str x _=>some (.str x)
 | .bytes b _=>some (.AK b)
 | .float b _=>some (.wL b)
 | .ref a=>some (.ref a)
 | .type n=>some (.ty n)
 | _=>none
theorem RelV.abs {x:V} {u:Value} (r:RelV x u):B1 u=some x:=by grind [V,RelV,B1]
theorem RelV.inj {x y:V} {u:Value} (r:RelV x u) (q:RelV y u):x=y:=Option.some.inj (r.abs.symm.trans q.abs)
theorem au.inj:∀{xs ys:List V} {us:List Value},au xs us->au ys us->xs=ys
 | _,_,_,.nil,.nil=>rfl
 | _,_,_,.cons r t,.cons r' t'=>by rw[r.inj r',au.inj t t']
section
variable {X:Cx} {pins:List (Addr×Obj)} {σ:St} {H:Hp} {s:Shared} {a:Addr} {xs ys:List V}
theorem cW.of {K:PySem.W.Frag} (h:H a=some (.lst xs)):cW K H a xs:= .inl (.inl h)
theorem dy.of {K:PySem.W.Frag} (h:H a=some (.tup xs)):dy K H a xs:= .inl (.inl h)
theorem Inv.list (I:Inv X pins σ H s) (h:cW X.K H a xs):∃its:List Value,au xs its/\PlainL s.heap a its.toArray/\xs.length<=sizeLine:=by
 rcases h with h | ⟨o,its,n,hk,hc,hd,hs,hz,r⟩
 ·obtain⟨z,its,n,r,e⟩:=h.ok I.hok;exact⟨its,r,⟨_,n,e,rfl,rfl,rfl⟩,z⟩
 ·refine⟨its.toList,r,⟨o,n,I.gV a o hk,hc,hd,by simpa using hs⟩,?_⟩;have e:=r.length;simp only[JS] at e
  lia
theorem Inv.tuple (I:Inv X pins σ H s) (h:dy X.K H a xs):∃its:List Value,au xs its/\IsTup s.heap a its.toArray/\xs.length<=sizeLine:=by
 rcases h with h | ⟨o,its,n,hk,hc,hs,hz,r⟩
 ·obtain⟨z,its,r,p⟩:=h.ok I.hok;exact⟨its,r,p,z⟩
 ·refine⟨its.toList,r,⟨o,I.gV a o hk,hc,n,by simpa using hs⟩,?_⟩;have e:=r.length;simp only[JS] at e
  lia
theorem Inv.ug (I:Inv X pins σ H s) (h:cW X.K H a xs) (h':cW X.K H a ys):xs=ys:=by
 obtain⟨its,r,⟨o,n,e,_,_,d⟩,_⟩:=I.list h;obtain⟨its',r',⟨o',n',e',_,_,d'⟩,_⟩:=I.list h';rw[e] at e';cases e';rw[d] at d';injection d' with d1 _;have:its=its':=by simpa using congrArg Array.toList d1
 subst this;exact r.inj r'
theorem Inv.qR (I:Inv X pins σ H s) (h:dy X.K H a xs) (h':dy X.K H a ys):xs=ys:=by
 obtain⟨its,r,⟨o,e,_,n,d⟩,_⟩:=I.tuple h;obtain⟨its',r',⟨o',e',_,n',d'⟩,_⟩:=I.tuple h';rw[e] at e';cases e';rw[d] at d';injection d' with d1 _;have:its=its':=by simpa using congrArg Array.toList d1
 subst this;exact r.inj r'
end
noncomputable abbrev Cx.bN (X:Cx) (E:Value->Shared->Prop):Cx:={X with xe:=E}
theorem Cx.Ok.bN {X:Cx} (ok:X.Ok) (E:Value->Shared->Prop):(X.bN E).Ok:=
 ⟨ok.mod,ok.kind,ok.glob,ok.blt,ok.above,ok.inj,ok.has,ok.vz,ok.hd,ok.frames,ok.xu,ok.y7,ok.bs,ok.vd,ok.lb,ok.ng,ok.fG,ok.xG⟩
theorem Cx.Ok.cT {X:Cx} {E:Value->Shared->Prop} (ok:(X.bN E).Ok):X.Ok:=
 ⟨ok.mod,ok.kind,ok.glob,ok.blt,ok.above,ok.inj,ok.has,ok.vz,ok.hd,ok.frames,ok.xu,ok.y7,ok.bs,ok.vd,ok.lb,ok.ng,ok.fG,ok.xG⟩
section
variable {X:Cx} {pins:List (Addr×Obj)} {σ:St} {H:Hp} {s:Shared} {E:Value->Shared->Prop}
theorem Inv.bN (I:Inv X pins σ H s) (E:Value->Shared->Prop):Inv (X.bN E) pins σ H s:=⟨I.ok.bN E,I.os,I.bare,I.base,I.loc,I.cell,I.free,I.bO,I.pin,I.hok,I.len⟩
theorem Inv.cT (I:Inv (X.bN E) pins σ H s):Inv X pins σ H s:=⟨I.ok.cT,I.os,I.bare,I.base,I.loc,I.cell,I.free,I.bO,I.pin,I.hok,I.len⟩
theorem SP.cT {D:Ends} {f:Flow} {s':Shared} (h:SP (X.bN E) pins D f s'):SP X pins D f s':=by
 cases f with
 | next=>obtain⟨σ',H',I,q⟩:=h;exact⟨σ',H',I.cT,q⟩
 | brk=>obtain⟨σ',H',I,q⟩:=h;exact⟨σ',H',I.cT,q⟩
 | cont=>obtain⟨σ',H',I,q⟩:=h;exact⟨σ',H',I.cT,q⟩
 | ret u=>obtain⟨v,σ',H',I,r,q⟩:=h;exact⟨v,σ',H',I.cT,r,q⟩
end
section
variable {X:Cx} {st:Stmt} {rest:List Stmt} {t u:TS} {e:Expr} {te:TE} {pos:Pos}
noncomputable def uR:TS:=λD σ H=>D.nx σ H
noncomputable def BE (t u:TS):TS:=λD σ H=>t {D with nx:=u D} σ H
theorem vT:lT X [] uR:=λ_ _ σ H _ I h=>wpAny_execs_nil ⟨σ,H,I,h⟩
theorem lP (h1:PS X st t) (h2:lT X rest u):lT X (st::rest) (BE t u):=by
 intro pins s σ H D I h;refine wpAny_execs_cons (bq (h1 pins s σ H {D with nx:=u D} I h) λf s1 q=>?_);cases f with
 | next=>obtain⟨σ',H',I',q⟩:=q;exact h2 pins s1 σ' H' D I' q
 | ret v=>exact q
 | brk=>exact q
 | cont=>exact q
theorem pH (h1:PS X st t):lT X [st] t:=by
 intro pins s σ H D I h;refine wpAny_execs_cons (bq (h1 pins s σ H D I h) λf s1 q=>?_);cases f with
 | next=>exact wpAny_execs_nil q
 | ret v=>exact q
 | brk=>exact q
 | cont=>exact q
noncomputable def uq:TS:=λD σ H=>D.bk σ H
noncomputable def xS:TS:=λD σ H=>D.ct σ H
theorem wG:PS X (.Pass pos) uR:=λ_ _ σ H _ I h=>wpAny_Pass ⟨σ,H,I,h⟩
theorem uM:PS X (.Break pos) uq:=λ_ _ σ H _ I h=>wpAny_Break ⟨σ,H,I,h⟩
theorem mZ:PS X (.Continue pos) xS:=λ_ _ σ H _ I h=>wpAny_Continue ⟨σ,H,I,h⟩
theorem Inv.quiet {pins:List (Addr×Obj)} {σ:St} {H:Hp} {s:Shared} (I:Inv X pins σ H s):interactive X.env=false:=by simp[interactive,I.ok.kind]
noncomputable def mx (te:TE):TS:=λD σ H=>te σ H λ_ H1=>D.nx σ H1
theorem iw (he:PE X e te) (hs:swapsWith e none pos.line X.env=pure false:=by rfl):PS X (.Expr e pos) (mx te):=by intro pins s σ H D I h;exact wpAny_Expr_any (bq (he pins s σ H _ I h) λv s1 ⟨x,H1,I1,r1,q1⟩=>⟨σ,H1,I1,q1⟩) I.quiet hs
noncomputable def zE (te:TE):TS:=λD σ H=>te σ H D.rt
theorem jh (he:PE X e te):PS X (.Return (some e) pos) (zE te):=by intro pins s σ H D I h;exact wpAny_Return_some (bq (he pins s σ H _ I h) λv s1 ⟨x,H1,I1,r1,q1⟩=>⟨x,σ,H1,I1,r1,q1⟩)
noncomputable def xX:TS:=λD _ H=>D.rt .a6 H
theorem wJ:PS X (.Return none pos) xX:=λ_ _ σ H _ I h=>wpAny_Return_none ⟨.a6,σ,H,I,rfl,h⟩
noncomputable def A8 (c:TT) (t u:TS):TS:=λD σ H=>c σ H λb H1=>if b=true then t D σ H1 else u D σ H1
theorem Ce {c:Expr} {a b:List Stmt} {tc:TT} (hc:PT X c tc) (ha:lT X a t) (hb:lT X b u):PS X (.If c a b pos) (A8 tc t u):=by
 intro pins s σ H D I h;refine wpAny_If (bq (hc pins s σ H _ I h) λd s1 ⟨H1,I1,q1⟩=>?_);cases d with
 | true=>exact ha pins s1 σ H1 D I1 q1
 | false=>exact hb pins s1 σ H1 D I1 q1
end
noncomputable abbrev TG:=V->St->Hp->(St->Hp->Prop)->Prop
noncomputable abbrev sf:=List V->St->Hp->(St->Hp->Prop)->Prop
noncomputable def PG (X:Cx) (target:Expr) (t:TG):Prop:=
 ∀(pins:List (Addr×Obj)) (s:Shared) (σ:St) (H:Hp) (v:V) (u:Value) (Q:St->Hp->Prop),Inv X pins σ H s->RelV v u->t v σ H Q->
  wpAny (model X.prog X.w) X.A (assign target X.env u) (λ_ s'=>∃σ' H',Inv X pins σ' H' s'/\Q σ' H') X.xe s
noncomputable def Bl (X:Cx) (ts:List Expr) (t:sf):Prop:=
 ∀(pins:List (Addr×Obj)) (s:Shared) (σ:St) (H:Hp) (vs:List V) (us:List Value) (Q:St->Hp->Prop),Inv X pins σ H s->au vs us->t vs σ H Q->
  wpAny (model X.prog X.w) X.A (assignInOrder ((assignEach ts X.env).map (·.2)) us) (λ_ s'=>∃σ' H',Inv X pins σ' H' s'/\Q σ' H') X.xe s
noncomputable abbrev zb:=V->V->V->Hp->(Hp->Prop)->Prop
noncomputable def BF (X:Cx) (t:zb):Prop:=
 ∀(pins:List (Addr×Obj)) (s:Shared) (σ:St) (H:Hp) (o i v:V) (ov iv u:Value) (Q:Hp->Prop),Inv X pins σ H s->RelV o ov->RelV i iv->RelV v u->t o i v H Q->
  wpAny (model X.prog X.w) X.A (setItem ov iv u) (λ_ s'=>∃H',Inv X pins σ H' s'/\Q H') X.xe s
section
variable {X:Cx} {pos:Pos}
noncomputable def cG (i:Nat):TG:=λv σ H Q=>Q (σ.set i (some v)) H
theorem v5 {i:Nat} {x:Str} (hN:X.N.Nodup) (hi:X.N[i]?=some x) (hx:Loc X.env.scope x) (hf:X.fn x=true\/X.env.scope.names.lookup x=some .local:=by first | exact .inl rfl | exact .inr rfl | assumption):PG X (.Name x pos) (cG i):=by intro pins s σ H v u Q I r h;exact wpAny_assign_Name (jf I hN hi hx r (λs' I'=>⟨_,H,I',h⟩) hf)
noncomputable def yn:sf:=λvs σ H Q=>vs=[]/\Q σ H
noncomputable def uk (t:TG) (u:sf):sf:=λvs σ H Q=>∃v r,vs=v::r/\t v σ H λσ' H'=>u r σ' H' Q
theorem vw:Bl X [] yn:=by intro pins s σ H vs us Q I r h;obtain⟨e,h⟩:=h;subst e;cases r;exact assignInOrder_nil ⟨σ,H,I,h⟩
theorem u7 {e:Expr} {es:List Expr} {t:TG} {u:sf} (h1:PG X e t) (h2:Bl X es u)
  (hs:(assignEach (e::es) X.env).map (·.2)=assign e X.env::(assignEach es X.env).map (·.2):=by rfl):Bl X (e::es) (uk t u):=by
 intro pins s σ H vs us Q I r h;obtain⟨v,vr,e1,h⟩:=h;subst e1;cases r with
 | cons r rr=>rw[hs];refine assignInOrder_cons (bq (h1 pins s σ H _ _ _ I r h) λ_ s1 ⟨σ1,H1,I1,q1⟩=>?_);exact h2 pins s1 σ1 H1 _ _ Q I1 rr q1
noncomputable def yz (K:PySem.W.Frag) (n:Nat) (t:sf):TG:=λv σ H Q=>∃a xs,v= .ref a/\dy K H a xs/\xs.length=n/\t xs σ H Q
theorem zt {es:List Expr} {k:Nat} {t:sf} {n:Nat} (hc:X.calm=true) (h:Bl X es t)
  (hn:(assignEach es X.env).length=n:=by rfl) (q9:(assignEach es X.env).findIdx? (·.1)=none:=by rfl):PG X (.Tuple es k pos) (yz X.K n t):=by
 intro pins s σ H v u Q I r hw;obtain⟨a,xs,e1,hq,hl,hw⟩:=hw;subst e1;cases r;obtain⟨its,rv,ht,hz⟩:=I.tuple hq;refine assign_Tuple_tuple (I.ok.hd hc) ht (by simp[hn,<-hl,rv.length]) q9 λh' hx=>?_
 have I1:Inv X pins σ H {s with heap:=h'}:=I.kept (t':=s.toks) λb o e=>hx b o (J4 (JI e)) e
 exact h pins _ σ H xs _ Q I1 (by simpa using rv) hw
noncomputable def CP (to ti:TE) (t:zb):TG:=λv σ H Q=>to σ H λo H1=>ti σ H1 λi H2=>t o i v H2 λH3=>Q σ H3
theorem Al {o i:Expr} {to ti:TE} {t:zb} (ho:PE X o to) (hi:PE X i ti) (hs:BF X t)
  (ha:∀v,assign (.Subscript o i pos) X.env v=(do
   let ov<-holding [v] (eval o X.env)
   let iv<-holding [v,ov] (eval i X.env)
   standAt pos
   holding [v,ov,iv] (setItem ov iv v)
   release [v,ov,iv] []):=by intro _;rfl):PG X (.Subscript o i pos) (CP to ti t):=by
 intro pins s σ H v u Q I r h;rw[ha];refine Jv (wpAny_holding (bq (ho pins s σ H _ I h) λov s1 ⟨x,H1,I1,r1,q1⟩=>?_));refine Jv (wpAny_holding (bq (hi pins s1 σ H1 _ I1 q1) λiv s2 ⟨y,H2,I2,r2,q2⟩=>?_));refine Jv (wpAny_standAt (Jv (wpAny_holding (bq (hs pins s2 σ H2 x y v ov iv u _ I2 r1 r2 r q2) λ_ s3 ⟨H3,I3,q3⟩=>?_))));exact wpAny_release ⟨σ,H3,I3,q3⟩
noncomputable def lC (te:TE) (g:TG):TS:=λD σ H=>te σ H λx H1=>g x σ H1 D.nx
theorem zJ {tg e:Expr} {te:TE} {g:TG} (he:PE X e te) (hg:PG X tg g) (hs:swapsWithSole [tg] e pos.line X.env=pure false:=by rfl) (hw:swappedStores [tg] e X.env=pure none:=by rfl)
  (h1:(assignEach [tg] X.env).map (·.2)=[assign tg X.env]:=by rfl):PS X (.Assign [tg] e pos) (lC te g):=by
 intro pins s σ H D I h;refine wpAny_Assign_stores (bq (he pins s σ H _ I h) λv s1 ⟨x,H1,I1,r1,q1⟩=>?_) hs hw;rw[h1];exact bq (hg pins s1 σ H1 x v _ I1 r1 q1) λ_ s2 q=>q
theorem kN {i:Nat} {x:Str} {e:Expr} {te:TE} {pos':Pos} (hN:X.N.Nodup) (hi:X.N[i]?=some x) (hx:Loc X.env.scope x) (he:PE X e te) (hs:swapsWith e (some (.Name x pos')) pos.line X.env=pure false:=by rfl) (hf:X.fn x=true\/X.env.scope.names.lookup x=some .local:=by first | exact .inl rfl | exact .inr rfl | assumption):
  PS X (.Assign [.Name x pos'] e pos) (lC te (cG i)):=by
 intro pins s σ H D I h;refine wpAny_Assign_Name (bq (he pins s σ H _ I h) λv s1 ⟨y,H1,I1,r1,q1⟩=>?_) hs;exact jf I1 hN hi hx r1 (λs2 I2=>⟨_,H1,I2,q1⟩) hf
end
structure It where
 go:Nat->Hp->Prop
 yld:Nat->Hp->V->Hp->Prop
 stop:Nat->Hp->Prop
noncomputable def eR (X:Cx) (pins:List (Addr×Obj)) (H:Hp) (b:Addr):Prop:=
 H b=none/\b≠X.env.locals/\b∉X.fs/\(b∈X.ex\/X.s₀.heap.objs.size<=b)/\(∀x c,X.env.cells.lookup x=some c->c≠b)/\∀p∈X.pn++pins,p.1≠b
theorem Inv.n9 {X:Cx} {pins:List (Addr×Obj)} {σ:St} {H H':Hp} {s:Shared} {b:Addr} (I:Inv X pins σ H s) (hb:s.heap.objs.size<=b) (hn:H' b=none):eR X pins H' b:=by
 refine⟨hn,Nat.ne_of_gt (JT I.lt hb),I.EU hb,.inr (JJ I.sz hb),λx c e z=>?_,λp hp z=>?_⟩
 ·obtain⟨v,q⟩:=I.cell x c e;exact absurd (JT q.lt (by rw[z];exact hb)) (Nat.lt_irrefl _)
 ·exact absurd (JT (JI (I.pin p hp).1) (by rw[z];exact hb)) (Nat.lt_irrefl _)
structure Turn (P:Program) (w:World) (K:PySem.W.Frag) (tg:Expr) (J:It) (fp:List Addr) (it:Addr) (tn:Nat->Heap->Prop):Prop where
 mem:it∈fp
 obj:∀i h,tn i h->∀b∈fp,∃o,h.get? b=some o/\∀v,o.data≠ .cell v
 keep:∀i h h',tn i h->(∀b∈fp,∀o,h.get? b=some o->h'.get? b=some o)->tn i h'
 item:∀(X:Cx),X.prog=P->X.w=w->X.K=K->X.calm=true->∀(i:Nat) (pins:List (Addr×Obj)) (s:Shared) (σ:St) (H:Hp) (E:Value->Shared->Prop),Inv X pins σ H s->(∀b∈fp,eR X pins H b)->tn i s.heap->J.go i H->
  wpAny (model P w) X.A (pyNext (.ref it)) (λr s1=>∃u,r=some u/\
   wpAny (model P w) X.A (letOwnedTupleGo tg (.ref it) u) (λ_ s2=>∃x H',Inv X pins σ H' s2/\RelV x u/\J.yld i H x H'/\tn (i + 1) s2.heap/\∀b∈fp,H' b=none) E s1) E s
 done:∀(X:Cx),X.prog=P->X.w=w->X.K=K->X.calm=true->∀(i:Nat) (pins:List (Addr×Obj)) (s:Shared) (σ:St) (H:Hp) (E:Value->Shared->Prop),Inv X pins σ H s->(∀b∈fp,eR X pins H b)->tn i s.heap->J.stop i H->
  wpAny (model P w) X.A (pyNext (.ref it)) (λr s1=>r=none/\Inv X pins σ H s1) E s
 self:∀(A:Around) (i:Nat) (s:Shared) (Q:Value->Shared->Prop) (E:Value->Shared->Prop),tn i s.heap->Q (.ref it) s->wpAny (model P w) A (pyIter (.ref it)) Q E s
noncomputable abbrev TI:=St->Hp->(It->Hp->Prop)->Prop
noncomputable def Gi (X:Cx) (pins:List (Addr×Obj)) (σ:St) (tg:Expr) (R:It->Hp->Prop) (lJ:Value) (s2:Shared):Prop:=
 ∃(it:Addr) (fp:List Addr) (tn:Nat->Heap->Prop) (J:It) (H':Hp),lJ= .ref it/\Inv X pins σ H' s2/\Turn X.prog X.w X.K tg J fp it tn/\tn 0 s2.heap/\(∀b∈fp,eR X pins H' b)/\R J H'
noncomputable def PI (X:Cx) (tg iter:Expr) (wi:TI):Prop:=
 ∀(pins:List (Addr×Obj)) (s:Shared) (σ:St) (H:Hp) (R:It->Hp->Prop),Inv X pins σ H s->wi σ H R->
  wpAny (model X.prog X.w) X.A (eval iter X.env) (λv s1=>wpAny (model X.prog X.w) X.A (pyIter v) (Gi X pins σ tg R) X.xe s1) X.xe s
theorem tv {M:Model} {A:Around} {E:Value->Shared->Prop} {s:Shared} {tg:Expr} {it:Addr} {u:Value} {o:Obj} {n:String} {vs:Array Value} {Q:Unit->Shared->Prop} (ho:s.heap.get? it=some o) (hc:o.cls= .type n) (hd:o.data= .fields vs)
  (hn:["enumerate","zip","dict_itemiterator","dict_reverseitemiterator","odict_iterator","itertools.zip_longest","itertools.pairwise"].contains n=false) (hQ:Q () s):wpAny M A (letOwnedTupleGo tg (.ref it) u) Q E s:=by
 unfold letOwnedTupleGo;cases tg <;> first
  | exact Jy hQ
  | (cases u <;> first
    | exact Jy hQ
    | (refine Jv (wpAny_load ho ?_);rw[hc,hd];show wpAny M A (if (["enumerate","zip","dict_itemiterator","dict_reverseitemiterator","odict_iterator","itertools.zip_longest","itertools.pairwise"].contains n&&vs[0]?==some (rawInt _))=true then _ else _) Q E s;rw[if_neg (by intro h;rw[hn,Bool.false_and] at h;cases h)];exact Jy hQ))
noncomputable def Dw (K:PySem.W.Frag) (a:Addr):It:=
 ⟨λi H=>∃xs x,cW K H a xs/\xs[i]?=some x,λi H x H'=>H'=H/\∀xs,cW K H a xs->xs[i]?=some x,λi H=>∃xs,cW K H a xs/\xs.length<=i⟩
noncomputable def F0 (K:PySem.W.Frag) (a:Addr):It:=
 ⟨λi H=>∃xs x,dy K H a xs/\xs[i]?=some x,λi H x H'=>H'=H/\∀xs,dy K H a xs->xs[i]?=some x,λi H=>∃xs,dy K H a xs/\xs.length<=i⟩
noncomputable def DP (lo:Int) (n:Nat):It:=⟨λi _=>i < n,λi H x H'=>H'=H/\x= .int (lo + i),λi _=>n<=i⟩
theorem qN {P:Program} {w:World} {K:PySem.W.Frag} {tg:Expr} (a it:Addr):Turn P w K tg (Dw K a) [it] it (λi h=>h.IsListIter it a i) where
 mem:=by simp
 obj:=λi h st b hb=>by
  have e:b=it:=by simpa using hb
  subst e;obtain⟨o,e,c,d⟩:=st;exact⟨o,e,λv z=>by rw[d] at z;cases z⟩
 keep:=λi h h' st k=>st.at λo e=>k it (by simp) o e
 item:=by
  intro X hP hw hK hc i pins s σ H E I hf st hg;subst hP hw hK;obtain⟨xs,x,hq,hx⟩:=hg;obtain⟨its,rv,p,hz⟩:=I.list hq;obtain⟨u,hu,ru⟩:=rv.get hx;obtain⟨f0,f1,f2,f3,f4,f5⟩:=hf it (by simp);refine wpAny_pyNext_list_item st p.isList (x:=u) (by simpa using hu) λh' j3 sb=>?_
  have I1:Inv X pins σ H {s with heap:=h'}:=I.turned (t':=s.toks) (λb o hb e=>(sb.2 b hb).trans e) f0 f1 f3 f4 f5;obtain⟨o,e,c,d⟩:=id j3;exact⟨u,rfl,tv (s:={s with heap:=h'}) e c d (by decide) ⟨x,H,I1,ru,⟨rfl,λys hy=>by rw[I.ug hy hq];exact hx⟩,j3,λb hb=>(hf b hb).1⟩⟩
 done:=by intro X hP hw hK hc i pins s σ H E I hf st hg;subst hP hw hK;obtain⟨xs,hq,hx⟩:=hg;obtain⟨its,rv,p,hz⟩:=I.list hq;obtain⟨f0,f1,f2,f3,f4,f5⟩:=hf it (by simp);have hl:=rv.length;exact wpAny_pyNext_list_end (I.ok.hd hc) st p.isList (by simp;lia) λh' eb=>⟨rfl,I.turned (t':=s.toks) (λb o hb e=>eb b o hb e) f0 f1 f3 f4 f5⟩
 self:=λ_ _ _ _ _ st h=>wpAny_pyIter_listiter st h
theorem ou {P:Program} {w:World} {K:PySem.W.Frag} {tg:Expr} (a it:Addr):Turn P w K tg (F0 K a) [it] it (λi h=>h.IsTupleIter it a i) where
 mem:=by simp
 obj:=λi h st b hb=>by
  have e:b=it:=by simpa using hb
  subst e;obtain⟨o,e,c,d⟩:=st;exact⟨o,e,λv z=>by rw[d] at z;cases z⟩
 keep:=λi h h' st k=>st.at λo e=>k it (by simp) o e
 item:=by
  intro X hP hw hK hc i pins s σ H E I hf st hg;subst hP hw hK;obtain⟨xs,x,hq,hx⟩:=hg;obtain⟨its,rv,p,hz⟩:=I.tuple hq;obtain⟨u,hu,ru⟩:=rv.get hx;obtain⟨f0,f1,f2,f3,f4,f5⟩:=hf it (by simp);refine wpAny_pyNext_tuple_item st (show s.heap.IsTuple a its.toArray from p) (x:=u) (by simpa using hu) λh' j3 sb=>?_
  have I1:Inv X pins σ H {s with heap:=h'}:=I.turned (t':=s.toks) (λb o hb e=>(sb.2 b hb).trans e) f0 f1 f3 f4 f5;obtain⟨o,e,c,d⟩:=id j3;exact⟨u,rfl,tv (s:={s with heap:=h'}) e c d (by decide) ⟨x,H,I1,ru,⟨rfl,λys hy=>by rw[I.qR hy hq];exact hx⟩,j3,λb hb=>(hf b hb).1⟩⟩
 done:=by intro X hP hw hK hc i pins s σ H E I hf st hg;subst hP hw hK;obtain⟨xs,hq,hx⟩:=hg;obtain⟨its,rv,p,hz⟩:=I.tuple hq;obtain⟨f0,f1,f2,f3,f4,f5⟩:=hf it (by simp);have hl:=rv.length;exact wpAny_pyNext_tuple_end (I.ok.hd hc) st (show s.heap.IsTuple a its.toArray from p) (by simp;lia) λh' eb=>⟨rfl,I.turned (t':=s.toks) (λb o hb e=>eb b o hb e) f0 f1 f3 f4 f5⟩
 self:=λ_ _ _ _ _ st h=>wpAny_pyIter_tupleiter st h
theorem nL {P:Program} {w:World} {K:PySem.W.Frag} {tg:Expr} (it:Addr) (lo:Int) (n:Nat):Turn P w K tg (DP lo n) [it] it (λi h=>IsRangeIter h it (lo + (i:Nat) * 1) ((n:Int) - (i:Nat)) 1) where
 mem:=by simp
 obj:=λi h st b hb=>by
  have e:b=it:=by simpa using hb
  subst e;exact⟨_,st,λv z=>by
   have z':Data.fields _=Data.cell v:=z;cases z'⟩
 keep:=λi h h' st k=>k it (by simp) _ st
 item:=by
  intro X hP hw hK hc i pins s σ H E I hf st hg;subst hP hw hK;obtain⟨f0,f1,f2,f3,f4,f5⟩:=hf it (by simp);have W:=Walks.range (prog:=X.prog) (w:=X.w) (I.ok.hd hc) it lo 1 n;refine W.item i s _ _ hg st λv h' tk hv j3 kk=>?_
  obtain⟨t,rfl⟩:=hv;have I1:Inv X pins σ H {s with heap:=h',toks:=tk}:=I.turned (λb o hb e=>kk b o (by simpa using hb) e) f0 f1 f3 f4 f5;refine⟨_,rfl,tv (s:={s with heap:=h',toks:=tk}) (n:="range_iterator") j3 rfl rfl (by decide) ⟨.int (lo + i),H,I1,⟨t,?_⟩,⟨rfl,rfl⟩,j3,λb hb=>(hf b hb).1⟩⟩;rw[Int.mul_one]
 done:=by intro X hP hw hK hc i pins s σ H E I hf st hg;subst hP hw hK;obtain⟨f0,f1,f2,f3,f4,f5⟩:=hf it (by simp);exact wpAny_pyNext_range_end (I.ok.hd hc) st (by have:n<=i:=hg;lia) λh' eb=>⟨rfl,I.turned (t':=s.toks) (λb o hb e=>eb b o hb e) f0 f1 f3 f4 f5⟩
 self:=λ_ _ _ _ _ st h=>wpAny_pyIter_rangeiter st h
end L2
namespace L2
open PySem PySem.Spec PyProof.Rows
section
variable {X:Cx} {tg:Expr}
theorem ux {pins:List (Addr×Obj)} {σ:St} {H:Hp} {s:Shared} {R:It->Hp->Prop} {E:Value->Shared->Prop} {lo hi:Int} {t u v:Tok} {tk:Nat} (I:Inv X pins σ H s) (h1: -(2 ^ 62)<=lo) (h2:lo < 2 ^ 62) (h3: -(2 ^ 62)<=hi) (h4:hi < 2 ^ 62)
  (q:R (DP lo (hi - lo).toNat) H):wpAny (model X.prog X.w) X.A (pyIter (.ref s.heap.objs.size)) (Gi X pins σ tg R) E {s with heap:=s.heap.push {cls:= .type "range",data:= .fields #[.int lo t,.int hi u,.int 1 v]},toks:=tk}:=by
 refine wpAny_pyIter_range (IsRange.new ..) (small_one h1 h2 h3 h4) ?_;have I1:Inv X pins σ H {s with heap:=s.heap.push {cls:= .type "range",data:= .fields #[.int lo t,.int hi u,.int 1 v]},toks:=tk}:=I.kept λb o e=>Jx _ e
 refine⟨(s.heap.push {cls:= .type "range",data:= .fields #[.int lo t,.int hi u,.int 1 v]}).objs.size,[(s.heap.push {cls:= .type "range",data:= .fields #[.int lo t,.int hi u,.int 1 v]}).objs.size],_,_,H,rfl,
  I1.kept (t':=tk) λb o e=>Jx _ e,nL _ lo (hi - lo).toNat,?_,λb hb=>?_,q⟩
 ·have e1:lo + ((0:Nat):Int) * 1=lo:=by simp
  have e2:(((hi - lo).toNat:Nat):Int) - ((0:Nat):Int)=Builtin.Range.rangeSize lo hi 1:=by rw[rangeSize_one];split <;> lia
  show IsRangeIter _ _ (lo + ((0:Nat):Int) * 1) ((((hi - lo).toNat:Nat):Int) - ((0:Nat):Int)) 1;rw[e1,e2];exact JG _ rfl
 ·have e:b=(s.heap.push {cls:= .type "range",data:= .fields #[.int lo t,.int hi u,.int 1 v]}).objs.size:=by simpa using hb
  subst e;exact I1.n9 (JE _) (I1.hok.fresh (JE _))
noncomputable def CY (ta:TA):TI:=λσ H R=>ta σ H λvs H1=>∃j:Int,vs=[.int j]/\ -(2 ^ 62)<=j/\j < 2 ^ 62/\R (DP 0 j.toNat) H1
theorem qA {a:Expr} {ta:TA} {p pos:Pos} (hg:Gl X "range") (hm:X.mg "range"=none) (ha:PA X [a] ta) (hs:starEach [a] X.env=[(false,eval a X.env)]:=by rfl):PI X tg (.Call (.Name "range" p) [a] [] pos) (CY ta):=by
 intro pins s σ H R I h;refine Call_ (gd I hg hm boot_range (PyProof.Rows.callWith_type1 (bq (ha pos pins s σ H _ I h) λus s1 ⟨vs,H1,I1,r1,q1⟩=>?_) hs rfl));obtain⟨j,e,q1,q2,q⟩:=q1;subst e;cases r1 with
 | cons r rr=>cases rr;obtain⟨t,rfl⟩:=r;exact call_range_1 (ux I1 (by lia) (by lia) q1 q2 (by simpa using q))
noncomputable def A9 (wi:TI) (g:TG) (tb:TS):TS:=λD σ H=>wi σ H λJ H1=>∃W:Nat->Nat->St->Hp->Prop,(∃m,W 0 m σ H1)/\∀i m σ H,W i m σ H->
 (J.stop i H/\D.nx σ H)\/(J.go i H/\∃N:St->Hp->Prop,(∀σ' H',N σ' H'->∃m',m' < m/\W (i + 1) m' σ' H')/\∀x H',J.yld i H x H'->g x σ H' λσ2 H2=>tb {D with nx:=N,ct:=N,bk:=D.nx} σ2 H2)
noncomputable def jd (fp:List Addr) (h:Heap):List (Addr×Obj):=fp.filterMap λb=>(h.get? b).map λo=>(b,o)
theorem dE {fp:List Addr} {h:Heap} {b:Addr} {o:Obj} (hb:b∈fp) (e:h.get? b=some o):(b,o)∈jd fp h:=List.mem_filterMap.mpr ⟨b,hb,by rw[e];rfl⟩
theorem qO {fp:List Addr} {h:Heap} {p:Addr×Obj} (hp:p∈jd fp h):p.1∈fp/\h.get? p.1=some p.2:=by
 obtain⟨b,hb,e⟩:=List.mem_filterMap.mp hp;cases q:h.get? b with
 | none=>rw[q] at e;cases e
 | some o=>rw[q] at e;have e':(b,o)=p:=Option.some.inj e;subst e';exact⟨hb,q⟩
theorem Inv.pinned {pins:List (Addr×Obj)} {σ:St} {H:Hp} {s:Shared} {fp:List Addr} (I:Inv X pins σ H s) (hf:∀b∈fp,eR X pins H b) (ho:∀b∈fp,∃o,s.heap.get? b=some o/\∀v,o.data≠ .cell v):Inv X (pins++jd fp s.heap) σ H s:=
 I.ey λp hp=>(JU.mp hp).elim (λz=>I.pin p (J5 _ z)) λz=>by obtain⟨hb,e⟩:=qO z;obtain⟨f0,f1,f2,_⟩:=hf p.1 hb;obtain⟨o,e',d⟩:=ho p.1 hb;rw[e] at e';cases e';exact⟨e,f0,f1,f2,d⟩
theorem Inv.fN {pins pl:List (Addr×Obj)} {σ:St} {H:Hp} {s:Shared} (I:Inv X (pins++pl) σ H s):Inv X pins σ H s:=I.ey λp hp=>I.pin p (J5 _ (List.mem_append_left _ hp))
theorem zF {iter:Expr} {body:List Stmt} {wi:TI} {g:TG} {tb:TS} {pos:Pos} (hp:PassesOwn (model X.prog X.w) X.A X.env X.xe) (hc:X.calm=true) (hi:PI X tg iter wi) (hg:PG X tg g) (hb:lT X body tb)
  (hs:∀x,foldedSetIterable iter X.env x=pure x:=by intro _;rfl):PS X (.For tg iter body [] pos) (A9 wi g tb):=by
 intro pins s σ H D I h;refine wpAny_For (bq (hi pins s σ H _ I h) λv s1 h1=>bq h1 λlJ s2 h2=>?_) hs;obtain⟨it,fp,tn,J,H2,e,I2,T,rG,f2,W,⟨m0,w0⟩,turn⟩:=h2;subst e;have kb:∀{H':Hp},(∀b∈fp,H' b=none)->∀b∈fp,eR X pins H' b:=λhn b hb=>⟨hn b hb,(f2 b hb).2⟩
 refine codeAny_forLoop_any (λn s'=>∃i σ' H',Inv X pins σ' H' s'/\tn i s'.heap/\(∀b∈fp,H' b=none)/\W i n σ' H') ?_ m0 ⟨0,σ,H2,I2,rG,λb hb=>(f2 b hb).1,w0⟩;rintro n s3 ⟨i,σ3,H3,I3,Gv,GW,w3⟩;rcases turn i n σ3 H3 w3 with ⟨stop,qn⟩ | ⟨go,N,hN,step⟩
 ·refine wpAny_passesOwn hp (bq (T.done X rfl rfl rfl hc i pins s3 σ3 H3 X.xe I3 (kb GW) Gv stop) λr s4 ⟨hr,I4⟩=>?_);subst hr;exact wpAny_execs_nil ⟨σ3,H3,I4,qn⟩
 ·refine wpAny_passesOwn hp (bq (T.item X rfl rfl rfl hc i pins s3 σ3 H3 X.xe I3 (kb GW) Gv go) λr s4 ⟨u,hr,h4⟩=>?_);subst hr;refine wpAny_passesOwn hp (bq h4 λ_ s5 ⟨x,H5,I5,r5,y5,Fb,D3⟩=>?_);have Hq:=I5.pinned (kb D3) (T.obj _ _ Fb);refine wpAny_passesOwn hp (bq (hg _ s5 σ3 H5 x u _ Hq r5 (step x H5 y5)) λ_ s6 ⟨σ6,H6,I6,q6⟩=>?_);refine wpAny_passesOwn hp (bq (hb _ s6 σ6 H6 _ I6 q6) λf s7 q7=>?_);have again:∀{σ7:St} {H7:Hp},Inv X (pins++jd fp s5.heap) σ7 H7 s7->N σ7 H7->∃m,m < n/\∃i σ' H',Inv X pins σ' H' s7/\tn i s7.heap/\(∀b∈fp,H' b=none)/\W i m σ' H':=λ {σ7 H7} I7 n7=>by obtain⟨m',hm,w7⟩:=hN σ7 H7 n7;refine⟨m',hm,i + 1,σ7,H7,I7.fN,T.keep _ _ _ Fb λb hb o e=>(I7.pin (b,o) (J5 _ (J5 _ (dE hb e)))).1,λb hb=>?_,w7⟩;obtain⟨o,e,d⟩:=T.obj _ _ Fb b hb;exact(I7.pin (b,o) (J5 _ (J5 _ (dE hb e)))).2.1
  cases f with
  | next=>obtain⟨σ7,H7,I7,n7⟩:=q7;exact again I7 n7
  | cont=>obtain⟨σ7,H7,I7,n7⟩:=q7;exact again I7 n7
  | brk=>obtain⟨σ7,H7,I7,q7⟩:=q7;exact⟨σ7,H7,I7.fN,q7⟩
  | ret v=>obtain⟨x7,σ7,H7,I7,r7,q7⟩:=q7;exact⟨x7,σ7,H7,I7.fN,r7,q7⟩
end
end L2
namespace L2
open PySem PySem.Spec PyProof.Rows
noncomputable abbrev R2:=V->V->Hp->VK->Prop
noncomputable def jK (X:Cx) (f:Value->Value->Sem Value) (r:R2):Prop:=
 ∀(pins:List (Addr×Obj)) (s:Shared) (σ:St) (H:Hp) (x y:V) (v u:Value) (Q:VK),Inv X pins σ H s->RelV x v->RelV y u->r x y H Q->
  wpAny (model X.prog X.w) X.A (f v u) (EP X pins σ Q) X.xe s
noncomputable def Eu (X:Cx) (f:Value->Sem Value) (r:V->Hp->VK->Prop):Prop:=
 ∀(pins:List (Addr×Obj)) (s:Shared) (σ:St) (H:Hp) (x:V) (v:Value) (Q:VK),Inv X pins σ H s->RelV x v->r x H Q->
  wpAny (model X.prog X.w) X.A (f v) (EP X pins σ Q) X.xe s
noncomputable def fI (X:Cx) (f:Value) (r:List V->Hp->VK->Prop):Prop:=
 ∀(pins:List (Addr×Obj)) (s:Shared) (σ:St) (H:Hp) (xs:List V) (us:List Value) (Q:VK),Inv X pins σ H s->au xs us->r xs H Q->
  wpAny (model X.prog X.w) X.A (call f us) (EP X pins σ Q) X.xe s
noncomputable def Fv (X:Cx) (r:V->Hp->(Bool->Hp->Prop)->Prop):Prop:=
 ∀(pins:List (Addr×Obj)) (s:Shared) (σ:St) (H:Hp) (x:V) (v:Value) (Q:Bool->Hp->Prop),Inv X pins σ H s->RelV x v->r x H Q->
  wpAny (model X.prog X.w) X.A (truthy v) (TP X pins σ Q) X.xe s
noncomputable def Dq (r:R2) (ta tb:TE):TE:=λσ H Q=>ta σ H λx H1=>tb σ H1 λy H2=>r x y H2 Q
noncomputable def Ia (r:V->Hp->VK->Prop) (ta:TE):TE:=λσ H Q=>ta σ H λx H1=>r x H1 Q
noncomputable def rI (C:Int->Int->Prop) (g:Int->Int->V):R2:=λx y H Q=>∃i j,x= .int i/\y= .int j/\C i j/\Q (g i j) H
noncomputable def As (g:Int->Int->V):R2:=λx y H Q=>∃i j,x= .int i/\y= .int j/\Q (g i j) H
noncomputable def rU (g:Int->V):V->Hp->VK->Prop:=λx H Q=>∃i,x= .int i/\Q (g i) H
section
variable {X:Cx} {a b c:Expr} {ta tb tc:TE} {pos:Pos}
theorem yH (ha:PE X a ta) (hb:PE X b tb) {pins:List (Addr×Obj)} {s:Shared} {σ:St} {H:Hp} {R:V->V->Hp->Prop} (I:Inv X pins σ H s)
  (h:ta σ H λx H1=>tb σ H1 λy H2=>R x y H2) {Q:Value->Shared->Prop} {f:Value->Value->Sem Value}
  (hf:∀v u s2 x y H2,Inv X pins σ H2 s2->RelV x v->RelV y u->R x y H2->wpAny (model X.prog X.w) X.A (f v u) Q X.xe s2):
  wpAny (model X.prog X.w) X.A (eval a X.env) (λv s₁=>wpAny (model X.prog X.w) X.A (eval b X.env) (λu s₂=>wpAny (model X.prog X.w) X.A (f v u) Q X.xe s₂) X.xe s₁) X.xe s:=by
 refine bq (ha pins s σ H _ I h) λv s1 ⟨x,H1,I1,r1,q1⟩=>?_
 refine bq (hb pins s1 σ H1 _ I1 q1) λu s2 ⟨y,H2,I2,r2,q2⟩=>?_
 exact hf v u s2 x y H2 I2 r1 r2 q2
theorem Di {op:Operator} {r:R2} (ho:jK X (binaryOp op) r) (ha:PE X a ta) (hb:PE X b tb):PE X (.BinOp a op b pos) (Dq r ta tb):=by intro pins s σ H Q I h;exact wpAny_BinOp (yH ha hb I h λv u s2 x y H2 I2 rx ry q=>ho pins s2 σ H2 x y v u Q I2 rx ry q)
theorem A6 {op:UnaryOp} {r:V->Hp->VK->Prop} (ho:Eu X (unaryOp op) r) (ha:PE X a ta):PE X (.UnaryOp op a pos) (Ia r ta):=by intro pins s σ H Q I h;exact UnaryOp_ (bq (ha pins s σ H _ I h) λv s1 ⟨x,H1,I1,r1,q1⟩=>ho pins s1 σ H1 x v Q I1 r1 q1)
theorem DJ {f:Value->Value->Sem Value} {C:Int->Int->Prop} {g:Int->Int->Int}
  (rule:∀(i j:Int) (t u:Tok) (s:Shared) (Q:Value->Shared->Prop) (E:Value->Shared->Prop),C i j->Q (.int (g i j) s.toks) {s with toks:=s.toks + 1}->wpAny (model X.prog X.w) X.A (f (.int i t) (.int j u)) Q E s):
  jK X f (rI C λi j=> .int (g i j)):=by
 intro pins s σ H x y v u Q I rx ry h;obtain⟨i,j,rfl,rfl,hc,q⟩:=h;obtain⟨t,rfl⟩:=rx;obtain⟨t',rfl⟩:=ry;exact rule i j t t' s _ _ hc ⟨.int (g i j),H,I.tok _,⟨_,rfl⟩,q⟩
theorem ES {f:Value->Value->Sem Value} {g:Int->Int->Int}
  (rule:∀(i j:Int) (t u:Tok) (s:Shared) (Q:Value->Shared->Prop) (E:Value->Shared->Prop),Q (.int (g i j) s.toks) {s with toks:=s.toks + 1}->wpAny (model X.prog X.w) X.A (f (.int i t) (.int j u)) Q E s):
  jK X f (As λi j=> .int (g i j)):=by
 intro pins s σ H x y v u Q I rx ry h;obtain⟨i,j,rfl,rfl,q⟩:=h;obtain⟨t,rfl⟩:=rx;obtain⟨t',rfl⟩:=ry;exact rule i j t t' s _ _ ⟨.int (g i j),H,I.tok _,⟨_,rfl⟩,q⟩
theorem vG {f:Value->Value->Sem Value} {g:Int->Int->Bool}
  (rule:∀(i j:Int) (t u:Tok) (s:Shared) (Q:Value->Shared->Prop) (E:Value->Shared->Prop),Q (.bool (g i j)) s->wpAny (model X.prog X.w) X.A (f (.int i t) (.int j u)) Q E s):
  jK X f (As λi j=> .bl (g i j)):=by
 intro pins s σ H x y v u Q I rx ry h;obtain⟨i,j,rfl,rfl,q⟩:=h;obtain⟨t,rfl⟩:=rx;obtain⟨t',rfl⟩:=ry;exact rule i j t t' s _ _ ⟨.bl (g i j),H,I,rfl,q⟩
noncomputable def Fy (i j:Int):Prop:=0 < j/\j < 1073741824
noncomputable def yC (i j:Int):Prop:=(-(2 ^ 64) < i/\i < 2 ^ 64)\/(-(2 ^ 64) < j/\j < 2 ^ 64)
theorem yC.ok {i j:Int} (h:yC i j):IntMulOk i j:=by
 rcases h with ⟨h1,h2⟩ | ⟨h1,h2⟩
 ·exact .of_left (intBits_le_64 h1 h2)
 ·exact .of_right (intBits_le_64 h1 h2)
theorem zR:jK X (binaryOp .Add) (As λi j=> .int (i + j)):=ES λ_ _ _ _ _ _ _ q=>add_int q
theorem zD:jK X (binaryOp .Mult) (rI yC λi j=> .int (i * j)):=DJ λ_ _ _ _ _ _ _ hc q=>mul_int q hc.ok
theorem Dl:jK X (binaryOp .FloorDiv) (rI Fy λi j=> .int (i / j)):=DJ λi j _ _ _ _ _ hc q=>by have h1:(0:Int) < j:=hc.1;have h2:j < 1073741824:=hc.2;exact floordiv_int (by lia) (by rw[Int.fdiv_eq_ediv_of_nonneg i (by lia)];exact q) (.inl (PyProof.noPylong_small (by lia)))
theorem zX:jK X (binaryOp .Mod) (rI (λ_ j=>0 < j) λi j=> .int (i % j)):=DJ λi j _ _ _ _ _ hc q=>by have h1:(0:Int) < j:=hc;exact mod_int' (by lia) (by rw[Int.fmod_eq_emod_of_nonneg i (by lia)];exact q)
theorem Im {f:Value->Sem Value} {g:Int->Int}
  (rule:∀(i:Int) (t:Tok) (s:Shared) (Q:Value->Shared->Prop) (E:Value->Shared->Prop),Q (.int (g i) s.toks) {s with toks:=s.toks + 1}->wpAny (model X.prog X.w) X.A (f (.int i t)) Q E s):
  Eu X f (rU λi=> .int (g i)):=by
 intro pins s σ H x v Q I rx h;obtain⟨i,rfl,q⟩:=h;obtain⟨t,rfl⟩:=rx;exact rule i t s _ _ ⟨.int (g i),H,I.tok _,⟨_,rfl⟩,q⟩
theorem AB:Eu X (unaryOp .USub) (rU λi=> .int (-i)):=Im λ_ _ _ _ _ q=>neg_int q
end
section
variable {X:Cx} {a b c:Expr} {ta tb tc:TE} {pos:Pos}
theorem CU:jK X (compareOp .Lt) (As λi j=> .bl (decide (i < j))):=vG λ_ _ _ _ _ _ _ q=>lt_int q
theorem Ck:jK X (compareOp .LtE) (As λi j=> .bl (decide (i<=j))):=vG λ_ _ _ _ _ _ _ q=>le_int q
theorem Bo:jK X (compareOp .Gt) (As λi j=> .bl (decide (j < i))):=vG λ_ _ _ _ _ _ _ q=>gt_int q
theorem Cc:jK X (compareOp .GtE) (As λi j=> .bl (decide (j<=i))):=vG λ_ _ _ _ _ _ _ q=>ge_int q
theorem wX {op:CmpOp} {r:R2} (ho:jK X (compareOp op) r) (ha:PE X a ta) (hb:PE X b tb) (hm:behindInMarks op b=false):PE X (.Compare a [op] [b] pos) (Dq r ta tb):=by intro pins s σ H Q I h;exact wpAny_Compare1 (yH ha hb I h λv u s2 x y H2 I2 rx ry q=>ho pins s2 σ H2 x y v u Q I2 rx ry q) hm
noncomputable def C5 (t:TE):TT:=λσ H Q=>t σ H λx H'=>∃k,x= .bl k/\Q k H'
theorem wZ {op:CmpOp} {r:R2} (ho:jK X (compareOp op) r) (ha:PE X a ta) (hb:PE X b tb) (hm:behindInMarks op b=false):PT X (.Compare a [op] [b] pos) (C5 (Dq r ta tb)):=by
 intro pins s σ H Q I h;refine wpAny_isTrue_Compare1 (bq (ha pins s σ H _ I h) λv s1 ⟨x,H1,I1,r1,q1⟩=>bq (hb pins s1 σ H1 _ I1 q1) λu s2 ⟨y,H2,I2,r2,q2⟩=>
  bq (ho pins s2 σ H2 x y v u _ I2 r1 r2 q2) λc s3 ⟨z,H3,I3,r3,k,e,q3⟩=>?_) hm
 subst e;cases r3;exact wpAny_truthy_bool ⟨H3,I3,q3⟩
noncomputable def Bs (K:PySem.W.Frag) (x:V) (H:Hp) (k:Bool):Prop:=
 match x with
 | .a6=>k=false
 | .bl b=>k=b
 | .int i=>k=(i != 0)
 | .str y=>y.length<=sizeLine/\k=((y.length:Int) != 0)
 | .AK y=>y.size<=sizeLine/\k=((y.size:Int) != 0)
 | .ref p=>(∃xs,cW K H p xs/\k= !xs.isEmpty)\/(∃xs,dy K H p xs/\k= !xs.isEmpty)\/∃dJ,H p=some (.dK dJ)/\k= !dJ.isEmpty
 | _=>False
theorem nK {κ:Type} {dJ:List (κ×V)} {vs:List (κ×Value)} (r:KV dJ vs):(!vs.isEmpty)= !dJ.isEmpty:=by cases r <;> rfl
theorem iD {xs:List V} {its:List Value} (r:au xs its):(!its.toArray.isEmpty)= !xs.isEmpty:=by cases r <;> simp
theorem gi:(sizeLine:Nat) < 2 ^ 63:=by rw[sizeLine_eq];decide
theorem yM:Fv X (λx H Q=>∃k,Bs X.K x H k/\Q k H):=by
 intro pins s σ H x v Q I rx h;obtain⟨k,e,q⟩:=h;have hl:=gi;have hs:sizeLine=16777216:=sizeLine_eq;cases x with
 | a6=>cases rx;have e':k=false:=e;subst e';exact truthy_none ⟨H,I,q⟩
 | bl b=>cases rx;have e':k=b:=e;subst e';exact wpAny_truthy_bool ⟨H,I,q⟩
 | int i=>obtain⟨t,rfl⟩:=rx;have e':k=(i != 0):=e;subst e';exact PySem.P.truthy_int ⟨H,I,q⟩
 | str y=>obtain⟨t,rfl⟩:=rx;obtain⟨hy,e'⟩:y.length<=sizeLine/\k=((y.length:Int) != 0):=e;subst e';exact PySem.P.truthy_str (by lia) ⟨H,I.tok _,q⟩
 | AK y=>obtain⟨t,rfl⟩:=rx;obtain⟨hy,e'⟩:y.size<=sizeLine/\k=((y.size:Int) != 0):=e;subst e';exact PySem.W.truthy_bytes (by lia) ⟨H,I.tok _,q⟩
 | ref p=>
  cases rx;have e':(∃xs,cW X.K H p xs/\k= !xs.isEmpty)\/(∃xs,dy X.K H p xs/\k= !xs.isEmpty)\/∃dJ,H p=some (.dK dJ)/\k= !dJ.isEmpty:=e;rcases e' with ⟨xs,hx,e'⟩ | ⟨xs,hx,e'⟩ | ⟨dJ,hx,e'⟩
  ·subst e';obtain⟨its,r,pl,hz⟩:=I.list hx;have hlen:=r.length;exact wpAny_truthy_list pl.isList (by simp only[JA];lia) ⟨H,I.tok _,by rw[iD r];exact q⟩
  ·subst e';obtain⟨its,r,pl,hz⟩:=I.tuple hx;have hlen:=r.length;exact truthy_tuple pl (by simp only[JA];lia) ⟨H,I.tok _,by rw[iD r];exact q⟩
  ·subst e';obtain⟨hz,hS,vs,r,m⟩:dJ.length<=sizeLine/\(p==sysModules)=false/\∃vs,KV dJ vs/\s.heap.DictOf (kE X.prog X.w) p vs:=I.hok p _ hx;have hlen:dJ.length=vs.length:=Paired.length r;exact wpAny_truthy_dict hS m (by lia) ⟨H,I.tok _,by rw[nK r];exact q⟩
 | _=>exact(show False from e).elim
theorem u3 (ha:PE X a ta) (he:∀whole,isTrue a X.env whole=(do let v<-whole;standAt a.pos;holding [v] (truthy v))):
  PT X a (λσ H Q=>ta σ H λx H'=>∃k,Bs X.K x H' k/\Q k H'):=by
 intro pins s σ H Q I h;exact isTrue_plain (bq (ha pins s σ H _ I h) λv s1 ⟨x,H1,I1,r1,q1⟩=>yM pins s1 σ H1 x v Q I1 r1 q1) (he _)
theorem nN:jK X (binaryOp .Add) (λx y H Q=>∃i j,x= .str i/\y= .str j/\i.length + j.length<=sizeLine/\Q (.str (i++j)) H):=by intro pins s σ H x y v u Q I rx ry h;obtain⟨i,j,rfl,rfl,hz,q⟩:=h;obtain⟨t,rfl⟩:=rx;obtain⟨t',rfl⟩:=ry;exact add_str (λt' tk=>⟨.str (i++j),H,I.tok _,⟨_,rfl⟩,q⟩) hz
theorem vals1 {x:V} {us:List Value} (r:au [x] us):∃u,us=[u]/\RelV x u:=by
 cases r with
 | cons r1 r2=>cases r2;exact⟨_,rfl,r1⟩
noncomputable def D9 (K:PySem.W.Frag) (x:V) (H:Hp) (n:Nat):Prop:=
 match x with
 | .str y=>y.length<=sizeLine/\n=y.length
 | .AK y=>y.size<=sizeLine/\n=y.size
 | .ref p=>(∃xs,cW K H p xs/\n=xs.length)\/∃xs,dy K H p xs/\n=xs.length
 | _=>False
theorem fz:fI X (.builtin "len") (λxs H Q=>∃x n,xs=[x]/\D9 X.K x H n/\Q (.int n) H):=by
 intro pins s σ H xs us Q I r h;obtain⟨x,n,rfl,e,q⟩:=h;obtain⟨u,rfl,rx⟩:=vals1 r;have hl:=gi;have hs:sizeLine=16777216:=sizeLine_eq;cases x with
 | str y=>obtain⟨t,rfl⟩:=rx;obtain⟨hy,e'⟩:y.length<=sizeLine/\n=y.length:=e;subst e';exact len_str (by lia) ⟨.int _,H,I.tok _,⟨_,rfl⟩,q⟩
 | AK y=>obtain⟨t,rfl⟩:=rx;obtain⟨hy,e'⟩:y.size<=sizeLine/\n=y.size:=e;subst e';exact PySem.W.len_bytes (by lia) ⟨.int _,H,I.tok _,⟨_,rfl⟩,q⟩
 | ref p=>
  cases rx;have e':(∃xs,cW X.K H p xs/\n=xs.length)\/∃xs,dy X.K H p xs/\n=xs.length:=e;rcases e' with ⟨xs,hx,e'⟩ | ⟨xs,hx,e'⟩
  ·subst e';obtain⟨its,r',pl,hz⟩:=I.list hx;have hlen:=r'.length;exact Calls.call_len_list pl.isList (by simp only[JA];lia) ⟨.int xs.length,H,I.tok _,⟨_,by simp only[JA];rw[hlen]⟩,q⟩
  ·subst e';obtain⟨its,r',pl,hz⟩:=I.tuple hx;have hlen:=r'.length;exact len_tuple pl (by simp only[JA];lia) ⟨.int xs.length,H,I.tok _,⟨_,by simp only[JA];rw[hlen]⟩,q⟩
 | _=>exact(show False from e).elim
end
end L2
namespace L2
open PySem PySem.Spec PyProof.Rows
structure zv (h:Heap) (x dx C:Addr) (mA:Str->Option Value):Prop where
 obj:h.get? x=some (PySem.W.instObj C dx)
 ns:h.Ns1 dx mA
 ne:dx≠x
theorem qE {h:Heap} {dx:Addr} {mA:Str->Option Value} (n:h.Ns1 dx mA):∃od,h.get? dx=some od/\∀name,PySem.W.lookIn name od=some (mA name):=by
 obtain⟨o,es,ep,ho,hd,hk,_,hm⟩:=n;refine⟨o,ho,λname=>?_⟩;have e:=hm name;unfold nsFind findBy at e;rw[<-Array.find?_toList] at e;unfold PySem.W.lookIn;rw[hd];dsimp only;split
 ·rename_i y q;rw[q] at e;exact congrArg some e
 ·rename_i q;rw[q] at e;have a:es.toList.any (·.refKey)=false:=by rw[List.any_eq_false];intro y hy;obtain⟨z,t,FU⟩:=hk y (Array.mem_toList_iff.mp hy);simp[DictEntry.refKey,FU]
  have a':¬es.toList.any (·.refKey)=true:=by rw[a];exact Bool.false_ne_true
  rw[if_neg a'];exact congrArg some e
theorem zv.look {h:Heap} {x dx C:Addr} {mA:Str->Option Value} (I:zv h x dx C mA):∃od,PySem.W.InstAt h x (PySem.W.instObj C dx) C (some od)/\∀name,PySem.W.lookIn name od=some (mA name):=
 let ⟨od,ho,hl⟩:=qE I.ns
 ⟨od,⟨I.obj,rfl,rfl,ho⟩,hl⟩
section
variable {P:Program} {w:World} {H H':Hp} {h h':Heap} {a C dx:Addr} {fs EH:List (Str×V)}
theorem vq (hok:dm P w H h) (e:H a=some (.ins C dx fs)):∃mA,zv h a dx C mA/\(∀f,yN (fs.lookup f) (mA f))/\PySem.Within mA (fs.map (·.1))/\fs.length<=1000/\H dx=some (.own a):=by obtain⟨d,z,ne,ob,mA,n,r,q⟩:=(show bB P w H h a (.ins C dx fs) from hok a _ e);exact⟨mA,⟨ob,n,ne⟩,r,q,z,d⟩
end
structure D0 (K:PySem.W.Frag) (C:Addr):Prop where
 pg:PySem.W.plainGet K C Str.empty=true
 hd:PySem.W.hasDictIn K C=true
 po:PySem.W.plainOver K C=true
 sa:PySem.W.findIn K (.ref C) "__setattr__"=some (some (.builtin "object.__setattr__"))
theorem D0.get {K:PySem.W.Frag} {C:Addr} (c:D0 K C) (f:Str):PySem.W.plainGet K C f=true:=c.pg
section
variable {X:Cx} {pins:List (Addr×Obj)} {σ:St} {H:Hp} {s:Shared} {A:Around} {E:Value->Shared->Prop} {Q:Value->Shared->Prop} {c:Value} {b:Bool}
inductive fw (K:PySem.W.Frag) (H:Hp):V->Value->Prop where
 | a6:fw K H .a6 (.type "NoneType")
 | bl (x:Bool):fw K H (.bl x) (.type "bool")
 | int (i:Int):fw K H (.int i) (.type "int")
 | str (x:Str):fw K H (.str x) (.type "str")
 | wL (x:UInt64):fw K H (.wL x) (.type "float")
 | lst {a:Addr} {xs:List V} (e:H a=some (.lst xs)):fw K H (.ref a) (.type "list")
 | qh {a:Addr} {o:Obj} {xs:List V} (e:H a=some (.qh o (.lst xs))):fw K H (.ref a) (.type "list")
 | tup {a:Addr} {xs:List V} (e:H a=some (.tup xs)):fw K H (.ref a) (.type "tuple")
 | dK {a:Addr} {dJ:List (Key×V)} (e:H a=some (.dK dJ)):fw K H (.ref a) (.type "dict")
 | dT {a:Addr} {dJ:List (List Key×V)} (e:H a=some (.dT dJ)):fw K H (.ref a) (.type "dict")
 | ins {a C dx:Addr} {fs:List (Str×V)} (e:H a=some (.ins C dx fs)) (cl:D0 K C) (ha:PySem.W.findIn K (.ref C) "__class__"=some (some (.builtin "object.__class__")))
   (hn:PySem.W.specialIn K (.builtin "object.__class__") "__get__"=some (some (.builtin "getset_descriptor.__get__"))) (GZ:PySem.W.takesIn K (.builtin "object.__class__")=some true)
   (hm:PySem.W.mroIn K C (.type "object")=some true):fw K H (.ref a) (.ref C)
theorem qF {x:V} {u t:Value} (I:Inv X pins σ H s) (rx:RelV x u) (ty:fw X.K H x t) (e:PySem.W.kitOne X.K t c=some b) (h:∀tk,Q (.bool b) {s with toks:=tk}):
  wpAny (model X.prog X.w) A (call (.builtin "isinstance") [u,c]) Q E s:=by
 cases ty with
 | a6=>cases (show u=Value.none from rx);exact PySem.W.kia_one PySem.W.kitx_none I.gV True.intro e (λz=>nomatch z) h
 | bl y=>cases (show u=Value.bool y from rx);exact PySem.W.kia_one PySem.W.kitx_bool I.gV True.intro e (λz=>nomatch z) h
 | int i=>obtain⟨t,q⟩:=(show∃t,u=Value.int i t from rx);cases q;exact PySem.W.kia_one PySem.W.kitx_int I.gV True.intro e (λz=>nomatch z) h
 | str y=>obtain⟨t,q⟩:=(show∃t,u=Value.str y t from rx);cases q;exact PySem.W.kia_one PySem.W.kitx_str I.gV True.intro e (λz=>nomatch z) h
 | wL y=>obtain⟨t,q⟩:=(show∃t,u=Value.float y t from rx);cases q;exact PySem.W.kia_one PySem.W.kitx_float I.gV True.intro e (λz=>nomatch z) h
 | @lst a xs ea=>cases (show u=Value.ref a from rx);obtain⟨_,_,n,_,h1⟩:=(show bB X.prog X.w H s.heap a (.lst xs) from I.hok a _ ea);exact PySem.W.kia_one PySem.W.kitx_list I.gV ⟨_,h1,rfl⟩ e (λz=>nomatch z) h
 | @qh a ob xs ea=>cases (show u=Value.ref a from rx);obtain⟨_,_,_,n,_,h1⟩:=(show bB X.prog X.w H s.heap a (.qh ob (.lst xs)) from I.hok a _ ea);exact PySem.W.kia_one PySem.W.kitx_list I.gV ⟨_,h1,rfl⟩ e (λz=>nomatch z) h
 | @tup a xs ea=>cases (show u=Value.ref a from rx);obtain⟨_,_,_,p⟩:=(show bB X.prog X.w H s.heap a (.tup xs) from I.hok a _ ea);obtain⟨o,h1,h2,_⟩:=p;exact PySem.W.kia_one PySem.W.kitx_tuple I.gV ⟨o,h1,h2⟩ e (λz=>nomatch z) h
 | @dK a dJ ea=>cases (show u=Value.ref a from rx);obtain⟨_,_,vs,_,p⟩:=(show bB X.prog X.w H s.heap a (.dK dJ) from I.hok a _ ea);obtain⟨o,es,ep,h1,h2,_⟩:=p;exact PySem.W.kia_one PySem.W.kitx_dict I.gV ⟨o,h1,h2.1⟩ e (λz=>nomatch z) h
 | @dT a dJ ea=>cases (show u=Value.ref a from rx);obtain⟨_,_,xs,_,o,es,ep,h1,h2,_⟩:=(show bB X.prog X.w H s.heap a (.dT dJ) from I.hok a _ ea);exact PySem.W.kia_one PySem.W.kitx_dict I.gV ⟨o,h1,h2.1⟩ e (λz=>nomatch z) h
 | @ins a C dx fs ea cl ha hn GZ hm=>cases (show u=Value.ref a from rx);obtain⟨mA,O,_⟩:=vq I.hok ea;obtain⟨od,J,_⟩:=O.look;exact PySem.W.kia_one (PySem.W.kitx_own (cl.get _) cl.hd ha hn GZ hm) I.gV J e (λz=>nomatch z) h
end
end L2
namespace L2
open PySem PySem.Spec PyProof.Rows
structure fK (k:Nat) (A:Around):Prop where
 hd:A.handled=none
 dp:A.depth + 3 * k + 5 < recursionLimit
 un:A.units + 16 * k + 200 < cLine
theorem fK.deeper {k:Nat} {A:Around} (r:fK (k + 1) A) (env:Env):fK k (A.deeper env):=
 ⟨r.hd,by have:=r.dp;show A.depth + 1 + 3 * k + 5 < _;lia,by have:=r.un;show A.units + 3 + 16 * k + 200 < _;lia⟩
theorem fK.depth {k:Nat} {A:Around} (r:fK k A):A.depth < recursionLimit:=by have:=r.dp;lia
noncomputable def AE:TA:=λ_ H Q=>Q [] H
noncomputable def u9 (ta:TE) (tr:TA):TA:=λσ H Q=>ta σ H λx H1=>tr σ H1 λxs H2=>Q (x::xs) H2
section
variable {X:Cx} {e:Expr} {es:List Expr} {te:TE} {t:TA} {pos:Pos}
theorem d8:PA X [] AE:=λ_ _ _ _ H Q I h=>Calls.spliced_nil ⟨[],H,I,.nil,h⟩
theorem bG (ha:PE X e te) (hr:PA X es t) (hs:starEach (e::es) X.env=(false,eval e X.env)::starEach es X.env:=by rfl):PA X (e::es) (u9 te t):=by intro pos pins s σ H Q I h;rw[hs];show wpAny _ _ (spliced ((false,eval e X.env)::backTo pos (starEach es X.env))) _ _ s;refine Calls.spliced_cons (bq (ha pins s σ H _ I h) λu s1 ⟨x,H1,I1,r1,q1⟩=>?_);exact bq (hr pos pins s1 σ H1 _ I1 q1) λus s2 ⟨xs,H2,I2,r2,q2⟩=>⟨x::xs,H2,I2,.cons r1 r2,q2⟩
noncomputable def ET (t:TA):TE:=λσ H Q=>t σ H λxs H1=>xs.length<=sizeLine/\∀p,H1 p=none->Q (.ref p) (upd H1 p (.tup xs))
noncomputable def Ed (t:TA):TE:=λσ H Q=>t σ H λxs H1=>xs.length<=sizeLine/\∀p,H1 p=none->Q (.ref p) (upd H1 p (.lst xs))
theorem Ac {x1} (h:PA X es t):PE X (.Tuple es x1 pos) (ET t):=by intro pins s σ H Q I hq;refine wpAny_Tuple_spliced (bq (h pos pins s σ H _ I hq) λus s1 ⟨xs,H1,I1,r,z,q⟩=>⟨by rw[<-r.length];exact z,?_⟩);have hf:H1 s1.heap.objs.size=none:=I1.hok.fresh (JE _);refine⟨.ref s1.heap.objs.size,upd H1 s1.heap.objs.size (.tup xs),I1.laid (t':=s1.toks) (λb u e=>Jx _ e) (JE _) ?_,rfl,q _ hf⟩;exact⟨z,us,r,⟨_,JG _ rfl,rfl,_,rfl⟩⟩
theorem zO (h:PA X es t):PE X (.List es pos) (Ed t):=by intro pins s σ H Q I hq;refine wpAny_List_spliced (bq (h pos pins s σ H _ I hq) λus s1 ⟨xs,H1,I1,r,z,q⟩=>⟨by rw[<-r.length];exact z,?_⟩);have hf:H1 s1.heap.objs.size=none:=I1.hok.fresh (JE _);refine⟨.ref s1.heap.objs.size,upd H1 s1.heap.objs.size (.lst xs),I1.laid (t':=s1.toks) (λb u e=>Jx _ e) (JE _) ?_,rfl,q _ hf⟩;exact⟨z,us,0,r,JG _ rfl⟩
end
noncomputable abbrev Sp:=List V->Hp->VK->XK->Prop
noncomputable abbrev ib:=List Env->Hp->Shared->XK->Value->Shared->Prop
structure vO (P:Program) (w:World) (K:PySem.W.Frag) (mg:Str->Option Value) (base:Heap) (A:Around) (outer:List Env) (s:Shared) (H:Hp):Prop where
 frames:A.frames=some outer
 mod:Mod K mg base
 bs:∀b o,base.get? b=some o->s.heap.get? b=some o/\H b=none
 vd:base.objs.size<=s.heap.objs.size
 fG:s.heap.FunFrames base outer
 xG:∀b∈dh outer,H b=none
 hok:dm P w H s.heap
 bare:AllBare s.gens
noncomputable def CE (outer:List Env) (P:Program) (w:World) (H:Hp) (s:Shared) (Q:VK) (u:Value) (s':Shared):Prop:=
 ∃v H',s'.os=s.os/\AllBare s'.gens/\Un (dh outer) [] H H' s.heap s'.heap/\dm P w H' s'.heap/\RelV v u/\Q v H'
noncomputable def CR (CX:ib) (outer:List Env) (P:Program) (w:World) (H:Hp) (s:Shared) (Q:VK) (E:XK) (r:Result) (s':Shared):Prop:=
 match r with
 | .ok (.ret u)=>CE outer P w H s Q u s'
 | .ok _=>False
 | .error e=>CX outer H s E e s'
structure gw (P:Program) (w:World) (K:PySem.W.Frag) (mg:Str->Option Value) (base:Heap) (CX:ib) (k:Nat) (f:Addr) (fd:FuncData) (ps:List Str) (sp:Sp):Prop where
 len:∀vs H Q E,sp vs H Q E->vs.length=ps.length
 run:∀(A:Around) (outer:List Env) (s:Shared) (H:Hp) (args:Args) (us:List Value) (vs:List V) (Q:VK) (E:XK),fK k A->vO P w K mg base A outer s H->BindsTo s fd args (ps.zip us)->au vs us->sp vs H Q E->
  codeAny (model P w) A (.call (.ref f) args) (CR CX outer P w H s Q E) s
theorem gw.imp {P:Program} {w:World} {K:PySem.W.Frag} {mg:Str->Option Value} {base:Heap} {CX:ib} {k:Nat} {f:Addr} {fd:FuncData} {ps:List Str} {sp GN:Sp} (F:gw P w K mg base CX k f fd ps sp)
  (h:∀vs H Q E,GN vs H Q E->sp vs H Q E):gw P w K mg base CX k f fd ps GN:=
 ⟨λvs H Q E q=>F.len vs H Q E (h _ _ _ _ q),λA outer s H args us vs Q E hr he hb hv hs=>F.run A outer s H args us vs Q E hr he hb hv (h _ _ _ _ hs)⟩
section
variable {X:Cx} {pins:List (Addr×Obj)} {σ:St} {H:Hp} {s s':Shared}
theorem Inv.d4 (I:Inv X pins σ H s):vO X.prog X.w X.K X.mg X.base X.A X.stack s H:=
 ⟨I.ok.frames,I.ok.mod,I.bs,JJ I.ok.vd I.sz,I.stack,I.lB,I.hok,I.bare⟩
theorem Inv.after {Q:VK} {u:Value} (I:Inv X pins σ H s) (h:CE X.stack X.prog X.w H s Q u s'):EP X pins σ Q u s':=by obtain⟨v,H',os,bare,un,hok,r,q⟩:=h;obtain⟨hh,g,d,t,HK⟩:=s';obtain rfl:HK=s.os:=os;exact⟨v,H',I.call (h':=hh) (g':=g) (d':=d) (t':=t) (ch:=[]) un hok bare (λb z=>absurd z (by simp)),r,q⟩
end
noncomputable def Cj (sp:Sp) (rl:List V) (E:XK) (t:TA):TE:=λσ H Q=>t σ H λvs H1=>sp (vs++rl) H1 Q E
noncomputable def Binds (K:PySem.W.Frag) (fd:FuncData) (ps:List Str) (ds:List Value):Prop:=
 ∀(s:Shared) (us:List Value),K.In s.heap->(us++ds).length=ps.length->BindsTo s fd ⟨us,[]⟩ (ps.zip (us++ds))
theorem Binds.all {K:PySem.W.Frag} {fd:FuncData} {ps:List Str} (h:∀us:List Value,us.length=ps.length->bindArgs fd ⟨us,[]⟩=pure (ps.zip us)):Binds K fd ps []:=λs us _ hl=>by rw[Kd] at hl ⊢;exact .of_eq (h us hl)
noncomputable def nz (CX:ib) (X:Cx) (E:XK):Prop:=∀(pins:List (Addr×Obj)) (σ:St) (H:Hp) (s:Shared) (e:Value) (s':Shared),Inv X pins σ H s->CX X.stack H s E e s'->X.xe e s'
section
variable {X:Cx} {CX:ib} {k:Nat} {f C:Addr} {fd:FuncData} {ps:List Str} {sp:Sp} {rl:List V} {ds:List Value} {E:XK} {x m:Str} {p pos apos:Pos} {e o:Expr} {es:List Expr} {ta:TE} {t:TA}
theorem zM {pins:List (Addr×Obj)} {σ:St} {H:Hp} {s:Shared} {Q:VK} {us:List Value} {vs:List V} (F:gw X.prog X.w X.K X.mg X.base CX k f fd ps sp) (hr:fK k X.A) (hb:Binds X.K fd ps ds) (hd:au rl ds) (hx:nz CX X E)
  (I:Inv X pins σ H s) (r:au vs us) (h:sp (vs++rl) H Q E):wpAny (model X.prog X.w) X.A (call (.ref f) us) (EP X pins σ Q) X.xe s:=by
 have r2:au (vs++rl) (us++ds):=r.append hd;have hl:(us++ds).length=ps.length:=by rw[<-r2.length];exact F.len _ _ _ _ h
 refine wpAny_call (codeAny_mono (F.run X.A X.stack s H ⟨us,[]⟩ (us++ds) (vs++rl) Q E hr I.d4 (hb s us I.gV hl) r2 h) λr s' hq=>?_);cases r with
 | error e=>exact hx pins σ H s e s' I hq
 | ok fl=>
  cases fl with
  | ret u=>exact I.after hq
  | next=>exact False.elim hq
  | brk=>exact False.elim hq
  | cont=>exact False.elim hq
theorem wQ (F:gw X.prog X.w X.K X.mg X.base CX k f fd ps sp) (hr:fK k X.A) (hg:Gl X x) (hm:X.mg x=some (.ref f)) (hk:PySem.W.keepIn X.K (.ref f)=true) (hb:Binds X.K fd ps ds) (hd:au rl ds) (hx:nz CX X E)
  (ha:PA X (e::es) t) (mD:(x==("__debug__":Str))=false:=by decide) (he:starEach (e::es) X.env=(false,eval e X.env)::starEach es X.env:=by rfl) (jW:(backTo pos (starEach es X.env)).any (·.1)=false:=by rfl):
  PE X (.Call (.Name x p) (e::es) [] pos) (Cj sp rl E t):=by
 intro pins s σ H Q I h;refine wpAny_Call_Name_kw (fH I hg hm ?_ mD);refine PySem.W.callWith_K (h₀:=X.base) I.ok.mod.Fq hk (bq (ha pos pins s σ H _ I h) λus s1 ⟨vs,H1,I1,r,q⟩=>⟨I1.gV,?_⟩) he jW;exact zM F hr hb hd hx I1 r q
end
structure dC (N P:List Str) (sc:Scope):Prop where
 kind:sc.kind= .function
 co:sc.isCoroutine=false
 gen:sc.isGenerator=false
 nd:N.Nodup
 pre:N.take P.length=P
 par:∀x∈P,sc.names.lookup x=some .local\/sc.names.lookup x=some .cell
 zy:∀y∈sc.names,y.2≠ .free
theorem jS {kindOf:Str->Option NameKind} {x:Str}:∀{binds:List (Str×Value)} {m:Str->Option Value},(∀v,(x,v)∉binds)->bindL kindOf binds m x=m x
 | [],_,_=>rfl
 | (n,v)::r,m,h=>by
  unfold bindL;rw[jS λw hw=>h w (JD _ hw)];split
  ·have:x≠n:=by rintro rfl;exact h v JF
   simp[this]
  ·rfl
theorem j4 {kindOf:Str->Option NameKind} {x:Str}:∀{binds:List (Str×Value)} {m:Str->Option Value},(∀v,(x,v)∉binds)->bindC kindOf binds m x=m x
 | [],_,_=>rfl
 | (n,v)::r,m,h=>by
  unfold bindC;rw[j4 λw hw=>h w (JD _ hw)];split
  ·rfl
  ·have:x≠n:=by rintro rfl;exact h v JF
   simp[this]
theorem jI {kindOf:Str->Option NameKind} {x:Str} {v:Value}:∀{P:List Str} {vs:List Value} {i:Nat} {m:Str->Option Value},P.Nodup->P[i]?=some x->vs[i]?=some v->kindOf x=some .local->
  bindL kindOf (P.zip vs) m x=some v
 | [],_,_,_,_,h,_,_=>by simp at h
 | _::_,[],_,_,_,_,h,_=>by simp at h
 | p::P,w::vs,0,m,nd,h1,h2,hk=>by simp at h1 h2;subst h1;subst h2;show bindL kindOf ((p,w)::P.zip vs) m p=_;unfold bindL;rw[jS λv hv=>(List.nodup_cons.mp nd).1 (List.of_mem_zip hv).1,if_pos hk];simp
 | p::P,w::vs,i + 1,m,nd,h1,h2,hk=>by show bindL kindOf ((p,w)::P.zip vs) m x=_;unfold bindL;exact jI (i:=i) (List.nodup_cons.mp nd).2 (by simpa using h1) (by simpa using h2) hk
theorem jT {kindOf:Str->Option NameKind} {x:Str} {v:Value}:∀{P:List Str} {vs:List Value} {i:Nat} {m:Str->Option Value},P.Nodup->P[i]?=some x->vs[i]?=some v->kindOf x≠some .local->
  bindC kindOf (P.zip vs) m x=some v
 | [],_,_,_,_,h,_,_=>by simp at h
 | _::_,[],_,_,_,_,h,_=>by simp at h
 | p::P,w::vs,0,m,nd,h1,h2,hk=>by simp at h1 h2;subst h1;subst h2;show bindC kindOf ((p,w)::P.zip vs) m p=_;unfold bindC;rw[j4 λv hv=>(List.nodup_cons.mp nd).1 (List.of_mem_zip hv).1,if_neg hk];simp
 | p::P,w::vs,i + 1,m,nd,h1,h2,hk=>by show bindC kindOf ((p,w)::P.zip vs) m x=_;unfold bindC;exact jT (i:=i) (List.nodup_cons.mp nd).2 (by simpa using h1) (by simpa using h2) hk
noncomputable def start (N:List Str) (vs:List V):St:=vs.map some++List.replicate (N.length - vs.length) none
noncomputable def iH (CX:ib) (P:Program) (w:World) (K:PySem.W.Frag) (mg:Str->Option Value) (base:Heap) (N:List Str) (qual:Str) (scope:Scope) (f:Addr) (cd:Value) (A:Around) (outer:List Env) (s:Shared) (H:Hp) (E:XK):Cx where
 prog:=P
 w:=w
 K:=K
 mg:=mg
 base:=base
 A:=A.deeper (envOfC qual scope s.heap.objs.size f cd)
 N:=N
 s₀:=s
 H₀:=H
 env:=envOfC qual scope s.heap.objs.size f cd
 outer:=outer
 stack:=envOfC qual scope s.heap.objs.size f cd::outer
 ex:=[]
 calm:=true
 fn:=λ_=>true
 pn:=[]
 xe:=λe s'=>wpAny (model P w) (A.deeper (envOfC qual scope s.heap.objs.size f cd)) (leaving (envOfC qual scope s.heap.objs.size f cd) e) (λ_ s''=>CX outer H s E e s'') (λe' s''=>CX outer H s E e' s'') s'
theorem mQ {sc:Scope} {n:Nat} {x:Str} (h:sc.names.lookup x=some .cell):∃c,(cellsFrom n sc.names []).lookup x=some c:=by have q:=PySem.W.cellsFrom_some sc.names n [] (.inl h);exact Option.isSome_iff_exists.mp q
theorem rz {CX:ib} {P:Program} {w:World} {K:PySem.W.Frag} {mg:Str->Option Value} {base:Heap} {N ps:List Str} {qual:Str} {scope:Scope} {f:Addr} {cd:Value} {A:Around} {outer:List Env} {s s1:Shared} {H:Hp} {E:XK} {us:List Value} {vs:List V}
  (S:dC N ps scope) (hd:A.handled=none) (e0:vO P w K mg base A outer s H) (hl:vs.length=ps.length) (r:au vs us)
  (x:InCallC s s.heap.objs.size (bindL (envOfC qual scope s.heap.objs.size f cd).kindOf (ps.zip us) λ_=>none) (cellsFrom (s.heap.objs.size + 1) scope.names []) (bindC (envOfC qual scope s.heap.objs.size f cd).kindOf (ps.zip us) λ_=>none) s1):
  Inv (iH CX P w K mg base N qual scope f cd A outer s H E) [] (start N vs) H s1:=by
 have jW:ps.length<=N.length:=by have:=congrArg List.length S.pre;rw[List.length_take] at this;lia
 obtain⟨h1,tk,rfl,hk⟩:=x.done;have BD:∀b:Addr,b∉(iH CX P w K mg base N qual scope f cd A outer s H E).ex:=λb z=>absurd (show b∈([]:List Addr) from z) (by simp)
 refine⟨⟨e0.mod,S.kind,rfl,rfl,JE _,λy z c h1 h2=>?_,λy hy=>?_,λy c _ h=>?_,λ_=>hd,Around.frames_deeper e0.frames,.inr ⟨rfl,rfl⟩,λb z=>absurd z (BD b),e0.bs,e0.vd,λb _ _=>BD b,λb z=>absurd z (BD b),e0.fG,e0.xG⟩,
  rfl,e0.bare,Un.kept hk,⟨_,x.toInCall.ns,λi y v h1 h2 h3=>?_⟩,λy c h=>⟨_,x.cell y c h⟩,e0.hok.fresh (JE _),λy c h=>?_,λp hp=>absurd (show p∈([]:List (Addr×Obj)) from hp) (by simp),e0.hok.kept hk,?_⟩
 ·exact name_of_addr x.apart (PySem.mem_of_lookup h1) (PySem.mem_of_lookup h2)
 ·have hy:scope.names.lookup y=some .cell\/scope.names.lookup y=some .free:=hy;rcases hy with hy | hy
  ·exact mQ hy
  ·exact absurd rfl (S.zy _ (PySem.mem_of_lookup hy))
 ·exact Nat.le_of_lt (x.above y c (PySem.mem_of_lookup h))
 ·have hi:i < vs.length:=by
   unfold start at h2;by_cases hi:i < vs.length
   ·exact hi
   ·rw[Kg (by simpa using hi)] at h2;rw[List.getElem?_replicate] at h2;split at h2 <;> cases h2
  have ha:vs[i]?=some v:=by
   unfold start at h2;rw[Kf (by simpa using hi),JR] at h2;cases e:vs[i]? with
   | none=>rw[e] at h2;cases h2
   | some a=>rw[e] at h2;cases h2;rfl
  obtain⟨u,hu,rv⟩:=r.get ha;have hp:ps[i]?=some y:=by rw[<-S.pre,List.getElem?_take_of_lt (by lia)];exact h1
  have Gy:ps.Nodup:=by rw[<-S.pre];exact S.nd.sublist (List.take_sublist _ _)
  refine⟨u,rv,?_⟩;rcases S.par y (List.mem_of_getElem? hp) with k | k
  ·exact .inl ⟨k,jI Gy hp hu k⟩
  ·obtain⟨c,e⟩:=mQ (n:=s.heap.objs.size + 1) k;refine .inr ⟨.inl k,c,e,?_⟩;have q:=x.cell y c e;rw[jT Gy hp hu (by show scope.names.lookup y≠_;rw[k];decide)] at q;exact q
 ·exact e0.hok.fresh (Nat.le_of_lt (x.above y c (PySem.mem_of_lookup h)))
 ·unfold start;show _=N.length;rw[JO,JH,List.length_replicate]
  lia
end L2
namespace L2
open PySem PySem.Spec PyProof.Rows
section
variable {X:Cx} {x:Str} {p pos:Pos} {e:Expr} {es:List Expr} {t:TA} {id T:String} {r:List V->Hp->VK->Prop}
noncomputable def Gc (r:List V->Hp->VK->Prop) (t:TA):TE:=λσ H Q=>t σ H λvs H1=>r vs H1 Q
theorem iS (hc:fI X (.builtin id) r) (hg:Gl X x) (hm:X.mg x=none) (hv:bootBuiltins x=some (.builtin id)) (ha:PA X (e::es) t) (hn:x≠"__name__":=by decide) (mD:(x==("__debug__":Str))=false:=by decide)
  (he:starEach (e::es) X.env=(false,eval e X.env)::starEach es X.env:=by rfl) (jW:(backTo pos (starEach es X.env)).any (·.1)=false:=by rfl):PE X (.Call (.Name x p) (e::es) [] pos) (Gc r t):=by
 intro pins s σ H Q I h;refine wpAny_Call_Name_kw (gd I hg hm hv ?_ hn mD);exact PyProof.Rows.callWith_builtin1 (bq (ha pos pins s σ H _ I h) λus s1 ⟨vs,H1,I1,r1,q1⟩=>hc pins s1 σ H1 vs us Q I1 r1 q1) he jW
theorem qY (hc:fI X (.type T) r) (hg:Gl X x) (hm:X.mg x=none) (hv:bootBuiltins x=some (.type T)) (ha:PA X (e::es) t) (hn:x≠"__name__":=by decide) (mD:(x==("__debug__":Str))=false:=by decide)
  (he:starEach (e::es) X.env=(false,eval e X.env)::starEach es X.env:=by rfl) (jW:(backTo pos (starEach es X.env)).any (·.1)=false:=by rfl):PE X (.Call (.Name x p) (e::es) [] pos) (Gc r t):=by
 intro pins s σ H Q I h;refine wpAny_Call_Name_kw (gd I hg hm hv ?_ hn mD);exact PyProof.Rows.callWith_type1 (bq (ha pos pins s σ H _ I h) λus s1 ⟨vs,H1,I1,r1,q1⟩=>hc pins s1 σ H1 vs us Q I1 r1 q1) he jW
end
end L2
namespace HT
open PySem PyProof.Rows
section
variable {prog:Program} {w:World} {A:Around} {E:Value->Shared->Prop} {s:Shared}
theorem wm {t b:Addr} {vs ws:List Value} {Q:Value->Shared->Prop} (ht:IsTup s.heap t vs.toArray) (hb:IsTup s.heap b ws.toArray) (hv:vs≠[])
  (h1:ws=[]->Q (.ref t) s) (h2:ws≠[]->Q (.ref s.heap.objs.size) {s with heap:=s.heap.push {cls:= .type "tuple",data:= .seq (vs++ws).toArray}})
  (ke:vs.length + ws.length<=sizeLine):wpAny (model prog w) A (binaryOp .Add (.ref t) (.ref b)) Q E s:=by
 obtain⟨⟨cls,dd,data,sl⟩,ho,hc,n,hd⟩:=id ht;obtain⟨⟨BM,vi,data2,rJ⟩,pe,mK,n2,hd2⟩:=id hb;simp only at hc hd mK hd2;subst hc hd mK hd2;have e:vs.toArray++ws.toArray=(vs++ws).toArray:=by simp
 by_cases hw:ws=[]
 ·exact concat_meets ⟨_,ho,rfl⟩ ⟨_,pe,rfl⟩ noFill_tuple_add seq_tuple_add PySem.F.slot_tuple_add PySem.F.entry_tuple_add (PySem.F.args_tuple_add_2 _ _)
   (tuple_addW1 t b vs.toArray ws.toArray n n2 dd vi sl rJ (by simpa using hv) (by simp[hw])) ⟨ho,pe,h1 hw⟩
 ·refine concat_meets ⟨_,ho,rfl⟩ ⟨_,pe,rfl⟩ noFill_tuple_add seq_tuple_add PySem.F.slot_tuple_add PySem.F.entry_tuple_add (PySem.F.args_tuple_add_2 _ _)
   (tuple_addW2 t b vs.toArray ws.toArray n n2 dd vi sl rJ (by simpa using hv) (by simpa using hw) (by rw[JA,JA];exact ke)) ⟨ho,pe,?_⟩
  rw[e];exact h2 hw
noncomputable def bt (n d:Nat):Option Int->Nat
 | none=>d
 | some v=>if v < 0 then(v + (n:Int)).toNat else min v.toNat n
theorem l6 (n d:Nat):bt n d none=d:=rfl
theorem pJ (n d k:Nat):bt n d (some (k:Int))=min k n:=by show (if (k:Int) < 0 then((k:Int) + (n:Int)).toNat else min (k:Int).toNat n)=min k n;rw[if_neg (by lia),Int.toNat_natCast]
theorem yl (n d:Nat) (hd:d<=n) (o:Option Int):bt n d o<=n:=by
 cases o with
 | none=>exact hd
 | some v=>
  show (if v < 0 then(v + (n:Int)).toNat else min v.toNat n)<=n;by_cases hv:v < 0
  ·rw[if_pos hv];lia
  ·rw[if_neg hv];exact Nat.min_le_right _ _
theorem pS (v:Int) (n d:Nat):(if v < 0 then max (v + (n:Int)) 0 else min v (n:Int))=((bt n d (some v):Nat):Int):=by grind [bt]
theorem nV (lo hi:Option Int) (n:Nat):Builtin.Slice.sliceAdjust lo hi 1 (n:Int)=(((bt n 0 lo:Nat):Int),((bt n n hi:Nat):Int)):=by
 have h1:¬((1:Int) < 0):=by lia
 unfold Builtin.Slice.sliceAdjust;simp only[h1,if_false];refine Prod.ext ?_ ?_
 ·cases lo with
  | none=>rfl
  | some v=>exact pS v n 0
 ·cases hi with
  | none=>rfl
  | some v=>exact pS v n n
theorem nG (i j:Nat):Builtin.Slice.slicePlaces (i:Int) (j:Int) 1=j - i:=by
 unfold Builtin.Slice.slicePlaces;have h1:(1:Int) > 0:=by lia
 simp only[h1,if_true,Int.ediv_one];split <;> lia
theorem iJ {v:Value} {o:Option Int} {Q:Option Int->Shared->Prop} (p:IsPart v o) (h:Q o s):wpAny (model prog w) A (Builtin.Slice.slicePartIndex v) Q E s:=by
 cases p with
 | none=>exact slicePart_none h
 | int i t=>exact slicePart_int h
theorem c8 {sl:Addr} {vl vu:Value} {lo hi:Option Int} {n:Nat} {Q:Int×Int×Nat->Shared->Prop} (hs:s.heap.IsSliceOf sl vl vu .none) (pl:IsPart vl lo) (pu:IsPart vu hi)
  (h:Q (((bt n 0 lo:Nat):Int),1,bt n n hi - bt n 0 lo) s):wpAny (model prog w) A (Builtin.Slice.sliceApplied (.ref sl) (pure (n:Int))) Q E s:=by
 obtain⟨os,zU,rL,Cf⟩:=id hs;unfold Builtin.Slice.sliceApplied Builtin.Slice.sliceFields;refine Jv (Jv (wpAny_field zU Cf (x:=vl) rfl (Jv (wpAny_field zU Cf (x:=vu) rfl (Jv (wpAny_field zU Cf (x:= .none) rfl (Jy ?_)))))));refine Jv (slicePart_none ?_);show wpAny _ _ (if ((1:Int)==0)=true then _ else _) _ _ s;rw[if_neg (by decide)];refine Jv (iJ pl (Jv (iJ pu (Jv (Jy ?_)))));show wpAny _ _ (match Builtin.Slice.sliceAdjust lo hi 1 (n:Int) with | (lo,hi)=>pure (lo,(1:Int),Builtin.Slice.slicePlaces lo hi 1)) _ _ s;rw[nV lo hi n];show wpAny _ _ (pure (((bt n 0 lo:Nat):Int),(1:Int),Builtin.Slice.slicePlaces ((bt n 0 lo:Nat):Int) ((bt n n hi:Nat):Int) 1)) _ _ s;rw[nG];exact Jy h
theorem se (xs:Array Value) (i k:Nat):((List.range k).filterMap λ(m:Nat)=>xs[((i:Int) + (m:Int) * 1).toNat]?).toArray=((xs.toList.drop i).take k).toArray:=by
 have e:(λ(m:Nat)=>xs[((i:Int) + (m:Int) * 1).toNat]?)=λm=>xs[i + m]?:=by
  funext m;have:((i:Int) + (m:Int) * 1).toNat=i + m:=by lia
  rw[this]
 rw[e];have:=pick_run xs i k;rw[List.filterMap_map] at this;have e2:((λx=>xs[x]?) ∘ λx=>i + x)=λm=>xs[i + m]?:=rfl
 rw[e2] at this;rw[this]
theorem fm {t sl:Addr} {items:Array Value} {vl vu:Value} {lo hi:Option Int} {Q:Value->Shared->Prop} (ht:IsTup s.heap t items) (hs:s.heap.IsSliceOf sl vl vu .none) (pl:IsPart vl lo) (pu:IsPart vu hi)
  (hw:¬(bt items.size 0 lo=0/\bt items.size items.size hi=items.size))
  (h:Q (.ref s.heap.objs.size) {s with heap:=s.heap.push {cls:= .type "tuple",data:= .seq ((items.toList.drop (bt items.size 0 lo)).take (bt items.size items.size hi - bt items.size 0 lo)).toArray}})
  (ke:items.size<=sizeLine):wpAny (model prog w) A (getItem (.ref t) (.ref sl)) Q E s:=by
 have pE:sizeOk (.seq ((items.toList.drop (bt items.size 0 lo)).take (bt items.size items.size hi - bt items.size 0 lo)).toArray):=by
  show ((items.toList.drop (bt items.size 0 lo)).take (bt items.size items.size hi - bt items.size 0 lo)).toArray.size<=sizeLine;rw[JA,List.length_take,List.length_drop,JS]
  lia
 have hj:bt items.size items.size hi<=items.size:=yl _ _ (JE _) hi;obtain⟨os,zU,rL,Cf⟩:=id hs;have Fg:s.TypeIs (.ref sl) "slice":=⟨os,zU,rL⟩;unfold getItem
 try with_reducible refine wpAny_holding ?_
 first | refine Jv (Jy ?_) | skip
 refine Jv (wpAny_sequenceKey ht.typeIs (by decide) ?_);refine Jv (wpAny_callSpecial?_slot (name:=Str.ofString "__getitem__") ht.typeIs PyProof.Rows.slot_tuple_getitem
  (wpAny_call_entry PyProof.Rows.slot_tuple_getitem ht.typeIs entry_tuple_getitem ?_ (args_tuple_getitem _ _)))
 show wpAny _ _ (Builtin.Tuple.tupleItemsOf (.ref t) >>=_) _ _ s;refine Jv (tupleItemsOf_ ht ?_);refine Jv (wpAny_typeOf Fg ?_);rw[if_pos (by decide)];refine Jv (c8 hs pl pu ?_);have IP:¬((((bt items.size 0 lo:Nat):Int)==0&&(1:Int)==1&&(bt items.size items.size hi - bt items.size 0 lo)==items.size)=true):=by intro q;rw[Jz,Jz] at q;have q1:((bt items.size 0 lo:Nat):Int)=0:=JV q.1.1;have q2:bt items.size items.size hi - bt items.size 0 lo=items.size:=JV q.2;exact hw ⟨by lia,by lia⟩
 show wpAny _ _ (if (((bt items.size 0 lo:Nat):Int)==0&&(1:Int)==1&&(bt items.size items.size hi - bt items.size 0 lo)==items.size)=true then _ else _) _ _ s;rw[if_neg IP,se]
 first
  | exact Jv (m:=Builtin.Tuple.tupleExact _) (wpAny_newObj_type (Jy ⟨_,rfl,Jy h⟩) pE)
  | exact Jv (m:=Builtin.Tuple.tupleExact _) (wpAny_newObj_type (Jv (Jy (Jy ⟨_,rfl,Jy h⟩))) pE)
  | exact Jv (Jv (m:=Builtin.Tuple.tupleExact _) (wpAny_newObj_type (Jy (Jy ⟨_,rfl,Jy h⟩)) pE))
  | exact Jv (Jv (m:=Builtin.Tuple.tupleExact _) (wpAny_newObj_type (Jy ⟨_,rfl,Jy h⟩) pE))
end
end HT
namespace L2
open PySem PySem.Spec PyProof.Rows
noncomputable abbrev TO:=St->Hp->(Option Int->Hp->Prop)->Prop
noncomputable def PO (X:Cx) (e:Option Expr) (t:TO):Prop:=
 ∀(pins:List (Addr×Obj)) (s:Shared) (σ:St) (H:Hp) (Q:Option Int->Hp->Prop),Inv X pins σ H s->t σ H Q->
  wpAny (model X.prog X.w) X.A (evalPart e X.env) (λu s'=>∃o H',Inv X pins σ H' s'/\IsPart u o/\Q o H') X.xe s
noncomputable def vp:TO:=λ_ H Q=>Q none H
noncomputable def BQ (t:TE):TO:=λσ H Q=>t σ H λx H1=>∃i,x= .int i/\Q (some i) H1
section
variable {X:Cx} {e:Expr} {te:TE} {lo hi:Option Expr} {tl th:TO} {pos p2:Pos}
theorem px:PO X none vp:=by intro pins s σ H Q I h;rw[evalPart_none];exact Jy ⟨none,H,I,.none,h⟩
theorem pT (h:PE X e te):PO X (some e) (BQ te):=by
 intro pins s σ H Q I hw;rw[evalPart_some];refine bq (h pins s σ H _ I hw) λu s1 ⟨x,H1,I1,r1,q1⟩=>?_
 obtain⟨i,rfl,q⟩:=q1;obtain⟨t,rfl⟩:=r1;exact⟨some i,H1,I1,.int i t,q⟩
noncomputable def AL (X:Cx) (r:V->Option Int->Option Int->Hp->VK->Prop):Prop:=
 ∀(pins:List (Addr×Obj)) (s:Shared) (σ:St) (H:Hp) (x:V) (v vl vu:Value) (lo hi:Option Int) (sl:Addr) (Q:VK),Inv X pins σ H s->RelV x v->s.heap.IsSliceOf sl vl vu .none->IsPart vl lo->IsPart vu hi->r x lo hi H Q->
  ∃T id,typeLookup (.type T) "__getitem__"=pure (some (.builtin id))/\s.TypeIs v T/\wpAny (model X.prog X.w) X.A (getItem v (.ref sl)) (EP X pins σ Q) X.xe s
noncomputable def IY (r:V->Option Int->Option Int->Hp->VK->Prop) (te:TE) (tl th:TO):TE:=λσ H Q=>te σ H λx H1=>tl σ H1 λl H2=>th σ H2 λu H3=>r x l u H3 Q
theorem lQ {r:V->Option Int->Option Int->Hp->VK->Prop} (hr:AL X r) (he:PE X e te) (hl:PO X lo tl) (hu:PO X hi th):PE X (.Subscript e (.Slice lo hi none p2) pos) (IY r te tl th):=by
 intro pins s σ H Q I h;refine Subscript_ (bq (he pins s σ H _ I h) λv s1 ⟨x,H1,I1,r1,q1⟩=>?_);refine wpAny_Slice (bq (hl pins s1 σ H1 _ I1 q1) λvl s2 ⟨l,H2,I2,pl,q2⟩=>bq (hu pins s2 σ H2 _ I2 q2) λvu s3 ⟨u,H3,I3,pu,q3⟩=>?_);rw[evalPart_none];refine Jy ?_;have I4:Inv X pins σ H3 {s3 with heap:=s3.heap.push {cls:= .type "slice",data:= .fields #[vl,vu,.none]}}:=I3.kept (t':=s3.toks) λb ob q=>Jx _ q
 obtain⟨T,id,hT,ht,hg⟩:=hr pins {s3 with heap:=s3.heap.push {cls:= .type "slice",data:= .fields #[vl,vu,.none]}} σ H3 x v vl vu l u s3.heap.objs.size Q I4 r1 (Heap.IsSliceOf.new ..) pl pu q3;show wpAny (model X.prog X.w) X.A (subscriptTail e (.Slice lo hi none p2) v (.ref s3.heap.objs.size)) (EP X pins σ Q) X.xe {s3 with heap:=s3.heap.push {cls:= .type "slice",data:= .fields #[vl,vu,.none]}};exact tail_any (ops:=[.ref s3.heap.objs.size,v]) ht hT hg (by with_unfolding_all rfl)
noncomputable def jx (xs:List V) (lo hi:Option Int):List V:=(xs.drop (HT.bt xs.length 0 lo)).take (HT.bt xs.length xs.length hi - HT.bt xs.length 0 lo)
theorem gD (xs:List V) (lo hi:Option Int):(jx xs lo hi).length<=xs.length:=by
 unfold jx;rw[List.length_take,List.length_drop]
 lia
noncomputable def FL (K:PySem.W.Frag):V->Option Int->Option Int->Hp->VK->Prop:=λx lo hi H Q=>∃a xs,x= .ref a/\dy K H a xs/\
 ¬(HT.bt xs.length 0 lo=0/\HT.bt xs.length xs.length hi=xs.length)/\∀p,H p=none->Q (.ref p) (upd H p (.tup (jx xs lo hi)))
theorem zp:AL X (FL X.K):=by
 intro pins s σ H x v vl vu lo hi sl Q I rx hs pl pu h;obtain⟨a,xs,rfl,hx,hw,q⟩:=h;cases rx;obtain⟨its,r,ht,hz⟩:=I.tuple hx;have hlen:its.toArray.size=xs.length:=by rw[JA];exact r.length.symm
 refine⟨"tuple",_,PyProof.Rows.slot_tuple_getitem.lookup,ht.typeIs,?_⟩;refine HT.fm ht hs pl pu (by rw[hlen];exact hw) ?_ (by rw[hlen];exact hz);rw[hlen];refine⟨.ref s.heap.objs.size,_,I.laid (t':=s.toks) (o:= .tup (jx xs lo hi)) (λb ob q=>Jx _ q) (JE _) ?_,rfl,q _ (I.hok.fresh (JE _))⟩;exact⟨JJ (gD xs lo hi) hz,_,(r.drop (HT.bt xs.length 0 lo)).take (HT.bt xs.length xs.length hi - HT.bt xs.length 0 lo),IsTup.new _ _⟩
noncomputable def Bf (K:PySem.W.Frag):R2:=λx y H Q=>∃a b xs ys,x= .ref a/\y= .ref b/\dy K H a xs/\dy K H b ys/\xs≠[]/\xs.length + ys.length<=sizeLine/\
 (ys=[]->Q (.ref a) H)/\(ys≠[]->∀p,H p=none->Q (.ref p) (upd H p (.tup (xs++ys))))
theorem au.ku {xs:List V} {us:List Value} (r:au xs us):us=[]↔xs=[]:=by
 cases r with
 | nil=>simp
 | cons _ _=>simp
theorem dw:jK X (binaryOp .Add) (Bf X.K):=by intro pins s σ H x y v u Q I rx ry h;obtain⟨a,b,xs,ys,rfl,rfl,ha,hb,hx,hz,q1,q2⟩:=h;cases rx;cases ry;obtain⟨its,r1,p1,_⟩:=I.tuple ha;obtain⟨aE,r2,p2,_⟩:=I.tuple hb;refine HT.wm p1 p2 (λz=>hx (r1.ku.mp z)) (λz=>⟨.ref a,H,I,rfl,q1 (r2.ku.mp z)⟩) (λz=>?_) (by rw[<-r1.length,<-r2.length];exact hz);refine⟨.ref s.heap.objs.size,_,I.laid (t':=s.toks) (o:= .tup (xs++ys)) (λb ob q=>Jx _ q) (JE _) ?_,rfl,q2 (λw=>z (r2.ku.mpr w)) _ (I.hok.fresh (JE _))⟩;exact⟨by rw[JO];exact hz,_,r1.append r2,IsTup.new _ _⟩
end
end L2
namespace L2
open PySem PySem.Spec PyProof.Rows
noncomputable def rO (n:Nat) (i:Int):Option Nat:=if 0<=i then(if i < n then some i.toNat else none) else if -(n:Int)<=i then some (i + n).toNat else none
noncomputable def mB {α:Type} (xs:List α) (i:Int):Option α:=(rO xs.length i).bind λj=>xs[j]?
theorem qj {n:Nat} {i:Int} {j:Nat} (h:rO n i=some j):seqIndex? i n=some j/\j < n/\ -(n:Int)<=i/\i < n:=by
 unfold rO at h;by_cases h0:0<=i
 ·rw[if_pos h0] at h;by_cases h1:i < n
  ·rw[if_pos h1] at h;have e:i.toNat=j:=Option.some.inj h;exact⟨by rw[seqIndex_of h0 h1,e],by lia,by lia,h1⟩
  ·rw[if_neg h1] at h;cases h
 ·rw[if_neg h0] at h;by_cases h1: -(n:Int)<=i
  ·rw[if_pos h1] at h;have e:(i + n).toNat=j:=Option.some.inj h;exact⟨by rw[seqIndex_neg (by lia) h1,e],by lia,h1,by lia⟩
  ·rw[if_neg h1] at h;cases h
theorem kg {α:Type} {xs:List α} {i:Int} {v:α} (h:mB xs i=some v):∃j,seqIndex? i xs.length=some j/\xs[j]?=some v/\j < xs.length/\ -(xs.length:Int)<=i/\i < xs.length:=by grind [mB,rO,qj]
theorem iu {α:Type} {xs:List α} {j:Nat} {v:α} (h:xs[j]?=some v):mB xs (j:Int)=some v:=by grind [rO,mB]
noncomputable def ka (b:Expr):Prop:=∀o i,subscripted b false o i=operate [o,i] (getItem o i)
noncomputable def A5 (X:Cx) (r:R2):Prop:=
 ∀(value slice:Expr) (pins:List (Addr×Obj)) (s:Shared) (σ:St) (H:Hp) (x y:V) (v u:Value) (Q:VK),Inv X pins σ H s->RelV x v->RelV y u->r x y H Q->
  subscripted slice false v u=operate [v,u] (getItem v u)->wpAny (model X.prog X.w) X.A (subscriptTail value slice v u) (EP X pins σ Q) X.xe s
noncomputable def Gp (X:Cx) (id:String) (r:V->List V->Hp->VK->Prop):Prop:=
 ∀(pins:List (Addr×Obj)) (s:Shared) (σ:St) (H:Hp) (x:V) (xs:List V) (v:Value) (us:List Value) (Q:VK),Inv X pins σ H s->RelV x v->au xs us->r x xs H Q->
  wpAny (model X.prog X.w) X.A (call (.builtin id) (v::us)) (EP X pins σ Q) X.xe s
section
variable {X:Cx} {a b:Expr} {ta tb:TE} {pos:Pos}
theorem Ct {r:R2} (hr:A5 X r) (ha:PE X a ta) (hb:PE X b tb) (hs:ka b):PE X (.Subscript a b pos) (Dq r ta tb):=by intro pins s σ H Q I h;exact Subscript_ (yH ha hb I h λv u s2 x y H2 I2 rx ry q=>hr a b pins s2 σ H2 x y v u Q I2 rx ry q (hs _ _))
noncomputable def FI (K:PySem.W.Frag):R2:=λx y H Q=>∃p xs i v,x= .ref p/\y= .int i/\cW K H p xs/\mB xs i=some v/\Q v H
noncomputable def FW (K:PySem.W.Frag):R2:=λx y H Q=>∃p xs i v,x= .ref p/\y= .int i/\dy K H p xs/\mB xs i=some v/\Q v H
noncomputable def FB:R2:=λx y H Q=>∃z i c,x= .str z/\y= .int i/\z.length<=sizeLine/\mB z.cps.toList i=some c/\Q (.str ⟨#[c]⟩) H
theorem pk:A5 X (FI X.K):=by
 intro value slice pins s σ H x y v u Q I rx ry h hs;obtain⟨p,xs,i,z,rfl,rfl,hq,he,q⟩:=h;cases rx;obtain⟨t,rfl⟩:=ry;obtain⟨its,r,pl,hz⟩:=I.list hq;obtain⟨j,h1,h2,h3,h4,h5⟩:=kg he;obtain⟨w,ew,FP⟩:=r.get h2;have hl:=r.length;have hn:=gi;have fin:EP X pins σ Q w s:=⟨z,H,I,FP,q⟩;by_cases h0:0<=i
 ·have hj:i.toNat=j:=by rw[seqIndex_of h0 h5] at h1;exact Option.some.inj h1
  exact item_listR pl.isList h0 (by lia) (by rw[hj];simpa using ew) fin hs
 ·have hj:(i + (its.toArray.size:Int)).toNat=j:=by rw[seqIndex_neg (by lia) h4] at h1;rw[JA,<-hl];exact Option.some.inj h1
  exact subscriptTail_builtinR (x:=w) pl.isList.typeIs slot_list_getitem.lookup
   (wpAny_getItem_list_neg (Q:=λr s'=>r=w/\EP X pins σ Q r s') pl.isList (by lia) (by rw[JA] <;> lia) (by lia) (by rw[hj];simpa using ew) ⟨rfl,fin⟩) hs
theorem Ai:A5 X (FW X.K):=by
 intro value slice pins s σ H x y v u Q I rx ry h hs;obtain⟨p,xs,i,z,rfl,rfl,hq,he,q⟩:=h;cases rx;obtain⟨t,rfl⟩:=ry;obtain⟨its,r,pl,hz⟩:=I.tuple hq;obtain⟨j,h1,h2,h3,h4,h5⟩:=kg he;obtain⟨w,ew,FP⟩:=r.get h2;have hl:=r.length;have hn:=gi;have fin:EP X pins σ Q w s:=⟨z,H,I,FP,q⟩;exact subscriptTail_builtinR (x:=w) pl.typeIs slot_tuple_getitem.lookup
  (getItem_tuple (j:=j) (Q:=λr s'=>r=w/\EP X pins σ Q r s') pl (by lia) (by lia) (by rw[JA,<-hl];exact h1) (by simpa using ew) ⟨rfl,fin⟩) hs
theorem zh:A5 X FB:=by
 intro value slice pins s σ H x y v u Q I rx ry h hs;obtain⟨z,i,c,rfl,rfl,hz,he,q⟩:=h;obtain⟨t,rfl⟩:=rx;obtain⟨t',rfl⟩:=ry;obtain⟨j,h1,h2,h3,h4,h5⟩:=kg he;have hl:z.cps.toList.length=z.length:=by simp[Str.length]
 rw[hl] at h1 h4 h5;have hn:=gi;exact tail_any (typeIs_str s z t) slot_str_getitem.lookup (getItem_str (c:=c) (by
  have e1:decide (i < -(2 ^ 63:Int))=false:=JX (by lia);have e2:decide (i>=2 ^ 63)=false:=JX (by lia);rw[e1,e2,Bool.or_false]) (by rw[h1];simpa using h2) ⟨.str ⟨#[c]⟩,H,I.tok _,⟨_,rfl⟩,q⟩) hs
theorem oG (its:List Value) (n j:Nat) (u:Value):Obj.mapSeq (·.setIfInBounds j u) {cls:= .type "list",data:= .seq its.toArray n}={cls:= .type "list",data:= .seq (its.set j u).toArray n}:=by simp[Obj.mapSeq]
theorem Inv.lst {pins:List (Addr×Obj)} {σ:St} {H:Hp} {s:Shared} {p:Addr} {xs:List V} (I:Inv X pins σ H s) (h:H p=some (.lst xs)):
  ∃(its:List Value) (n:Nat),au xs its/\s.heap.get? p=some {cls:= .type "list",data:= .seq its.toArray n}/\xs.length<=sizeLine:=by
 obtain⟨z,its,n,r,e⟩:=I.hok p _ h;exact⟨its,n,r,e,z⟩
theorem Inv.zg {pins:List (Addr×Obj)} {σ:St} {H:Hp} {s:Shared} {p:Addr} {xs ys:List V} {its its':List Value} {n n':Nat} {f:Obj->Obj} (I:Inv X pins σ H s) (h:H p=some (.lst xs))
  (ho:s.heap.get? p=some {cls:= .type "list",data:= .seq its.toArray n}) (hf:f {cls:= .type "list",data:= .seq its.toArray n}={cls:= .type "list",data:= .seq its'.toArray n'}) (r:au ys its') (hz:ys.length<=sizeLine) (t:Nat):
  Inv X pins σ (upd H p (.lst ys)) {s with heap:=s.heap.update p f,toks:=t}:=by
 have e:(s.heap.update p f).get? p=some {cls:= .type "list",data:= .seq its'.toArray n'}:=by rw[Heap.get?_update_self f ho (by rw[hf] <;> rfl),hf]
 refine I.write (x:=p) (e:=p) (by rw[h];trivial) (.inl rfl) (λb u hb q=>(J0 _ _ (Ne.symm hb)).trans q) ⟨_,e⟩ ?_;exact⟨hz,its',n',r,e⟩
noncomputable def xY:V->V->V->Hp->(Hp->Prop)->Prop:=λo i v H Q=>∃p xs k j,o= .ref p/\i= .int k/\H p=some (.lst xs)/\rO xs.length k=some j/\Q (upd H p (.lst (xs.set j v)))
theorem set_list:BF X xY:=by
 intro pins s σ H o i v ov iv u Q I ro ri rv h;obtain⟨p,xs,k,j,rfl,rfl,hp,hj,q⟩:=h;cases ro;obtain⟨t,rfl⟩:=ri;obtain⟨its,n,r,ho,hz⟩:=I.lst hp;obtain⟨h1,h2,h3,h4⟩:=qj hj;have hl:=r.length;have hn:=gi;have I':Inv X pins σ (upd H p (.lst (xs.set j v))) {s with heap:=s.heap.update p (Obj.mapSeq (·.setIfInBounds j u))}:=
  I.zg hp ho (oG its n j u) (r.set rv j) (by rw[List.length_set];exact hz) s.toks
 by_cases h0:0<=k
 ·have hk:k.toNat=j:=by rw[seqIndex_of h0 h4] at h1;exact Option.some.inj h1
  exact PySem.W.ki_setAt ho h0 (by lia) (by rw[JA,<-hl];exact h4) (by rw[hk];exact⟨_,I',q⟩)
 ·have hk:(k + (its.toArray.size:Int)).toNat=j:=by rw[seqIndex_neg (by lia) h3] at h1;rw[JA,<-hl];exact Option.some.inj h1
  exact PySem.W.ki_setBack ho (by lia) (by rw[JA,<-hl];exact h3) (by lia) (by rw[hk];exact⟨_,I',q⟩)
theorem kz (lo hi:Option Int) (n:Nat):(sliceBounds lo hi none n).1=((HT.bt n 0 lo:Nat):Int)/\(sliceBounds lo hi none n).2.1=((HT.bt n n hi:Nat):Int)/\(sliceBounds lo hi none n).2.2=1:=by
 refine⟨?_,?_,rfl⟩
 ·cases lo with
  | none=>simp[sliceBounds,HT.bt]
  | some i=>
   simp only[sliceBounds,HT.bt,Option.getD_none,show (1:Int) > 0 by decide,if_true];by_cases h:i < 0
   ·simp only[h,if_true] <;> lia
   ·simp only[h,if_false] <;> lia
 ·cases hi with
  | none=>simp[sliceBounds,HT.bt]
  | some i=>
   simp only[sliceBounds,HT.bt,Option.getD_none,show (1:Int) > 0 by decide,if_true];by_cases h:i < 0
   ·simp only[h,if_true] <;> lia
   ·simp only[h,if_false] <;> lia
theorem jq (its:List Value) (lo hi:Option Int):slicePick its.toArray lo hi none=((its.drop (HT.bt its.length 0 lo)).take (HT.bt its.length its.length hi - HT.bt its.length 0 lo)).toArray:=by obtain⟨h1,h2,h3⟩:=kz lo hi its.toArray.size;unfold slicePick;rw[h1,h2,h3];simp only[sliceRange_one,pick_run,JA] <;> rfl
noncomputable def D4 (K:PySem.W.Frag):V->Option Int->Option Int->Hp->VK->Prop:=λx lo hi H Q=>∃a xs,x= .ref a/\cW K H a xs/\∀p,H p=none->Q (.ref p) (upd H p (.lst (jx xs lo hi)))
theorem qo:AL X (D4 X.K):=by intro pins s σ H x v vl vu lo hi sl Q I rx hs pl pu h;obtain⟨a,xs,rfl,hx,q⟩:=h;cases rx;obtain⟨its,r,ht,hz⟩:=I.list hx;have hlen:=r.length;refine⟨"list",_,slot_list_getitem.lookup,ht.isList.typeIs,?_⟩;refine wpAny_getItem_list_slice ht.isList hs pl pu .none (by simp) ?_ (by rw[JA] <;> lia);rw[jq,<-hlen];refine⟨.ref s.heap.objs.size,_,I.laid (t':=s.toks) (o:= .lst (jx xs lo hi)) (λb ob q=>Jx _ q) (JE _) ?_,rfl,q _ (I.hok.fresh (JE _))⟩;exact⟨JJ (gD xs lo hi) hz,_,0,(r.drop (HT.bt xs.length 0 lo)).take (HT.bt xs.length xs.length hi - HT.bt xs.length 0 lo),JG _ rfl⟩
theorem du:fI X (.type "list") (λxs H Q=>∃p ys,xs=[.ref p]/\(cW X.K H p ys\/dy X.K H p ys)/\∀l,H l=none->Q (.ref l) (upd H l (.lst ys))):=by
 intro pins s σ H xs us Q I r h;obtain⟨p,ys,rfl,hq,q⟩:=h;obtain⟨u,rfl,rx⟩:=vals1 r;cases rx;have fin:∀(its:List Value),au ys its->ys.length<=sizeLine->∀(h':Heap) (c':Nat),(∀b o',s.heap.get? b=some o'->h'.get? b=some o')->
   h'.get? s.heap.objs.size=some {cls:= .type "list",dict:=none,data:= .seq its.toArray c',slots:=#[]}->EP X pins σ Q (.ref s.heap.objs.size) {s with heap:=h'}:=λits r' hz h' c' kp e=>
  ⟨.ref s.heap.objs.size,_,I.laid (t':=s.toks) kp (JE _) (show bB X.prog X.w _ h' _ (.lst ys) from⟨hz,its,c',r',e⟩),rfl,q _ (I.hok.fresh (JE _))⟩
 rcases hq with hq | hq
 ·obtain⟨its,r',pl,hz⟩:=I.list hq;have hlen:=r'.length;obtain⟨o,ho,hc,n,hd⟩:=pl.isList;exact call_list_seq p (.inl rfl) ho hc hd (λh' c' kp e=>fin its r' hz h' c' kp e) (by simp only[JA] <;> lia)
 ·obtain⟨its,r',pl,hz⟩:=I.tuple hq;have hlen:=r'.length;obtain⟨o,ho,hc,n,hd⟩:=pl;exact call_list_seq p (.inr rfl) ho hc hd (λh' c' kp e=>fin its r' hz h' c' kp e) (by simp only[JA] <;> lia)
theorem eN:fI X (.type "tuple") (λxs H Q=>∃p ys,xs=[.ref p]/\((cW X.K H p ys/\∀l,H l=none->Q (.ref l) (upd H l (.tup ys)))\/(dy X.K H p ys/\Q (.ref p) H))):=by
 intro pins s σ H xs us Q I r h;obtain⟨p,ys,rfl,h⟩:=h;obtain⟨u,rfl,rx⟩:=vals1 r;cases rx;rcases h with ⟨hq,q⟩ | ⟨hq,q⟩
 ·obtain⟨its,r',pl,hz⟩:=I.list hq;have hlen:=r'.length;refine call_tuple_list pl.isList (λh' kp=>?_) (by simp only[JA] <;> lia);have I1:Inv X pins σ H {s with heap:=h'}:=I.kept (t':=s.toks) kp;have I2:Inv X pins σ (upd H h'.objs.size (.tup ys)) {s with heap:=h'.push {cls:= .type "tuple",data:= .seq its.toArray}}:=
   I1.laid (t':=s.toks) (λb o e=>Jx _ e) (JE _) (show bB X.prog X.w _ _ _ (.tup ys) from⟨hz,its,r',IsTup.new _ _⟩)
  exact⟨.ref h'.objs.size,_,I2,rfl,q _ (I1.hok.fresh (JE _))⟩
 ·obtain⟨its,r',pl,hz⟩:=I.tuple hq;exact call_tuple_same pl ⟨.ref p,H,I,rfl,q⟩
noncomputable def Fk (K:PySem.W.Frag) (T:String) (x:V) (H:Hp):Prop:=match x with
 | .str _=>T="str"
 | .int _=>T="int"
 | .ref p=>(T="list"/\∃xs,cW K H p xs)\/(T="tuple"/\∃o,K.lookup p=some o/\o.cls= .type "tuple"/\o.dict=none)\/
   (T="dict"/\((∃dJ,H p=some (.dK dJ))\/∃dJ,H p=some (.dT dJ)))\/(T="set"/\∃S n,H p=some (.set S n))
 | _=>False
theorem tM {pins:List (Addr×Obj)} {σ:St} {H:Hp} {s:Shared} {T:String} {x:V} {v:Value} (I:Inv X pins σ H s) (r:RelV x v) (ty:Fk X.K T x H):
  s.TypeIs v T/\∀a,v= .ref a->∃ob,s.heap.get? a=some ob/\ob.dict=none:=by
 cases x with
 | str z=>obtain⟨t,rfl⟩:=r;cases (show T="str" from ty);exact⟨typeIs_str s z t,λ_ e=>nomatch e⟩
 | int i=>obtain⟨t,rfl⟩:=r;cases (show T="int" from ty);exact⟨typeIs_int s i t,λ_ e=>nomatch e⟩
 | ref p=>
  cases r;rcases ty with ⟨rfl,xs,hq⟩ | ⟨rfl,o,hk,hc,hd⟩ | ⟨rfl,hk⟩ | ⟨rfl,S,n,hk⟩
  ·obtain⟨its,_,pl,_⟩:=I.list hq;refine⟨pl.isList.typeIs,λa e=>?_⟩;cases e;obtain⟨o,n,e,c,hd,_⟩:=pl;exact⟨o,e,hd⟩
  ·refine⟨⟨o,I.gV p o hk,hc⟩,λa e=>?_⟩;cases e;exact⟨o,I.gV _ o hk,hd⟩
  ·have z:∃o,s.heap.get? p=some o/\o.ExactDict:=by
    rcases hk with ⟨dJ,hk⟩ | ⟨dJ,hk⟩
    ·obtain⟨_,_,_,_,o,_,_,e,ex,_⟩:=I.hok p _ hk;exact⟨o,e,ex⟩
    ·obtain⟨_,_,_,_,o,_,_,e,ex,_⟩:=I.hok p _ hk;exact⟨o,e,ex⟩
   obtain⟨o,e,ex⟩:=z;refine⟨⟨o,e,ex.1⟩,λa e2=>?_⟩;cases e2;exact⟨o,e,ex.2.1⟩
  ·obtain⟨o,_,_,_,e,ex,_⟩:=I.hok p _ hk;refine⟨⟨o,e,ex.1⟩,λa e2=>?_⟩;cases e2;exact⟨o,e,ex.2.1⟩
 | _=>exact False.elim ty
noncomputable def CQ (K:PySem.W.Frag) (T:String) (r:V->List V->Hp->VK->Prop) (to:TE):TE:=λσ H Q=>to σ H λx H1=>Fk K T x H1/\r x [] H1 Q
noncomputable def Fo (K:PySem.W.Frag) (T:String) (r:V->List V->Hp->VK->Prop) (to:TE) (t:TA):TE:=λσ H Q=>to σ H λx H1=>Fk K T x H1/\t σ H1 λxs H2=>r x xs H2 Q
variable {o e:Expr} {es:List Expr} {to:TE} {t:TA} {name:Str} {apos cL:Pos} {T id:String} {r:V->List V->Hp->VK->Prop}
theorem Ay (pa:PlainAttrs T) (slot:Slot T name id) (Fw:typeOf (.builtin id)=pure (.type "method_descriptor")) (hm:Gp X id r) (ho:PE X o to)
  (mL:attributeBase o name X.env (eval o X.env)=eval o X.env:=by rfl) (uh:(apos.endLine==cL.line)=true:=by rfl):PE X (.Call (.Attribute o name apos) [] [] cL) (CQ X.K T r to):=by
 intro pins s σ H Q I h;refine wpAny_Call_method0_late mL uh (bq (ho pins s σ H _ I h) λv s1 ⟨x,H1,I1,r1,ty,q1⟩=>?_);obtain⟨h1,h2⟩:=tM I1 r1 ty;exact⟨T,id,pa,slot,Fw,h1,h2,Calls.callWith_builtin rfl (PySem.evalArgs_none (hm pins s1 σ H1 x [] v [] Q I1 r1 .nil q1))⟩
theorem xq (pa:PlainAttrs T) (slot:Slot T name id) (Fw:typeOf (.builtin id)=pure (.type "method_descriptor")) (hm:Gp X id r) (ho:PE X o to) (ha:PA X (e::es) t)
  (mL:attributeBase o name X.env (eval o X.env)=eval o X.env:=by rfl)
  (EF:((backTo cL (starEach (e::es) X.env)).all (λx=> !x.1)&&(backToKw cL (keywordEach [] X.env)).all (λx=>x.1.isSome)
   &&decide ((e::es).length + ([]:List Keyword).length + (if ([]:List Keyword).isEmpty then 0 else 1) < 30))=true:=by rfl)
  (uh:(apos.endLine==cL.line)=true:=by rfl) (hs:starEach (e::es) X.env=(false,eval e X.env)::starEach es X.env:=by rfl) (zY:(backTo cL (starEach es X.env)).any (·.1)=false:=by rfl):
  PE X (.Call (.Attribute o name apos) (e::es) [] cL) (Fo X.K T r to t):=by
 intro pins s σ H Q I h;refine wpAny_Call_method_late mL EF uh rfl (bq (ho pins s σ H _ I h) λv s1 ⟨x,H1,I1,r1,ty,q1⟩=>?_);obtain⟨h1,h2⟩:=tM I1 r1 ty;refine⟨T,id,pa,slot,Fw,h1,h2,?_⟩;have hA:=ha cL pins s1 σ H1 _ I1 q1;rw[hs] at hA ⊢;refine Calls.callWith_builtin (by show (false||(backTo cL (starEach es X.env)).any (·.1))=false;rw[zY] <;> rfl) (Calls.evalArgs_plain ?_);exact bq hA λus s2 ⟨vs,H2,I2,r2,q2⟩=>hm pins s2 σ H2 x vs v us Q I2 r1 r2 q2
end
end L2
namespace L2
open PySem PySem.Spec PyProof.Rows
noncomputable def DR (X:Cx) (id:String) (r:V->List V->Hp->VK->Prop):Prop:=
 ∀(pins:List (Addr×Obj)) (s:Shared) (σ:St) (H:Hp) (x:V) (xs:List V) (v:Value) (us:List Value) (Q:VK),Inv X pins σ H s->RelV x v->au xs us->r x xs H Q->
  wpAny (model X.prog X.w) X.A (call (.builtin id) (v::us)) (EP X pins σ Q) X.xe s
theorem au.one:∀{x:V} {us:List Value},au [x] us->∃u,us=[u]/\RelV x u
 | _,_,.cons r .nil=>⟨_,rfl,r⟩
theorem au.two:∀{x y:V} {us:List Value},au [x,y] us->∃u v,us=[u,v]/\RelV x u/\RelV y v
 | _,_,_,.cons r (.cons q .nil)=>⟨_,_,rfl,r,q⟩
theorem au.zero:∀{us:List Value},au [] us->us=[]
 | _,.nil=>rfl
theorem au.dropLast {xs:List V} {us:List Value} (h:au xs us):au xs.dropLast us.dropLast:=by
 induction h with
 | nil=>exact .nil
 | cons r t ih=>
  cases t with
  | nil=>exact .nil
  | cons q t'=>exact .cons r ih
theorem nP {α:Type} (l:List α):l.eraseIdx (l.length - 1)=l.dropLast:=by grind
section
variable {X:Cx} {pins:List (Addr×Obj)} {σ:St} {H:Hp} {s:Shared} {l b:Addr} {xs ys zs:List V}
theorem Inv.xa {its its':List Value} {n:Nat} {f:Array Value->Array Value} {t':Nat} (I:Inv X pins σ H s) (hH:H l=some (.lst xs))
  (e:s.heap.get? l=some {cls:= .type "list",data:= .seq its.toArray n}) (hf:f its.toArray=its'.toArray) (hv:au ys its') (hz:ys.length<=sizeLine):
  Inv X pins σ (upd H l (.lst ys)) {s with heap:=s.heap.update l (Obj.mapSeq f),toks:=t'}:=by
 have q:=PySem.IsL.update e f;rw[hf] at q;refine I.write (x:=l) (e:=l) (by rw[hH];exact trivial) (.inl rfl) (λb' u hb hu=>(J0 s.heap (Obj.mapSeq f) (Ne.symm hb)).trans hu) ⟨_,q⟩ ?_;exact⟨hz,its',_,hv,q⟩
theorem Inv.BL {its:List Value} {t':Nat} (I:Inv X pins σ H s) (hv:au ys its) (hz:ys.length<=sizeLine):
  Inv X pins σ (upd H s.heap.objs.size (.lst ys)) {s with heap:=s.heap.push {cls:= .type "list",data:= .seq its.toArray},toks:=t'}:=
 I.laid (λ_ _ q=>Jx _ q) (JE _) ⟨hz,its,0,hv,JG _ rfl⟩
theorem Inv.fresh (I:Inv X pins σ H s):H s.heap.objs.size=none:=I.hok.fresh (JE _)
theorem Inv.oC (I:Inv X pins σ H s) (hH:H l=some (.lst xs)):xs.length<=sizeLine/\∃(its:List Value) (n:Nat),au xs its/\xs.length=its.length/\s.heap.get? l=some {cls:= .type "list",data:= .seq its.toArray n}:=by obtain⟨z,its,n,r,e⟩:=I.hok l _ hH;exact⟨z,its,n,r,r.length,e⟩
theorem uG {n:Nat} (h:n<=sizeLine):Builtin.List.listTooLong n=false:=by unfold Builtin.List.listTooLong;exact JX (by lia)
end
section
variable {X:Cx}
noncomputable def o6:V->List V->Hp->VK->Prop:=λx vs H Q=>∃l xs y,x= .ref l/\vs=[y]/\H l=some (.lst xs)/\xs.length < sizeLine/\Q .a6 (upd H l (.lst (xs++[y])))
theorem jz:DR X "list.append" o6:=by
 intro pins s σ H x vs v us Q I rx rv h;obtain⟨l,xs,y,rfl,rfl,hH,hz,q⟩:=h;cases rx;obtain⟨u,rfl,ru⟩:=rv.one;obtain⟨z,its,n,r,hl,e⟩:=I.oC hH;refine call_meets F.slot_list_append ⟨_,e,rfl⟩ F.entry_list_append (F.args_list_append_2 _ _) (PySem.list_append l its.toArray n u (by rw[JA];lia)) ⟨e,?_⟩;refine⟨.a6,_,I.xa (its':=its++[u]) hH e (by simp) (r.append (.cons ru .nil)) ?_,rfl,q⟩;rw[JO,List.length_singleton]
 lia
noncomputable def pd:V->List V->Hp->VK->Prop:=λx vs H Q=>∃l b xs zs,x= .ref l/\vs=[.ref b]/\H l=some (.lst xs)/\H b=some (.lst zs)/\xs.length + zs.length<=sizeLine/\Q .a6 (upd H l (.lst (xs++zs)))
theorem rn:DR X "list.extend" pd:=by
 intro pins s σ H x vs v us Q I rx rv h;obtain⟨l,b,xs,zs,rfl,rfl,hH,hB,hz,q⟩:=h;cases rx;obtain⟨u,rfl,ru⟩:=rv.one;cases ru;obtain⟨z,its,n,r,hl,e⟩:=I.oC hH;obtain⟨z2,aE,n2,r2,gA,e2⟩:=I.oC hB;have ke:its.toArray.size + aE.toArray.size<=sizeLine:=by rw[JA,JA];lia
 have Cp:¬(!its.toArray.isEmpty&&Builtin.List.listTooLong (its.toArray.size + aE.toArray.size))=true:=by rw[uG ke,Bool.and_false];exact Bool.false_ne_true
 refine call_meets F.slot_list_extend ⟨_,e,rfl⟩ F.entry_list_extend (F.args_list_extend_2 _ _)
  (AutoSeq1.list_extend_list_list_0 l its.toArray n b aE.toArray n2 Cp (by rw[JA];lia) (by lia)) ⟨e,e2,?_⟩
 refine⟨.a6,_,I.xa (its':=its++aE) hH e (by simp) (r.append r2) ?_,rfl,q⟩;rw[JO]
 lia
noncomputable def D2:V->List V->Hp->VK->Prop:=λx vs H Q=>∃l xs y,x= .ref l/\vs=[]/\H l=some (.lst xs)/\xs[xs.length - 1]?=some y/\Q y (upd H l (.lst xs.dropLast))
theorem FR:DR X "list.pop" D2:=by
 intro pins s σ H x vs v us Q I rx rv h;obtain⟨l,xs,y,rfl,rfl,hH,hy,q⟩:=h;cases rx;have FN:=rv.zero;subst FN;obtain⟨z,its,n,r,hl,e⟩:=I.oC hH;obtain⟨u,hu,ru⟩:=r.get hy;have Jc:its.toArray[its.toArray.size - 1]?=some u:=by show its.toArray[its.length - 1]?=some u;rw[<-Array.getElem?_toList,<-hl];exact hu
 refine call_meets F.slot_list_pop ⟨_,e,rfl⟩ F.entry_list_pop (F.args_list_pop_1 _) (MeetsSeq.list_pop_last l its.toArray n u Jc (by rw[JA];lia)) ⟨e,?_⟩;refine⟨y,_,I.xa (its':=its.dropLast) hH e ?_ r.dropLast ?_,ru,q⟩
 ·show its.toArray.eraseIdxIfInBounds (its.toArray.size - 1)=its.dropLast.toArray;rw[JA,List.eraseIdxIfInBounds_toArray,nP]
 ·rw[List.length_dropLast]
  lia
noncomputable def uN:V->List V->Hp->VK->Prop:=λx vs H Q=>∃l xs,x= .ref l/\vs=[]/\H l=some (.lst xs)/\Q .a6 (upd H l (.lst []))
theorem r8:DR X "list.clear" uN:=by intro pins s σ H x vs v us Q I rx rv h;obtain⟨l,xs,rfl,rfl,hH,q⟩:=h;cases rx;have FN:=rv.zero;subst FN;obtain⟨z,its,n,r,hl,e⟩:=I.oC hH;refine call_meets F.slot_list_clear ⟨_,e,rfl⟩ F.entry_list_clear (F.args_list_clear_1 _) (AutoSeq1.list_clear_list_0 l its.toArray n (by rw[JA];lia)) ⟨e,?_⟩;exact⟨.a6,_,I.xa (its':=[]) (ys:=[]) hH e rfl .nil (Nat.zero_le _),rfl,q⟩
noncomputable def FM:R2:=λx y H Q=>∃l b xs zs,x= .ref l/\y= .ref b/\H l=some (.lst xs)/\H b=some (.lst zs)/\xs.length + zs.length<=sizeLine/\∀p,H p=none->Q (.ref p) (upd H p (.lst (xs++zs)))
theorem dq:jK X (binaryOp .Add) FM:=by
 intro pins s σ H x y v u Q I rx ry h;obtain⟨l,b,xs,zs,rfl,rfl,hH,hB,hz,q⟩:=h;cases rx;cases ry;obtain⟨z,its,n,r,hl,e⟩:=I.oC hH;obtain⟨z2,aE,n2,r2,gA,e2⟩:=I.oC hB;refine PySem.P.add_list e e2 ?_ (by rw[JA,JA];lia);have ea:its.toArray++aE.toArray=(its++aE).toArray:=by simp
 rw[ea];exact⟨.ref _,_,I.BL (t':=s.toks) (r.append r2) (by rw[JO];lia),rfl,q _ I.fresh⟩
end
end L2
namespace Att
open PySem PySem.W PySem.Calls PyProof.Rows
theorem gU {P:Params} {h:Heap}:∀(ns:List Int) (vs:List Value),WellAll P h vs (ns.map WData.int)->IntsAre vs ns:=by
 intro ns
 induction ns with
 | nil=>intro vs w;rw[List.map_nil] at w;cases w;exact .nil
 | cons n ns ih=>
  intro vs w;rw[Kh] at w;cases w with
  | cons a b=>cases a;exact .cons _ _ (ih _ b)
theorem qC {l:OpenLaw} {n:Nat} (hn:l.most=some n) {P:Params} {h:Heap} {args:List WData} {vals:List Value}
  (qV:l.row.toRowW.claim.pre args=true) (DS:WellAll P h vals args):
  ∃a vs ns,vals=[Value.ref a]/\args=[WData.list (ns.map WData.int)]/\h.get? a=some {cls:= .type "list",data:= .seq vs.toArray}/\IntsAre vs ns/\ns.length<=n:=by
 have Hz:WShape.hasAll [] args [.list .int]=true:=(pre_splitW qV).1;have hc:l.pre.holds [] {args:=args}=true:=(pre_splitW qV).2;obtain⟨d,r,rfl,h1,h2⟩:=hasAllW_cons Hz;obtain rfl:=hasAllW_nil h2;obtain⟨xs,rfl,h3⟩:=hasW_list h1;obtain⟨ns,rfl⟩:=items_int h3;have hlen:ns.length<=n:=by
  unfold OpenLaw.pre at hc;have h4:(WTm.not (.lt (.lit (.int (n:Int))) (.len (.arg 0)))).holds [] {args:=[.list (ns.map .int)]}=true:=by have h4:=(holds_andW hc).1;rw[hn] at h4;exact h4
  have h5:=condW_of h4 (w_not (w_lt w_lit (w_len_list (w_arg rfl))));rw[JH] at h5;refine Nat.le_of_not_lt λq=>?_
  have q':(n:Int) < ((ns.length:Nat):Int):=by lia
  first
   | (rw[J1 q'] at h5;exact absurd h5 (by decide))
   | (simp at h5;lia)
 cases DS with
 | cons w1 w2=>
  cases w2;cases w1 with
  | list ho hall=>exact⟨_,_,ns,rfl,rfl,ho,gU ns _ hall,hlen⟩
theorem rA (l:OpenLaw) (args:List WData):l.row.toRowW.claim.post args (.bool true) args=true:=
 postW_of (r:=l.row.toRowW) (X:=(true==true))
  (show WShape.has [] (.bool true) .bool=true by first | rfl | decide | simp[WShape.has,WShape.arms,WShape.armsAll])
  (show (WTm.eq .res (.lit (.bool true))).value [] {args:=args,res:=some (.bool true),after:=args}=some (.bool (true==true)) from w_eq_bool (w_res rfl) w_lit) rfl
theorem my {l:OpenLaw} {n:Nat} {q:Program} {loose:List Str} {XP:(Str->Option Value)->Heap->Prop} {YP:World->Heap->Prop} {d:DefRec}
  (hn:l.most=some n) (Bn:d.params.defaults=[])
  (call:∀(w:World) (s₀ s₁:Shared) (mg mb:Str->Option Value) (fa:Addr) (o:Obj) (pm cd doc:Value) (a:Addr) (vs:List Value) (ns:List Int),
   Ground q loose [] XP w s₀ mg mb s₁.heap->YP w s₁.heap->
   s₁.heap.get? fa=some o->o.data= .func (docDef d.name d.params d.body d.scope pm cd doc)->s₁.heap.CodeRec cd d.name->mg d.name=some (.ref fa)->
   s₁.heap.get? a=some {cls:= .type "list",data:= .seq vs.toArray}->IntsAre vs ns->ns.length<=n->s₁.gens=#[]->
   codeAny (model l.prog w) callerA (.call (.ref fa) ⟨[.ref a],[]⟩) (λr s'=>r= .ok (.ret (.bool true))/\OldK s₁.heap s'.heap/\s'.os=s₁.os/\AllBare s'.gens) s₁):
  WalkO q loose XP YP l.row.toRowW d [] (λf vs=>PySem.call f vs):=by
 intro w s₀ s₁ mg mb G Y fa o pm cd doc dV kV ho hd rN hD hmg hg args vals as qV hlay hrd DS hlo;obtain rfl:dV= .none:=Dflts.none hD Bn;obtain rfl:kV= .none:=Dflts.noKw hD;obtain⟨a,vs,ns,rfl,rfl,yO,hints,hlen⟩:=qC hn qV DS;refine enter_call (codeAny_mono (call w s₀ s₁ mg mb fa o pm cd doc a vs ns G Y ho (fd_plain hd) rN hmg yO hints hlen hg) λr s' hq=>?_);obtain⟨rfl,h2,h3,h4⟩:=hq;exact⟨.inl ⟨.bool true,.bool true,[],rfl,λ_=>rfl,.bool true,rA l _,λ_=>⟨List.Pairwise.nil,λ_ hm=>(nomatch hm)⟩⟩,h2,h3,h4⟩
end Att
namespace L2
open PySem PySem.Spec PyProof.Rows
theorem jG:∀{vs:List Value} {ns:List Int},IntsAre vs ns->au (ns.map V.int) vs
 | _,_,.nil=> .nil
 | _,_,.cons n t h=> .cons ⟨t,rfl⟩ (jG h)
noncomputable def Ag (H:Hp):Prop:=∀b,H b=none\/∃o xs,H b=some (.qh o (.lst xs))
theorem uu {P:Program} {w:World} {K:PySem.W.Frag} {mg mb:Str->Option Value} {CX:ib} {k:Nat} {fa a:Addr} {fd:FuncData} {x:Str} {sp:Sp} {s₁:Shared} {vs:List Value} {ns:List Int}
  (KX:K.In s₁.heap) (AM:s₁.heap.Ns mainGlobals mg) (hb:s₁.heap.Ns builtinsNs mb) (HN:∀x:Str,x≠"__name__"->mb x=bootBuiltins x) (jo:s₁.heap.NoLimit) (hg:s₁.gens=#[])
  (ha:s₁.heap.get? a=some {cls:= .type "list",data:= .seq vs.toArray}) (hi:IntsAre vs ns) (hl:ns.length<=sizeLine) (hr:fK k callerA)
  (F:∀base:Heap,K.In base->base.Ns mainGlobals mg->gw P w K mg base CX k fa fd [x] sp) (C0:∀(s:Shared) (u:Value),BindsTo s fd ⟨[u],[]⟩ [(x,u)])
  (AZ:∀H:Hp,Ag H->cW K H a (ns.map V.int)->sp [.ref a] H (λv _=>v= .bl true) λ_ _ _=>False)
  (En:∀H e s',CX [] H s₁ (λ_ _ _=>False) e s'->False):
  codeAny (model P w) callerA (.call (.ref fa) ⟨[.ref a],[]⟩) (λr s'=>r= .ok (.ret (.bool true))/\OldK s₁.heap s'.heap/\s'.os=s₁.os/\AllBare s'.gens) s₁:=by
 have rv:=jG hi;have F4:=hi.length;have core:∀H:Hp,Ag H->cW K H a (ns.map V.int)->dm P w H s₁.heap->(∀b,H b≠none->b=a)->(H a≠none->K.lookup a=none)->
   codeAny (model P w) callerA (.call (.ref fa) ⟨[.ref a],[]⟩) (λr s'=>r= .ok (.ret (.bool true))/\OldK s₁.heap s'.heap/\s'.os=s₁.os/\AllBare s'.gens) s₁:=by
  intro H hO hS hok hA hK;have pK:∀{b:Addr} {o:Obj},s₁.heap.get? b=some o->H b=none->(lq s₁.heap H).get? b=some o:=λe n=>uI e n
  have BD:∀{b:Addr} {o:Obj} {es:Array DictEntry} {ep:Nat},s₁.heap.get? b=some o->o.data= .dict es ep->H b=none:=λ {b o es ep} e d=>by
   cases q:H b with
   | none=>rfl
   | some u=>have e':b=a:=hA b (by rw[q];simp);subst e';rw[ha] at e;cases e;have d':Data.seq vs.toArray _=Data.dict es ep:=d;cases d'
  have DW:∀{b:Addr} {m:Str->Option Value},s₁.heap.Ns b m->(lq s₁.heap H).Ns b m:=λ {b m} ⟨o,es,ep,e,d,r⟩=>⟨o,es,ep,pK e (BD e d),d,r⟩
  have GP:K.In (lq s₁.heap H):=λb o e=>pK (KX b o e) (by
   cases q:H b with
   | none=>rfl
   | some u=>
    have e':b=a:=hA b (by rw[q];simp);subst e';rw[hK (by rw[q];simp)] at e;cases e)
  have hM:Mod K mg (lq s₁.heap H):=⟨GP,DW AM,⟨mb,DW hb,HN⟩,let ⟨mc,h1,h2⟩:=jo;⟨mc,DW h1,h2⟩⟩;have e0:vO P w K mg (lq s₁.heap H) callerA [] s₁ H:=⟨rfl,hM,λb o e=>xm e,Nat.le_of_eq (rh _ _),trivial,λb hb=>absurd (show b∈([]:List Addr) from hb) (by simp),hok,.of_eq hg⟩;refine codeAny_mono ((F _ GP (DW AM)).run callerA [] s₁ H ⟨[.ref a],[]⟩ [.ref a] [.ref a] _ _ hr e0 (C0 s₁ (.ref a)) (.cons rfl .nil) (AZ H hO hS)) λr s' h=>?_
  cases r with
  | error e=>exact(En H e s' h).elim
  | ok fl=>
   cases fl with
   | next=>exact False.elim h
   | brk=>exact False.elim h
   | cont=>exact False.elim h
   | ret u=>
    obtain⟨v,H',os,bare,un,xi,r',q⟩:=h;have q':v= .bl true:=q;subst q';obtain rfl:u=Value.bool true:=r';refine⟨rfl,OldK.of_keep λb o e=>?_,os,bare⟩;cases q:H b with
    | none=>exact un.keep b o e q (by intro z;exact absurd (show b∈([]:List Addr) from z) (by simp)) (by simp)
    | some u=>
     rcases hO b with z | ⟨ob,xs,z⟩
     ·rw[q] at z;cases z
     ·have z2:=un.frzs b ob _ z;obtain⟨e1,_⟩:=hok b _ z;obtain⟨e2,_⟩:=xi b _ z2;rw[e] at e1;cases e1;exact e2
 cases hk:K.lookup a with
 | some o=>have e:=KX a o hk;rw[ha] at e;cases e;refine core (λ_=>none) (λ_=> .inl rfl) (.inr ⟨_,vs.toArray,_,hk,rfl,rfl,rfl,by rw[JA,F4];exact hl,by simpa using rv⟩) (λb u z=>by have z':(none:Option HO)=some u:=z;cases z') (λb z=>absurd rfl z) λz=>absurd rfl z
 | none=>
  refine core (λb=>if b=a then some (.qh {cls:= .type "list",data:= .seq vs.toArray} (.lst (ns.map V.int))) else none) (λb=>?_) (.inl (.inr ⟨{cls:= .type "list",data:= .seq vs.toArray},if_pos rfl⟩)) (λb u z=>?_) (λb z=>?_) λ_=>hk
  ·by_cases hb:b=a
   ·exact .inr ⟨_,_,if_pos hb⟩
   ·exact .inl (if_neg hb)
  ·by_cases hb:b=a
   ·have z':=(if_pos hb).symm.trans z;cases z';subst hb;exact⟨ha,by rw[JH];exact hl,vs,_,rv,ha⟩
   ·have z':=(if_neg hb).symm.trans z;cases z'
  ·by_cases hb:b=a
   ·exact hb
   ·exact absurd (if_neg hb) z
end L2
namespace L2
open PySem PySem.Spec PyProof.Rows
theorem vZ {l:PySem.W.OpenLaw} {n k:Nat} {q:Program} {loose:List Str} {XP:(Str->Option Value)->Heap->Prop} {YP:World->Heap->Prop} {d:DefRec} {K:Params->PySem.W.Frag} {CX:World->ib} {sp:World->Sp} {x:Str}
  (hn:l.most=some n) (zQ:n<=sizeLine) (Bn:d.params.defaults=[]) (hr:fK k callerA)
  (hY:∀(w:World) (h:Heap),YP w h->(K w.params).In h)
  (F:∀(w:World) (mg:Str->Option Value) (fa:Addr) (h:Heap),(K w.params).In h->h.Ns mainGlobals mg->mg d.name=some (.ref fa)->
   ∃fd:FuncData,(∀(s:Shared) (u:Value),BindsTo s fd ⟨[u],[]⟩ [(x,u)])/\
    ∀base:Heap,(K w.params).In base->base.Ns mainGlobals mg->gw l.prog w (K w.params) mg base (CX w) k fa fd [x] (sp w))
  (AZ:∀(w:World) (H:Hp) (a:Addr) (ns:List Int),ns.length<=n->Ag H->cW (K w.params) H a (ns.map V.int)->sp w [.ref a] H (λv _=>v= .bl true) λ_ _ _=>False)
  (En:∀(w:World) (H:Hp) (s:Shared) (e:Value) (s':Shared),CX w [] H s (λ_ _ _=>False) e s'->False):
  PySem.W.WalkO q loose XP YP l.row.toRowW d [] (λf vs=>PySem.call f vs):=by
 refine Att.my hn Bn λw s₀ s₁ mg mb fa o pm cd doc a vs ns G Y ho hd rN hmg yO hints hlen hg=>?_
 have KX:=hY w _ Y;obtain⟨fd,hb,hF⟩:=F w mg fa _ KX G.T.g hmg;exact uu KX G.T.g G.T.b G.T.builtins G.T.nolimit hg yO hints (JJ hlen zQ) hr hF hb (λH hO hS=>AZ w H a ns hlen hO hS) λH e s'=>En w H s₁ e s'
end L2
namespace L2
open PySem PySem.Spec PyProof.Rows
noncomputable def kZ (s:Stmt):Arguments:=match s with
 | .FunctionDef _ a _ _ _ _ _ _ _ _=>a
 | _=>{posonlyargs:=[],args:=[],vararg:=none,kwonlyargs:=[],kw_defaults:=[],kwarg:=none,defaults:=[]}
noncomputable def ft (s:Stmt):List Stmt:=match s with
 | .FunctionDef _ _ b _ _ _ _ _ _ _=>b
 | _=>[]
noncomputable def a8 (s:Stmt):Scope:=match s with
 | .FunctionDef _ _ _ _ _ _ sc _ _ _=>sc
 | _=>{kind:= .function,names:=[],isGenerator:=false,isCoroutine:=false}
theorem C3 {A B:Prop} (h:B):if false=true then A else B:=by rw[if_neg Bool.false_ne_true];exact h
theorem Cq {A B:Prop} (h:A):if true=true then A else B:=by rw[if_pos rfl];exact h
noncomputable def bw (H H':Hp):Prop:=∀b o,H b=some o->H' b=some o
theorem bw.refl (H:Hp):bw H H:=λ_ _ h=>h
theorem bw.trans {H H1 H2:Hp} (a:bw H H1) (b:bw H1 H2):bw H H2:=λc o h=>b c o (a c o h)
end L2
end
section
namespace Mx
open PySem PyProof.Rows
inductive D where
 | int (i:Int)
 | str (x:Str)
 | tup (ds:List D)
mutual
noncomputable def D.eL:D->D->Bool
 | .int i,.int j=>i==j
 | .str x,.str y=>x==y
 | .tup a,.tup b=>D.eqs a b
 | _,_=>false
noncomputable def D.eqs:List D->List D->Bool
 | [],[]=>true
 | x::xs,y::ys=>D.eL x y&&D.eqs xs ys
 | _,_=>false
end
mutual
noncomputable def D.lt:D->D->Bool
 | .int i,.int j=>decide (i < j)
 | .int _,_=>true
 | .str _,.int _=>false
 | .str x,.str y=>decide (x.cps.toList < y.cps.toList)
 | .str _,.tup _=>true
 | .tup a,.tup b=>D.dQ a b
 | .tup _,_=>false
noncomputable def D.dQ:List D->List D->Bool
 | [],[]=>false
 | [],_::_=>true
 | _::_,[]=>false
 | x::xs,y::ys=>if D.eL x y=true then D.dQ xs ys else D.lt x y
end
mutual
theorem D.cq:∀a b:D,D.eL a b=true↔a=b
 | .int i,.int j=>by simp[D.eL]
 | .str x,.str y=>by simp[D.eL]
 | .tup a,.tup b=>by simp only[D.eL,D.tup.injEq];exact D.k8 a b
 | .int _,.str _=>by simp[D.eL]
 | .int _,.tup _=>by simp[D.eL]
 | .str _,.int _=>by simp[D.eL]
 | .str _,.tup _=>by simp[D.eL]
 | .tup _,.int _=>by simp[D.eL]
 | .tup _,.str _=>by simp[D.eL]
theorem D.k8:∀a b:List D,D.eqs a b=true↔a=b
 | [],[]=>by simp[D.eqs]
 | [],_::_=>by simp[D.eqs]
 | _::_,[]=>by simp[D.eqs]
 | x::xs,y::ys=>by simp only[D.eqs,Jz,List.cons.injEq];rw[D.cq x y,D.k8 xs ys]
end
noncomputable instance:DecidableEq D:=λa b=>if h:D.eL a b=true then isTrue ((D.cq a b).mp h) else isFalse λe=>h ((D.cq a b).mpr e)
theorem D.kO (a b:D):D.eL a b=decide (a=b):=by rw[Bool.eq_iff_iff,D.cq];simp
theorem D.cF (x y:D) (xs ys:List D):D.dQ (x::xs) (y::ys)=if x=y then D.dQ xs ys else D.lt x y:=by grind [D.dQ,D.cq,D]
mutual
theorem D.lt_irrefl:∀a:D,D.lt a a=false
 | .int i=>by simp[D.lt]
 | .str x=>by simp only[D.lt];exact strKind.irrefl _
 | .tup a=>by simp only[D.lt];exact D.jj a
theorem D.jj:∀a:List D,D.dQ a a=false
 | []=>by simp[D.dQ]
 | x::xs=>by rw[D.cF,if_pos rfl];exact D.jj xs
end
mutual
theorem D.cY:∀a b:D,D.lt a b=false->D.lt b a=false->a=b
 | .int i,.int j,h1,h2=>by simp only[D.lt,decide_eq_false_iff_not] at h1 h2;congr 1;lia
 | .str x,.str y,h1,h2=>by simp only[D.lt] at h1 h2;have:=strKind.total _ _ h1 h2;congr 1;cases x;cases y;simp only at this;congr 1;exact Array.toList_inj.mp this
 | .tup a,.tup b,h1,h2=>by simp only[D.lt] at h1 h2;rw[D.jF a b h1 h2]
 | .int _,.str _,h1,_=>by simp[D.lt] at h1
 | .int _,.tup _,h1,_=>by simp[D.lt] at h1
 | .str _,.int _,_,h2=>by simp[D.lt] at h2
 | .str _,.tup _,h1,_=>by simp[D.lt] at h1
 | .tup _,.int _,_,h2=>by simp[D.lt] at h2
 | .tup _,.str _,_,h2=>by simp[D.lt] at h2
theorem D.jF:∀a b:List D,D.dQ a b=false->D.dQ b a=false->a=b
 | [],[],_,_=>rfl
 | [],_::_,h1,_=>by simp[D.dQ] at h1
 | _::_,[],_,h2=>by simp[D.dQ] at h2
 | x::xs,y::ys,h1,h2=>by
  rw[D.cF] at h1 h2;by_cases h:x=y
  ·subst h;rw[if_pos rfl] at h1 h2;rw[D.jF xs ys h1 h2]
  ·rw[if_neg h] at h1;rw[if_neg (Ne.symm h)] at h2;exact absurd (D.cY x y h1 h2) h
end
mutual
theorem D.lt_trans:∀a b c:D,D.lt a b=true->D.lt b c=true->D.lt a c=true
 | .int i,.int j,.int k,h1,h2=>by simp only[D.lt,decide_eq_true_eq] at *;lia
 | .int _,_,.str _,_,_=>by simp[D.lt]
 | .int _,_,.tup _,_,_=>by simp[D.lt]
 | .int _,.str _,.int _,_,h2=>by simp[D.lt] at h2
 | .int _,.tup _,.int _,_,h2=>by simp[D.lt] at h2
 | .str _,.int _,_,h1,_=>by simp[D.lt] at h1
 | .str x,.str y,.str z,h1,h2=>by simp only[D.lt] at *;exact strKind.trans _ _ _ h1 h2
 | .str _,.str _,.int _,_,h2=>by simp[D.lt] at h2
 | .str _,_,.tup _,_,_=>by simp[D.lt]
 | .str _,.tup _,.int _,_,h2=>by simp[D.lt] at h2
 | .str _,.tup _,.str _,_,h2=>by simp[D.lt] at h2
 | .tup _,.int _,_,h1,_=>by simp[D.lt] at h1
 | .tup _,.str _,_,h1,_=>by simp[D.lt] at h1
 | .tup _,.tup _,.int _,_,h2=>by simp[D.lt] at h2
 | .tup _,.tup _,.str _,_,h2=>by simp[D.lt] at h2
 | .tup a,.tup b,.tup c,h1,h2=>by simp only[D.lt] at *;exact D.jA a b c h1 h2
theorem D.jA:∀a b c:List D,D.dQ a b=true->D.dQ b c=true->D.dQ a c=true
 | [],[],_,h1,_=>by simp[D.dQ] at h1
 | [],_::_,[],_,h2=>by simp[D.dQ] at h2
 | [],_::_,_::_,_,_=>by simp[D.dQ]
 | _::_,[],_,h1,_=>by simp[D.dQ] at h1
 | _::_,_::_,[],_,h2=>by simp[D.dQ] at h2
 | x::xs,y::ys,z::zs,h1,h2=>by
  rw[D.cF] at h1 h2 ⊢;by_cases h:x=y
  ·subst h;rw[if_pos rfl] at h1;by_cases h':x=z
   ·rw[if_pos h'] at h2 ⊢;exact D.jA xs ys zs h1 h2
   ·rw[if_neg h'] at h2 ⊢;exact h2
  ·rw[if_neg h] at h1;by_cases h':y=z
   ·subst h';rw[if_neg h];exact h1
   ·rw[if_neg h'] at h2;have h3:=D.lt_trans x y z h1 h2;by_cases h'':x=z
    ·subst h'';rw[D.lt_irrefl] at h3;cases h3
    ·rw[if_neg h''];exact h3
end
@[reducible] noncomputable def BX:KeyOrd where
 α:=D
 blt:=D.lt
 irrefl:=D.lt_irrefl
 trans:=D.lt_trans
 negTrans:=λa b c h=>by
  cases h1:D.lt a b with
  | true=>exact .inl rfl
  | false=>
   right;cases h2:D.lt b a with
   | true=>exact D.lt_trans b a c h2 h
   | false=>rw[D.cY a b h1 h2] at h;exact h
 total:=D.cY
end Mx
end
section
namespace MxSort
open PySem PySem.W PyProof.Rows
section
variable {O:KeyOrd} {key:Nat->O.α}
noncomputable def bU (key:Nat->O.α) (p:Array Nat) (i:Nat):O.α:=key (p.getD i 0)
noncomputable def Up (key:Nat->O.α) (p:Array Nat) (n:Nat):Prop:=∀i j,i<=j->j < n->O.kle (bU key p i) (bU key p j)
noncomputable def Dn (key:Nat->O.α) (p:Array Nat) (n:Nat):Prop:=∀i j,i<=j->j < n->O.kle (bU key p j) (bU key p i)
theorem fy {p q:Array Nat} {i j:Nat} (h:p[i]?=q[j]?):p.getD i 0=q.getD j 0:=by simp_all
theorem qf {p:Array Nat} {i j:Nat} (hj:j<=p.size) (k:Nat):bU key (kas_rev p i j) k=if i<=k/\k < j then bU key p (i + j - 1 - k) else bU key p k:=by
 have e:=getElem?_mirror_all (i:=i) hj k;unfold kas_rev bU;by_cases h1:i<=k/\k < j
 ·rw[if_pos h1] at e ⊢;exact congrArg key (fy e)
 ·rw[if_neg h1] at e ⊢;exact congrArg key (fy e)
theorem pI {p:Array Nat} {src d:Nat} (hs:src < p.size) (hd:d<=src) (k:Nat):
  bU key (bubble p src d) k=if k=src - d then bU key p src else if src - d < k/\k<=src then bU key p (k - 1) else bU key p k:=by
 have e:=getElem?_bubble hs d hd k;unfold bU;by_cases h1:k=src - d
 ·rw[if_pos h1] at e ⊢;exact congrArg key (fy e)
 ·rw[if_neg h1] at e ⊢;by_cases h2:src - d < k/\k<=src
  ·rw[if_pos h2] at e ⊢;exact congrArg key (fy e)
  ·rw[if_neg h2] at e ⊢;exact congrArg key (fy e)
noncomputable def Ord (N:Nat) (p:Array Nat):Prop:=p.toList.Perm (List.range N)
theorem Ord.size {N:Nat} {p:Array Nat} (h:Ord N p):p.size=N:=by have:=h.length_eq;rw[List.length_range] at this;rw[<-this];simp
theorem Ord.lt {N:Nat} {p:Array Nat} (h:Ord N p) (i:Nat) (h0:0 < N):p.getD i 0 < N:=by
 by_cases hi:i < p.size
 ·have e:p.getD i 0=p[i]:=by simp[Array.getD,hi]
  rw[e];have:=h.mem_iff.mp (show p[i]∈p.toList by simp);exact Kk.mp this
 ·have e:p.getD i 0=0:=by simp[Array.getD,hi]
  rw[e];exact h0
theorem Ord.perm {N:Nat} {p q:Array Nat} (h:Ord N p) (e:q.Perm p):Ord N q:=(Array.perm_iff_toList_perm.mp e).trans h
theorem Ord.rev {N:Nat} {p:Array Nat} (h:Ord N p) (i j:Nat):Ord N (kas_rev p i j):=h.perm (mirror_perm _ _ _ _)
theorem Ord.IQ {N:Nat} {p:Array Nat} (h:Ord N p) (i j:Nat):Ord N (bubble p i j):=h.perm (bubble_perm _ _ _)
variable {cmp:Nat->Nat->(Bool->Shared->Prop)->Shared->Prop} {s:Shared} {N:Nat}
noncomputable def Tells (O:KeyOrd) (key:Nat->O.α) (cmp:Nat->Nat->(Bool->Shared->Prop)->Shared->Prop) (N:Nat) (s:Shared):Prop:=
 ∀i j,i < N->j < N->∀C:Bool->Shared->Prop,C (O.blt (key i) (key j)) s->cmp i j C s
theorem Tells.at (T:Tells O key cmp N s) {p:Array Nat} (hp:Ord N p) (h0:0 < N) (i j:Nat) {C:Bool->Shared->Prop} (h:C (O.blt (bU key p i) (bU key p j)) s):cmp (p.getD i 0) (p.getD j 0) C s:=
 T _ _ (hp.lt i h0) (hp.lt j h0) C h
theorem Up.succ {p:Array Nat} {n:Nat} (h:Up key p n) (h1:1<=n) (h2:O.kle (bU key p (n - 1)) (bU key p n)):Up key p (n + 1):=λi j wO hj=>by
 by_cases e:j=n
 ·subst e;by_cases e2:i=j
  ·subst e2;exact KeyOrd.kle_refl _
  ·exact JZ (h i (j - 1) (by lia) (by lia)) h2
 ·exact h i j wO (by lia)
theorem Dn.succ {p:Array Nat} {n:Nat} (h:Dn key p n) (h1:1<=n) (h2:O.kle (bU key p n) (bU key p (n - 1))):Dn key p (n + 1):=λi j wO hj=>by
 by_cases e:j=n
 ·subst e;by_cases e2:i=j
  ·subst e2;exact KeyOrd.kle_refl _
  ·exact JZ h2 (h i (j - 1) (by lia) (by lia))
 ·exact h i j wO (by lia)
theorem nT (T:Tells O key cmp N s) {p:Array Nat} (hp:Ord N p) {Q:Nat->Shared->Prop}:∀(f n:Nat),1<=n->n + f<=N->Up key p n->
  (∀m,n<=m->m<=n + f->Up key p m->(m < n + f->O.blt (bU key p m) (bU key p (m - 1))=true)->Q m s)->(kas_asc p f n).kasWp cmp Q s
 | 0,n,h1,hn,hu,h=>h n (JE _) (JE _) hu (λz=>absurd z (by lia))
 | f + 1,n,h1,hn,hu,h=>by
  refine T.at hp (by lia) n (n - 1) ?_;cases hb:O.blt (bU key p n) (bU key p (n - 1)) with
  | true=>show (if true=true then KasT.ret n else kas_asc p f (n + 1)).kasWp cmp Q s;rw[if_pos rfl];exact h n (JE _) (by lia) hu λ_=>hb
  | false=>show (if false=true then KasT.ret n else kas_asc p f (n + 1)).kasWp cmp Q s;rw[if_neg (by simp)];exact nT T hp f (n + 1) (by lia) (by lia) (hu.succ h1 hb) λm a b c d=>h m (by lia) (by lia) c λz=>d (by lia)
theorem gj {p:Array Nat} {a n:Nat} (hn:n<=p.size) (he:∀k,a<=k->k < n->bU key p k=bU key p (n - 1)) (k:Nat):bU key (kas_rev p a n) k=bU key p k:=by
 rw[qf hn];split
 ·rename_i h;rw[he (a + n - 1 - k) (by lia) (by lia),he k h.1 h.2]
 ·rfl
theorem Dn.of {p q:Array Nat} {n:Nat} (e:∀k,bU key q k=bU key p k) (h:Dn key p n):Dn key q n:=λi j a b=>by rw[e,e];exact h i j a b
theorem ir (T:Tells O key cmp N s) {Q:Array Nat×Nat×Nat->Shared->Prop}:∀(f:Nat) (p:Array Nat) (n q:Nat),Ord N p->1<=n->q + 1<=n->n + f<=N->Dn key p n->(∀k,n - (q + 1)<=k->k < n->bU key p k=bU key p (n - 1))->
  (∀(p':Array Nat) (m q':Nat),Ord N p'->1<=m->q' + 1<=m->m<=n + f->Dn key p' m->(∀k,m - (q' + 1)<=k->k < m->bU key p' k=bU key p' (m - 1))->Q (p',m,q') s)->(kas_desc f p n q).kasWp cmp Q s
 | 0,p,n,q,hp,h1,hq,hn,hd,he,h=>h p n q hp h1 hq (JE _) hd he
 | f + 1,p,n,q,hp,h1,hq,hn,hd,he,h=>by
  have hz:=hp.size;refine T.at hp (by lia) n (n - 1) ?_;cases hb:O.blt (bU key p n) (bU key p (n - 1)) with
  | true=>
   show (if true=true then(if q > 0 then kas_desc f (kas_rev p (n - (q + 1)) n) (n + 1) 0 else kas_desc f p (n + 1) 0) else _).kasWp cmp Q s;rw[if_pos rfl];have nW:Dn key p (n + 1):=hd.succ h1 (KeyOrd.kle_of_klt hb);by_cases hq0:q > 0
   ·rw[if_pos hq0];have e:=gj (key:=key) (p:=p) (a:=n - (q + 1)) (n:=n) (by lia) he;exact ir T f _ (n + 1) 0 (hp.rev _ _) (by lia) (by lia) (by lia) (Dn.of e nW) (λk a b=>by rw[show k=n + 1 - 1 by lia]) λp' m q' a b c d=>h p' m q' a b c (by lia)
   ·rw[if_neg hq0];exact ir T f _ (n + 1) 0 hp (by lia) (by lia) (by lia) nW (λk a b=>by rw[show k=n + 1 - 1 by lia]) λp' m q' a b c d=>h p' m q' a b c (by lia)
  | false=>
   show (if false=true then _ else KasT.ask (p.getD (n - 1) 0) (p.getD n 0) λd=>if d=true then .ret (p,n,q) else kas_desc f p (n + 1) (q + 1)).kasWp cmp Q s;rw[if_neg (by simp)];refine T.at hp (by lia) (n - 1) n ?_;cases hc:O.blt (bU key p (n - 1)) (bU key p n) with
   | true=>show (if true=true then KasT.ret (p,n,q) else _).kasWp cmp Q s;rw[if_pos rfl];exact h p n q hp h1 hq (by lia) hd he
   | false=>
    show (if false=true then KasT.ret (p,n,q) else kas_desc f p (n + 1) (q + 1)).kasWp cmp Q s;rw[if_neg (by simp)];have heq:bU key p n=bU key p (n - 1):=O.total _ _ hb hc;refine ir T f p (n + 1) (q + 1) hp (by lia) (by lia) (by lia) (hd.succ h1 (by rw[heq];exact KeyOrd.kle_refl _)) (λk a b=>?_) λp' m q' a b c d=>h p' m q' a b c (by lia)
    by_cases e:k=n
    ·rw[show n + 1 - 1=n by lia,e]
    ·rw[he k (by lia) (by lia),show n + 1 - 1=n by lia,heq]
noncomputable def Et (key:Nat->O.α) (N:Nat) (r:Nat×Array Nat):Prop:=Ord N r.2/\1<=r.1/\r.1<=N/\Up key r.2 r.1
theorem AD {p:Array Nat} {n:Nat} (hn:n<=p.size) (h:Dn key p n):Up key (kas_rev p 0 n) n:=by grind [qf,Dn,Up]
theorem mO (T:Tells O key cmp N s) {p:Array Nat} {n:Nat} {Q:Nat×Array Nat->Shared->Prop} (hp:Ord N p) (h1:1<=n) (hn:n<=N) (hd:Dn key p n) (h:∀r,Et key N r->Q r s):(kas_tail3 n N p).kasWp cmp Q s:=by
 unfold kas_tail3;rw[KasT.kasWp_bind];refine nT T (hp.rev 0 n) (N - n) n h1 (by lia) (AD (by rw[hp.size];exact hn) hd) λm a b c _=>?_
 exact h (m,kas_rev p 0 n) ⟨hp.rev 0 n,(show 1<=m by lia),(show m<=N by lia),c⟩
theorem gB (T:Tells O key cmp N s) {p:Array Nat} {n:Nat} {Q:Nat×Array Nat->Shared->Prop} (hp:Ord N p) (h1:1<=n) (hn:n + 1<=N) (hd:Dn key p (n + 1)) (h:∀r,Et key N r->Q r s):(kas_descPart n N p).kasWp cmp Q s:=by
 unfold kas_descPart;rw[KasT.kasWp_bind];refine ir T (N - (n + 1)) p (n + 1) 0 hp (by lia) (by lia) (by lia) hd (λk a b=>by rw[show k=n + 1 - 1 by lia]) λp' m q' a b c d e g=>?_
 show (if q' > 0 then kas_tail3 m N (kas_rev p' (m - (q' + 1)) m) else kas_tail3 m N p').kasWp cmp Q s;by_cases hq:q' > 0
 ·rw[if_pos hq];exact mO T (a.rev _ _) b (by lia) (Dn.of (gj (by rw[a.size];lia) g) e) h
 ·rw[if_neg hq];exact mO T a b (by lia) e h
theorem uF (T:Tells O key cmp N s) {p:Array Nat} {Q:Nat×Array Nat->Shared->Prop} (hp:Ord N p) (h1:1<=N) (h:∀r,Et key N r->Q r s):(kas_count N p).kasWp cmp Q s:=by
 unfold kas_count;rw[KasT.kasWp_bind];refine nT T hp (N - 1) 1 (JE _) (by lia) (λi j a b=>by rw[show i=j by lia];exact KeyOrd.kle_refl _) λn a b c d=>?_
 by_cases e:n=N
 ·subst e;show (if (n==n)=true then KasT.ret (n,p) else _).kasWp cmp Q s;rw[if_pos (by simp)];exact h (n,p) ⟨hp,a,JE _,c⟩
 ·show (if (n==N)=true then KasT.ret (n,p) else if n > 1 then .ask (p.getD 0 0) (p.getD (n - 1) 0) λc=>if c=true then .ret (n,p) else kas_descPart n N (kas_rev p 0 n) else kas_descPart n N p).kasWp cmp Q s;rw[if_neg (by simpa using e)];have cO:=d (by lia);by_cases hn:n > 1
  ·rw[if_pos hn];refine T.at hp (by lia) 0 (n - 1) ?_;cases hb:O.blt (bU key p 0) (bU key p (n - 1)) with
   | true=>show (if true=true then KasT.ret (n,p) else _).kasWp cmp Q s;rw[if_pos rfl];exact h (n,p) ⟨hp,a,(show n<=N by lia),c⟩
   | false=>
    show (if false=true then KasT.ret (n,p) else kas_descPart n N (kas_rev p 0 n)).kasWp cmp Q s;rw[if_neg (by simp)];have hz:=hp.size;have all:∀k,0<=k->k < n->bU key p k=bU key p (n - 1):=λk _ hk=>by refine KeyOrd.kle_antisymm (c k (n - 1) (by lia) (by lia)) (JZ (show O.kle (bU key p (n - 1)) (bU key p 0) from hb) (c 0 k (by lia) hk))
    have er:=gj (key:=key) (p:=p) (a:=0) (n:=n) (by lia) all;refine gB T (hp.rev 0 n) a (by lia) (Dn.of er (Dn.succ (λi j wO hj=>?_) a (KeyOrd.kle_of_klt cO))) h;rw[all i (by lia) (by lia),all j (by lia) hj];exact KeyOrd.kle_refl _
  ·rw[if_neg hn];have e1:n=1:=by lia
   subst e1;refine gB T hp a (by lia) (Dn.succ (λi j wO hj=>?_) a (KeyOrd.kle_of_klt cO)) h;rw[show i=j by lia];exact KeyOrd.kle_refl _
theorem iT (T:Tells O key cmp N s) {p:Array Nat} {k:Nat} {Q:Nat->Shared->Prop} (hp:Ord N p) (hk:k < N) (hu:Up key p k):∀(f l r:Nat),l<=r->r<=k->r - l<=f->(∀i,i < l->O.kle (bU key p i) (bU key p k))->(∀i,r<=i->i < k->O.klt (bU key p k) (bU key p i))->
  (∀l,l<=k->(∀i,i < l->O.kle (bU key p i) (bU key p k))->(∀i,l<=i->i < k->O.klt (bU key p k) (bU key p i))->Q l s)->(kas_place p k f l r).kasWp cmp Q s
 | 0,l,r,HA,Dy,hf,h1,h2,h=>by
  have e:l=r:=by lia
  subst e;exact h l Dy h1 h2
 | f + 1,l,r,HA,Dy,hf,h1,h2,h=>by
  show (if l>=r then KasT.ret l else .ask (p.getD k 0) (p.getD ((l + r) / 2) 0) λc=>if c=true then kas_place p k f l ((l + r) / 2) else kas_place p k f ((l + r) / 2 + 1) r).kasWp cmp Q s;by_cases lG:l>=r
  ·rw[if_pos lG];have e:l=r:=by lia
   subst e;exact h l Dy h1 h2
  ·rw[if_neg lG];refine T.at hp (by lia) k ((l + r) / 2) ?_;cases hb:O.blt (bU key p k) (bU key p ((l + r) / 2)) with
   | true=>show (if true=true then kas_place p k f l ((l + r) / 2) else _).kasWp cmp Q s;rw[if_pos rfl];exact iT T hp hk hu f l ((l + r) / 2) (by lia) (by lia) (by lia) h1 (λi a b=>KeyOrd.klt_of_klt_of_kle hb (hu _ _ a b)) h
   | false=>show (if false=true then kas_place p k f l ((l + r) / 2) else kas_place p k f ((l + r) / 2 + 1) r).kasWp cmp Q s;rw[if_neg (by simp)];exact iT T hp hk hu f ((l + r) / 2 + 1) r (by lia) Dy (by lia) (λi a=>JZ (hu i ((l + r) / 2) (by lia) (by lia)) hb) h2 h
theorem sO (T:Tells O key cmp N s) {Q:Array Nat->Shared->Prop}:∀(f:Nat) (p:Array Nat) (k:Nat),Ord N p->k + f=N->Up key p k->(∀p',Ord N p'->Up key p' N->Q p' s)->(kas_bin f p k).kasWp cmp Q s
 | 0,p,k,hp,hk,hu,h=>h p hp (by rw[<-hk];exact hu)
 | f + 1,p,k,hp,hk,hu,h=>by
  show ((kas_place p k k 0 k).bind λl=>kas_bin f (bubble p k (k - l)) (k + 1)).kasWp cmp Q s;rw[KasT.kasWp_bind];refine iT T hp (by lia) hu k 0 k (by lia) (JE _) (by lia) (λi a=>absurd a (by lia)) (λi a b=>absurd a (by lia)) λl hl lo hi=>?_
  refine sO T f _ (k + 1) (hp.IQ _ _) (by lia) (λi j wO hj=>?_) h;have hz:=hp.size;rw[pI (by lia) (by lia),pI (by lia) (by lia),show k - (k - l)=l by lia]
  repeat' split
  all_goals first
   | (exfalso;lia)
   | exact KeyOrd.kle_refl _
   | exact lo _ (by lia)
   | exact KeyOrd.kle_of_klt (hi _ (by lia) (by lia))
   | exact hu _ _ (by lia) (by lia)
theorem xn (T:Tells O key cmp N s) {Q:Array Nat->Shared->Prop} (h1:1<=N) (h:∀p',Ord N p'->Up key p' N->Q p' s):(kas_sort N).kasWp cmp Q s:=by
 unfold kas_sort;rw[KasT.kasWp_bind];refine uF T (show Ord N (List.toArray (List.range N)) from by unfold Ord;simp) h1 λr hr=>?_
 obtain⟨a,b,c,d⟩:=hr;by_cases cO:r.1 < N
 ·rw[if_pos cO];have e:max r.1 1=r.1:=by lia
  rw[e];exact sO T _ _ _ a (by lia) d h
 ·rw[if_neg cO];have e:r.1=N:=by lia
  exact h r.2 a (by rw[<-e];exact d)
end
end MxSort
end
section
namespace Mx
open PySem PySem.Spec PyProof.Rows L2 PySem.SeqAt
mutual
noncomputable def D.dep:D->Nat
 | .int _=>0
 | .str _=>0
 | .tup ds=>D.cj ds + 1
noncomputable def D.cj:List D->Nat
 | []=>0
 | d::ds=>max (D.dep d) (D.cj ds)
end
mutual
noncomputable def DV (H:Hp):V->D->Prop
 | x,.int i=>x= .int i
 | x,.str z=>x= .str z
 | x,.tup ds=>∃a xs,x= .ref a/\H a=some (.tup xs)/\aP H xs ds
noncomputable def aP (H:Hp):List V->List D->Prop
 | [],[]=>True
 | x::xs,d::ds=>DV H x d/\aP H xs ds
 | [],_::_=>False
 | _::_,[]=>False
end
theorem aP.nil {H:Hp}:aP H [] []:=by unfold aP;trivial
theorem aP.cons {H:Hp} {x:V} {xs:List V} {d:D} {ds:List D} (h:DV H x d) (t:aP H xs ds):aP H (x::xs) (d::ds):=by unfold aP;exact⟨h,t⟩
theorem DV.int {H:Hp} {i:Int}:DV H (.int i) (.int i):=by unfold DV;rfl
theorem DV.str {H:Hp} {x:Str}:DV H (.str x) (.str x):=by unfold DV;rfl
theorem DV.tup {H:Hp} {a:Addr} {xs:List V} {ds:List D} (h:H a=some (.tup xs)) (t:aP H xs ds):DV H (.ref a) (.tup ds):=by unfold DV;exact⟨a,xs,rfl,h,t⟩
theorem DV.ag {H:Hp} {x:V} {ds:List D} (h:DV H x (.tup ds)):∃a xs,x= .ref a/\H a=some (.tup xs)/\aP H xs ds:=by unfold DV at h;exact h
theorem DV.int_inv {H:Hp} {x:V} {i:Int} (h:DV H x (.int i)):x= .int i:=by unfold DV at h;exact h
theorem DV.str_inv {H:Hp} {x:V} {i:Str} (h:DV H x (.str i)):x= .str i:=by unfold DV at h;exact h
theorem aP.cons_inv {H:Hp} {xs:List V} {d:D} {ds:List D} (h:aP H xs (d::ds)):∃x r,xs=x::r/\DV H x d/\aP H r ds:=by
 cases xs with
 | nil=>unfold aP at h;exact h.elim
 | cons x r=>unfold aP at h;exact⟨x,r,rfl,h⟩
theorem aP.length {H:Hp}:∀{xs:List V} {ds:List D},aP H xs ds->xs.length=ds.length
 | [],[],_=>rfl
 | [],_::_,h=>by unfold aP at h;exact h.elim
 | _::_,[],h=>by unfold aP at h;exact h.elim
 | _::xs,_::ds,h=>by unfold aP at h;simp[aP.length h.2]
theorem aP.get {H:Hp}:∀{xs:List V} {ds:List D} {i:Nat} {x:V},aP H xs ds->xs[i]?=some x->∃d,ds[i]?=some d/\DV H x d
 | [],_,_,_,_,e=>by simp at e
 | _::_,[],_,_,h,_=>by unfold aP at h;exact h.elim
 | _::_,_::_,0,_,h,e=>by unfold aP at h;simp at e;subst e;exact⟨_,rfl,h.1⟩
 | _::xs,_::ds,i + 1,x,h,e=>by unfold aP at h;obtain⟨d,e1,e2⟩:=aP.get (i:=i) h.2 (by simpa using e);exact⟨d,by simpa using e1,e2⟩
theorem aP.append {H:Hp}:∀{xs ys:List V} {ds es:List D},aP H xs ds->aP H ys es->aP H (xs++ys) (ds++es)
 | [],_,[],_,_,h=>h
 | [],_,_::_,_,h,_=>by unfold aP at h;exact h.elim
 | _::_,_,[],_,h,_=>by unfold aP at h;exact h.elim
 | _::xs,ys,_::ds,es,h,h'=>by unfold aP at h;exact aP.cons h.1 (aP.append h.2 h')
noncomputable def vy (H H':Hp):Prop:=∀a xs,H a=some (.tup xs)->H' a=some (.tup xs)
mutual
theorem DV.mono {H H':Hp} (t:vy H H'):∀{x:V} {d:D},DV H x d->DV H' x d
 | x,.int i,h=>by unfold DV at h ⊢;exact h
 | x,.str z,h=>by unfold DV at h ⊢;exact h
 | x,.tup ds,h=>by obtain⟨a,xs,e,e1,e2⟩:=h.ag;subst e;exact DV.tup (t a xs e1) (aP.mono t e2)
theorem aP.mono {H H':Hp} (t:vy H H'):∀{xs:List V} {ds:List D},aP H xs ds->aP H' xs ds
 | [],[],_=>aP.nil
 | [],_::_,h=>by unfold aP at h;exact h.elim
 | _::_,[],h=>by unfold aP at h;exact h.elim
 | _::xs,_::ds,h=>by unfold aP at h;exact aP.cons (DV.mono t h.1) (aP.mono t h.2)
end
mutual
theorem DV.inj {H:Hp}:∀{x:V} {d e:D},DV H x d->DV H x e->d=e
 | x,.int i,e,h1,h2=>by
  have:=h1.int_inv;subst this;cases e with
  | int j=>have:=h2.int_inv;injection this with q;rw[q]
  | str j=>have:=h2.str_inv;cases this
  | tup j=>obtain⟨_,_,q,_⟩:=h2.ag;cases q
 | x,.str i,e,h1,h2=>by
  have:=h1.str_inv;subst this;cases e with
  | int j=>have:=h2.int_inv;cases this
  | str j=>have:=h2.str_inv;injection this with q;rw[q]
  | tup j=>obtain⟨_,_,q,_⟩:=h2.ag;cases q
 | x,.tup ds,e,h1,h2=>by
  obtain⟨a,xs,q,e1,e2⟩:=h1.ag;subst q;cases e with
  | int j=>have:=h2.int_inv;cases this
  | str j=>have:=h2.str_inv;cases this
  | tup j=>obtain⟨b,ys,q,f1,f2⟩:=h2.ag;cases q;rw[e1] at f1;cases f1;rw[aP.inj e2 f2]
theorem aP.inj {H:Hp}:∀{xs:List V} {ds es:List D},aP H xs ds->aP H xs es->ds=es
 | [],[],[],_,_=>rfl
 | [],[],_::_,_,h=>by unfold aP at h;exact h.elim
 | [],_::_,_,h,_=>by unfold aP at h;exact h.elim
 | _::_,[],_,h,_=>by unfold aP at h;exact h.elim
 | _::_,_::_,[],_,h=>by unfold aP at h;exact h.elim
 | _::xs,_::ds,_::es,h1,h2=>by unfold aP at h1 h2;rw[DV.inj h1.1 h2.1,aP.inj h1.2 h2.2]
end
noncomputable def DY (ds es:List D) (j:Nat):Bool:=match ds[j]?,es[j]? with
 | some d,some e=>D.eL d e
 | _,_=>true
theorem qt:∀ds es:List D,((List.range (min ds.length es.length)).all (DY ds es)&&ds.length==es.length)=D.eqs ds es
 | [],[]=>by simp[D.eqs]
 | [],_::_=>by simp[D.eqs]
 | _::_,[]=>by simp[D.eqs]
 | d::ds,e::es=>by
  have ih:=qt ds es;have hm:min (d::ds).length (e::es).length=min ds.length es.length + 1:=by simp only[JQ];lia
  have e1:((d::ds).length==(e::es).length)=(ds.length==es.length):=by rw[Bool.eq_iff_iff];simp
  rw[hm,List.range_succ_eq_map,List.all_cons,List.all_map,e1,D.eqs,<-ih,Bool.and_assoc];rfl
theorem lp {d:D}:∀{ds:List D} {j:Nat},ds[j]?=some d->D.dep d<=D.cj ds
 | [],_,h=>by simp at h
 | d'::ds,0,h=>by simp at h;subst h;unfold D.cj;lia
 | d'::ds,j + 1,h=>by have:=lp (ds:=ds) (j:=j) (by simpa using h);unfold D.cj;lia
section
variable {P:Program} {w:World} {H:Hp} {s:Shared}
theorem aq (hok:dm P w H s.heap) {a:Addr} {xs:List V} (h:H a=some (.tup xs)):∃its:List Value,au xs its/\s.heap.IsTuple a its.toArray:=by obtain⟨_,its,r,t⟩:=hok a _ h;exact⟨its,r,t⟩
theorem eq_data (hok:dm P w H s.heap):∀(n:Nat) (d e:D) (x y:V) (u v:Value) (A:Around),D.dep d<=n->A.units + n < cLine->DV H x d->DV H y e->RelV x u->RelV y v->EqAt A s u v (D.eL d e):=by
 intro n
 induction n with
 | zero=>
  intro d e x y u v A hd hu hx hy rx ry;cases d with
  | int i=>
   have:=hx.int_inv;subst this;obtain⟨t,rfl⟩:=rx;cases e with
   | int j=>have:=hy.int_inv;subst this;obtain⟨t',rfl⟩:=ry;exact EqAt.int_int i t j t'
   | str j=>have:=hy.str_inv;subst this;obtain⟨t',rfl⟩:=ry;exact EqAt.int_str i t j t'
   | tup j=>obtain⟨b,ys,q,f1,f2⟩:=hy.ag;subst q;cases ry;obtain⟨its,_,ht⟩:=aq hok f1;exact EqAt.int_tuple i t ht (by lia)
  | str i=>
   have:=hx.str_inv;subst this;obtain⟨t,rfl⟩:=rx;cases e with
   | int j=>have:=hy.int_inv;subst this;obtain⟨t',rfl⟩:=ry;exact EqAt.str_int i t j t'
   | str j=>have:=hy.str_inv;subst this;obtain⟨t',rfl⟩:=ry;exact EqAt.str_str i t j t'
   | tup j=>obtain⟨b,ys,q,f1,f2⟩:=hy.ag;subst q;cases ry;obtain⟨its,_,ht⟩:=aq hok f1;exact EqAt.str_tuple i t ht (by lia)
  | tup ds=>unfold D.dep at hd;lia
 | succ n ih=>
  intro d e x y u v A hd hu hx hy rx ry;cases d with
  | int i=>exact ih (.int i) e x y u v A (by unfold D.dep;lia) (by lia) hx hy rx ry
  | str i=>exact ih (.str i) e x y u v A (by unfold D.dep;lia) (by lia) hx hy rx ry
  | tup ds=>
   obtain⟨a,xs,q,e1,e2⟩:=hx.ag;subst q;cases rx;obtain⟨its,r1,ht⟩:=aq hok e1;cases e with
   | int j=>have:=hy.int_inv;subst this;obtain⟨t',rfl⟩:=ry;exact EqAt.tuple_int j t' ht (by lia)
   | str j=>have:=hy.str_inv;subst this;obtain⟨t',rfl⟩:=ry;exact EqAt.tuple_str j t' ht (by lia)
   | tup es=>
    obtain⟨b,ys,q,f1,f2⟩:=hy.ag;subst q;cases ry;obtain⟨aE,r2,bD⟩:=aq hok f1;by_cases gP:a=b
    ·subst gP;rw[e1] at f1;cases f1;have:=aP.inj e2 f2;subst this;have q:D.eL (.tup ds) (.tup ds)=true:=(D.cq _ _).mpr rfl;rw[q];exact EqAt.same _
    ·have l1:its.toArray.size=ds.length:=by rw[JA,<-r1.length,e2.length]
     have l2:aE.toArray.size=es.length:=by rw[JA,<-r2.length,f2.length]
     have key:=RcAt.tuples (A:=A) (e:=DY ds es) ht bD (by lia) (λj h1 h2=>?_)
     ·have q:=qt ds es;rw[<-l1,<-l2] at q;rw[q] at key;exact EqAt.of_refs gP key
     ·have jZ:j < xs.length:=by rw[e2.length,<-l1];exact h1
      have jC:j < ys.length:=by rw[f2.length,<-l2];exact h2
      obtain⟨d,g1,g2⟩:=e2.get (i:=j) (x:=xs[j]) (by simp[jZ]);obtain⟨e,k1,k2⟩:=f2.get (i:=j) (x:=ys[j]) (by simp[jC]);obtain⟨u,rQ,ru⟩:=r1.get (i:=j) (x:=xs[j]) (by simp[jZ]);obtain⟨v,yB,rv⟩:=r2.get (i:=j) (x:=ys[j]) (by simp[jC]);have eu:its.toArray[j]=u:=by have:its[j]?=some u:=rQ;simp only[List.getElem_toArray];have q:=JC.mp this;exact q.2
      have ev:aE.toArray[j]=v:=by have:aE[j]?=some v:=yB;simp only[List.getElem_toArray];have q:=JC.mp this;exact q.2
      rw[eu,ev];have ee:DY ds es j=D.eL d e:=by unfold DY;rw[g1,k1]
      rw[ee];refine ih d e xs[j] ys[j] u v A.in1 ?_ (by show A.units + 1 + n < cLine;lia) g2 k2 ru rv;have:=lp g1;unfold D.dep at hd
      lia
end
mutual
noncomputable def D.dP:D->D->Prop
 | .int _,.int _=>True
 | .str _,.str _=>True
 | .tup a,.tup b=>D.eO a b
 | _,_=>False
noncomputable def D.eO:List D->List D->Prop
 | x::xs,y::ys=>D.dP x y/\D.eO xs ys
 | _,_=>True
end
noncomputable def zI (A:Around) (s:Shared) (u v:Value) (b:Bool):Prop:=
 ∀(prog:Program) (w:World) (E:Value->Shared->Prop) (Q:Value->Shared->Prop),Q (.bool b) s->wpAny (model prog w) A (richCompare .Lt u v) Q E s
inductive Zp (A:Around) (s:Shared):List Value->List Value->List D->List D->Prop
 | nil {ws:List Value} {es:List D}:ws.length=es.length->Zp A s [] ws [] es
 | xo {vs:List Value} {ds:List D}:vs.length=ds.length->Zp A s vs [] ds []
 | cons {v w:Value} {d e:D} {vs ws:List Value} {ds es:List D}:EqAt A s v w (D.eL d e)->(d≠e->zI A s v w (D.lt d e))->Zp A s vs ws ds es->Zp A s (v::vs) (w::ws) (d::ds) (e::es)
section
open PySem.AutoSeq1 (wpAny_loadPart')
open PySem.MeetsSeq PySem.MeetsSeq2 PySem.MeetsSeq3
theorem jt (l b:Addr) (items dY:Array Value) (n n2:Nat) (dd vi:Option Addr) (sl rJ:Array (Option Value)) (ds es:List D) (z1:items.size=ds.length) (z2:dY.size=es.length):
  Meets (Builtin.«tuple.__lt__» ⟨[.ref l,.ref b],[]⟩)
   (λA R s=>s.heap.get? l=some {cls:= .type "tuple",dict:=dd,data:= .seq items n,slots:=sl}/\s.heap.get? b=some {cls:= .type "tuple",dict:=vi,data:= .seq dY n2,slots:=rJ}/\
    Zp A.in1 s items.toList dY.toList ds es/\R (.ok (.ret (.bool (D.dQ ds es)))) s):=
 .of_wp λprog w A R s h=>by
  obtain⟨hp,g,d,tk,os⟩:=s;obtain⟨hl,hb,Hi,h⟩:=h;have f2:=AutoSeq1.sub_tuple_tuple
  wp_walk using wpAny_loadPart' hl,wpAny_loadPart' hb,wpAny_forIn_list _ (λrest b s'=>b.1=none/\s'=⟨hp,g,d,tk,os⟩/\∃(vs ws:List Value) (rK dR:List D),rest=vs.zip ws/\
   Zp A.in1 ⟨hp,g,d,tk,os⟩ vs ws rK dR/\rK.length + dY.size=dR.length + items.size/\R (.ok (.ret (.bool (D.dQ rK dR)))) ⟨hp,g,d,tk,os⟩) _
  case turn=>
   rintro⟨y,x⟩ rest b s' ⟨rR,rfl,vs,ws,rK,dR,hz,Ex,hlen,hR⟩;cases Ex with
   | nil _=>rw[List.zip_nil_left] at hz;cases hz
   | xo _=>rw[List.zip_nil_right] at hz;cases hz
   | cons he hl BZ=>
    rename_i v wv d0 e0 rT ws' ds'' es'';rw[List.zip_cons_cons] at hz;injection hz with hyx CZ;injection hyx with hy hx;subst hy hx;rw[D.cF] at hR;simp only[JQ] at hlen;refine Jv (he prog w _ _ ?_);by_cases hde:d0=e0
    ·rw[if_pos hde] at hR;rw[(D.cq d0 e0).mpr hde]
     wp_walk
     exact⟨rfl,rfl,_,_,_,_,CZ,BZ,by lia,hR⟩
    ·rw[if_neg hde] at hR;have Hx:D.eL d0 e0=false:=by rw[D.kO];exact JX hde
     rw[Hx];have IR:=hl hde prog w
     wp_walk using IR
     exact⟨_,rfl,by simpa using hR⟩
  case fin=>
   rintro⟨b1,b2⟩ s' ⟨rR,rfl,vs,ws,rK,dR,hz,Ex,hlen,hR⟩;simp only at rR;subst rR;have hv:D.dQ rK dR=decide (items.size < dY.size):=by
    cases Ex with
    | nil _=>
     cases dR with
     | nil=>simp only[List.length_nil] at hlen;rw[D.dQ];exact(JX (by lia)).symm
     | cons c u=>simp only[List.length_nil,JQ] at hlen;rw[D.dQ];exact(J1 (by lia)).symm
    | xo _=>
     cases rK with
     | nil=>simp only[List.length_nil] at hlen;rw[D.dQ];exact(JX (by lia)).symm
     | cons c u=>simp only[List.length_nil,JQ] at hlen;rw[D.dQ];exact(JX (by lia)).symm
    | cons he hl BZ=>rw[List.zip_cons_cons] at hz;cases hz
   rw[hv] at hR
   wp_walk
   exact⟨_,rfl,by simpa [Builtin.Tuple.tupleCompareSizes] using hR⟩
  case h=>exact⟨rfl,rfl,items.toList,dY.toList,ds,es,rfl,Hi,by lia,h⟩
end
section
variable {P:Program} {w:World} {H:Hp} {s:Shared}
theorem tH (hok:dm P w H s.heap) {A:Around} {n:Nat} (hu:A.units + n < cLine) (ih:∀(d e:D) (x y:V) (u v:Value),D.dep d<=n->D.dP d e->DV H x d->DV H y e->RelV x u->RelV y v->zI A s u v (D.lt d e)):
  ∀{xs ys:List V} {us vs:List Value} {ds es:List D},D.cj ds<=n->D.eO ds es->aP H xs ds->aP H ys es->au xs us->au ys vs->Zp A s us vs ds es
 | [],ys,us,vs,[],es,_,_,_,h2,r1,r2=>by cases r1;exact .nil (by rw[<-r2.length,h2.length])
 | x::xs,[],us,vs,ds,[],_,_,h1,_,r1,r2=>by cases r2;exact .xo (by rw[<-r1.length,h1.length])
 | [],_,_,_,_::_,_,_,_,h,_,_,_=>by unfold aP at h;exact h.elim
 | _::_,_,_,_,[],_,_,_,h,_,_,_=>by unfold aP at h;exact h.elim
 | _::_,[],_,_,_::_,_::_,_,_,_,h,_,_=>by unfold aP at h;exact h.elim
 | _::_,_::_,_,_,_::_,[],_,_,_,h,_,_=>by unfold aP at h;exact h.elim
 | x::xs,y::ys,us,vs,d::ds,e::es,hd,hl,h1,h2,r1,r2=>by
  unfold aP at h1 h2;unfold D.eO at hl;unfold D.cj at hd;cases r1 with
  | cons r1 t1=>
   cases r2 with
   | cons r2 t2=>exact .cons (eq_data hok n d e x y _ _ A (by lia) hu h1.1 h2.1 r1 r2) (λ_=>ih d e x y _ _ (by lia) hl.1 h1.1 h2.1 r1 r2) (tH hok hu ih (by lia) hl.2 h1.2 h2.2 t1 t2)
theorem vI (hok:dm P w H s.heap):∀(n:Nat) (d e:D) (x y:V) (u v:Value) (A:Around),D.dep d<=n->A.units + n < cLine->D.dP d e->DV H x d->DV H y e->RelV x u->RelV y v->zI A s u v (D.lt d e):=by
 intro n
 induction n with
 | zero=>
  intro d e x y u v A hd hu hl hx hy rx ry;cases d with
  | int i=>
   have:=hx.int_inv;subst this;obtain⟨t,rfl⟩:=rx;cases e with
   | int j=>have:=hy.int_inv;subst this;obtain⟨t',rfl⟩:=ry;intro prog wd E Q q;exact(PyProof.Rows.lt_int q:wpAny (model prog wd) A (compareOp .Lt (.int i t) (.int j t')) Q E s)
   | str j=>unfold D.dP at hl;exact hl.elim
   | tup j=>unfold D.dP at hl;exact hl.elim
  | str i=>
   have:=hx.str_inv;subst this;obtain⟨t,rfl⟩:=rx;cases e with
   | int j=>unfold D.dP at hl;exact hl.elim
   | str j=>have:=hy.str_inv;subst this;obtain⟨t',rfl⟩:=ry;intro prog wd E Q q;exact(PySem.P.lt_str q:wpAny (model prog wd) A (compareOp .Lt (.str i t) (.str j t')) Q E s)
   | tup j=>unfold D.dP at hl;exact hl.elim
  | tup ds=>unfold D.dep at hd;lia
 | succ n ih=>
  intro d e x y u v A hd hu hl hx hy rx ry;cases d with
  | int i=>exact ih (.int i) e x y u v A (by unfold D.dep;lia) (by lia) hl hx hy rx ry
  | str i=>exact ih (.str i) e x y u v A (by unfold D.dep;lia) (by lia) hl hx hy rx ry
  | tup ds=>
   obtain⟨a,xs,q,e1,e2⟩:=hx.ag;subst q;cases rx;cases e with
   | int j=>unfold D.dP at hl;exact hl.elim
   | str j=>unfold D.dP at hl;exact hl.elim
   | tup es=>
    obtain⟨b,ys,q,f1,f2⟩:=hy.ag;subst q;cases ry;obtain⟨its,r1,ht⟩:=aq hok e1;obtain⟨aE,r2,bD⟩:=aq hok f1;have l1:its.toArray.size=ds.length:=by rw[JA,<-r1.length,e2.length]
    have l2:aE.toArray.size=es.length:=by rw[JA,<-r2.length,f2.length]
    have nW:D.cj ds<=n:=by unfold D.dep at hd;lia
    have yo:D.eO ds es:=by unfold D.dP at hl;exact hl
    have zz:Zp A.in1 s its aE ds es:=tH hok (n:=n) (by show A.units + 1 + n < cLine;lia) (λd e x y u v hd2 gA CD B0 rx2 ry2=>ih d e x y u v A.in1 hd2 (by show A.units + 1 + n < cLine;lia) gA CD B0 rx2 ry2) nW yo e2 f2 r1 r2;intro prog wd E Q q;obtain⟨⟨cls,dd,data,sl⟩,ho,hc,k,vg⟩:=id ht;obtain⟨⟨BM,vi,data2,rJ⟩,pe,mK,k2,nD⟩:=id bD;simp only at hc vg mK nD;subst hc vg mK nD;have q':Q (.bool (D.dQ ds es)) s:=by have z:=q;unfold D.lt at z;exact z
    exact richCompare_meets_room (op:= .Lt) ⟨_,ho,rfl⟩ ⟨_,pe,rfl⟩ PySem.F.slot_tuple_lt PySem.F.entry_tuple_lt (PySem.F.args_tuple_lt_2 _ _) (jt a b its.toArray aE.toArray k k2 dd vi sl rJ ds es l1 l2)
     ⟨ho,pe,zz,show Value.bool (D.dQ ds es)≠Value.notImplemented/\Q (.bool (D.dQ ds es)) s from⟨(λx=>nomatch x),q'⟩⟩ (by lia)
end
end Mx
end
section
namespace Mx
open PySem PySem.W PySem.Spec PyProof.Rows L2 PySem.SeqAt MxSort
section
variable {prog:Program} {w:World} {A:Around} {E:Value->Shared->Prop} {s:Shared}
theorem vH {a:Addr} {vs:List Value} {n:Nat} {P:PySem.Fin->Shared->Prop} (ho:s.heap.get? a=some (seqObj "list" vs.toArray n)) (IE:vs.length < 64) {O:KeyOrd} {key:Nat->O.α}
  (hk:2<=vs.length->∀h',(∀b o,b≠a->s.heap.get? b=some o->h'.get? b=some o)->∃κ:SortKind,(∀(Q:SortKind->Shared->Prop) (E:Value->Shared->Prop),Q κ {s with heap:=h'}->wpAny (model prog w) A (keyKind' vs.toArray) Q E {s with heap:=h'})/\
   Tells O key (kas_ask prog w A κ vs) vs.length {s with heap:=h'})
  (h:∀(p:Array Nat) (h':Heap) (e:Nat),Ord vs.length p->Up key p vs.length->(∀b o,b≠a->s.heap.get? b=some o->h'.get? b=some o)->h'.get? a=some (seqObj "list" (p.toList.map λi=>vs.getD i Value.none).toArray e)->
   P (.done (.ret .none)) {s with heap:=h'}):wpAny (model prog w) A (Builtin.«list.sort» ⟨[.ref a],[]⟩) P E s:=by
 have ha:a < s.heap.objs.size:=JI ho;have xx:vs.length<=sizeLine:=by rw[sizeLine_eq];lia
 rw[list_sort_plain];refine Jv (listItems_at ho rfl (Jv (listUpdate_at ho rfl ?_ (by rw[JA];exact xx) (Nat.zero_le _))));obtain⟨e1,GV⟩:∃e1,(s.heap.update a (Obj.mapSeq λ_=>(#[]:Array Value))).get? a=some (seqObj "list" #[] e1):=⟨_,get?_update_seq ho λ_=>#[]⟩;refine Jv (seqEpoch_at GV rfl (Jv (wpAny_newTuple ?_ xx)));refine Jv (wpAny_newList (wpAny_holding ?_) (Nat.zero_le _));show wpAny (model prog w) A _ P E {s with heap:=((s.heap.update a (Obj.mapSeq λ_=>(#[]:Array Value))).push (seqObj "tuple" vs.toArray 0)).push (seqObj "list" #[] 0)};generalize hh:((s.heap.update a (Obj.mapSeq λ_=>(#[]:Array Value))).push (seqObj "tuple" vs.toArray 0)).push (seqObj "list" #[] 0)=h1;have k1:∀b o,b≠a->s.heap.get? b=some o->h1.get? b=some o:=λb o hb e=>by rw[<-hh];exact Jx _ (Jx _ ((J0 s.heap _ (Ne.symm hb)).trans e))
 have Fp:h1.get? a=some (seqObj "list" #[] e1):=by rw[<-hh];exact Jx _ (Jx _ GV)
 dsimp only;have fin:∀(j3:SortSt) (p:Array Nat),Ord vs.length p->Up key p vs.length->(arrOf j3).map (·.2)=(p.toList.map λi=>vs.getD i Value.none).toArray->failedOf j3=none->
   wpAny (model prog w) A (do
    let touched:=(<-seqEpoch a) != e1
    Builtin.List.listUpdate (.ref a) λ_=>(arrOf j3).map (·.2)
    if let some e:=failedOf j3 then rule "list.sort.comparison-raised";throw e
    if touched then rule "list.sort.modified";raiseError "ValueError" "list modified during sort"
    ret .none) P E {s with heap:=h1}:=λj3 p hp hu AH hf=>by
  refine Jv (seqEpoch_at (s:={s with heap:=h1}) Fp rfl ?_);have ke:(p.toList.map λi=>vs.getD i Value.none).toArray.size=vs.length:=by rw[JA,JH,JS,hp.size]
  rw[AH];refine Jv (listUpdate_at (s:={s with heap:=h1}) Fp rfl ?_ (Nat.zero_le _) (by rw[ke];lia));rw[hf];simp only[bne_self_eq_false,Bool.false_eq_true,if_false];obtain⟨c2,mK⟩:∃c2,(h1.update a (Obj.mapSeq λ_=>(p.toList.map λi=>vs.getD i Value.none).toArray)).get? a=some (seqObj "list" (p.toList.map λi=>vs.getD i Value.none).toArray c2):=⟨_,get?_update_seq Fp λ_=>_⟩;exact Jy (h p _ c2 hp hu (λb o hb e=>(J0 h1 _ (Ne.symm hb)).trans (k1 b o hb e)) mK)
 by_cases h2:2<=vs.length
 ·have zQ:¬vs.toArray.size < 2:=by rw[JA];lia
  rw[if_neg zQ,if_neg zQ];obtain⟨κ,IH,T⟩:=hk h2 h1 k1;refine Jv (IH _ _ ?_);refine Jv (wpAny_mono (kat_run (s:={s with heap:=h1}) (G:=λp s'=>s'={s with heap:=h1}/\Ord vs.length p/\Up key p vs.length)
   (Q:=λj3 s'=>s'={s with heap:=h1}/\∃p:Array Nat,Ord vs.length p/\Up key p vs.length/\(arrOf j3).map (·.2)=(p.toList.map λi=>vs.getD i Value.none).toArray/\failedOf j3=none) rfl h2 IE
   (λp j3 s' z1 z2 z3 z4=>⟨z4.1,p,z4.2.1,z4.2.2,kat_snds rfl z2,z3⟩) (xn T (by lia) λp' hp hu=>⟨rfl,hp,hu⟩)) ?_ λ_ _ e=>e)
  rintro⟨⟨⟩,j3⟩ s' ⟨rfl,p,hp,hu,AH,hf⟩;exact fin j3 p hp hu AH hf
 ·have zQ:vs.toArray.size < 2:=by rw[JA];lia
  rw[if_pos zQ,if_pos zQ];refine Jv (Jy ?_);rw[StateT.run_pure];refine Jv (Jy ?_);refine fin (SortSt.mk' general' (vs.toArray.zip vs.toArray) #[] 7 none) (List.range vs.length).toArray (by unfold MxSort.Ord;simp) (λi j wO hj=>?_) ?_ rfl
  ·rw[show i=j by lia];exact KeyOrd.kle_refl _
  ·apply Array.toList_inj.mp;show (((vs.toArray.zip vs.toArray)).map (·.2)).toList=_
   match vs,h2 with
   | [],_=>simp
   | [v],_=>simp
   | _::_::_,h2=>exact absurd (by simp) h2
end
section
variable {P:Program} {w:World} {H:Hp} {prog:Program} {s:Shared} {A:Around}
theorem vU {b:Bool} {n m:Nat} {Q:Bool->Shared->Prop} {us vs:List Value} {ds es:List D} (z:Zp A s us vs ds es):∀(i:Nat),1<=i->ds.length + m=es.length + n->Q (D.dQ ds es) s->KatLex prog w A b (decide (n < m)) Q (us.zip vs) i s:=by
 induction z with
 | nil hl=>
  intro i hi hlen q;rw[List.zip_nil_left];refine kat_nil ?_;rename_i ws es;cases es with
  | nil=>simp only[List.length_nil] at hlen;rw[D.dQ] at q;rw[JX (by lia)];exact q
  | cons c u=>simp only[List.length_nil,JQ] at hlen;rw[D.dQ] at q;rw[J1 (by lia)];exact q
 | xo hl=>
  intro i hi hlen q;rw[List.zip_nil_right];refine kat_nil ?_;rename_i vs ds;cases ds with
  | nil=>simp only[List.length_nil] at hlen;rw[D.dQ] at q;rw[JX (by lia)];exact q
  | cons c u=>simp only[List.length_nil,JQ] at hlen;rw[D.dQ] at q;rw[JX (by lia)];exact q
 | cons he hl z' ih=>
  intro i hi hlen q;rename_i v wv d e rT ws' rK dR;rw[List.zip_cons_cons];simp only[JQ] at hlen;rw[D.cF] at q;refine kat_cons (he prog w _ _ ?_);by_cases hde:d=e
  ·rw[(D.cq d e).mpr hde];rw[if_pos hde] at q;exact kat_yes (ih (i + 1) (by lia) (by lia) q)
  ·rw[show D.eL d e=false by rw[D.kO];exact JX hde];rw[if_neg hde] at q;refine kat_no ?_;rw[show (b&&i==0)=false by rw[show (i==0)=false by simp;lia];simp];exact kat_one v wv (hl hde prog w _ _ q)
end
noncomputable def i6 (ds es:List D):Prop:=es.Perm ds/\es.Pairwise λa b=>D.lt b a=false
theorem aP.map {H:Hp} {xs:List V} {ds:List D} (h:aP H xs ds):∀{p:List Nat},(∀i∈p,i < xs.length)->aP H (p.map λi=>xs.getD i .a6) (p.map λi=>ds.getD i (.int 0))
 | [],_=>aP.nil
 | i::p,hp=>by have hi:=hp i JF;obtain⟨d,e1,e2⟩:=h.get (i:=i) (x:=xs[i]) (by simp[hi]);refine aP.cons ?_ (aP.map h λj hj=>hp j (JD _ hj));dsimp only;rw[show xs.getD i .a6=xs[i] by simp[hi],show ds.getD i (.int 0)=d by simp[e1]];exact e2
theorem mJ {xs:List V} {us:List Value} (h:au xs us):∀{p:List Nat},(∀i∈p,i < xs.length)->au (p.map λi=>xs.getD i .a6) (p.map λi=>us.getD i .none)
 | [],_=> .nil
 | i::p,hp=>by have hi:=hp i JF;obtain⟨u,e1,e2⟩:=h.get (i:=i) (x:=xs[i]) (by simp[hi]);refine .cons ?_ (mJ h λj hj=>hp j (JD _ hj));dsimp only;rw[show xs.getD i .a6=xs[i] by simp[hi],show us.getD i .none=u by simp[e1]];exact e2
theorem jc {α:Type} (l:List α) (d:α):(List.range l.length).map (λi=>l.getD i d)=l:=by
 refine List.ext_getElem (by simp) λi h1 h2=>?_
 simp at h1;simp[h1]
end Mx
end
section
namespace L2
open PySem PySem.Spec PyProof.Rows
noncomputable def kX (env:Env):List (Str×NameKind)->List (Str×Addr)->List (Str×Addr)
 | [],cs=>cs
 | (n,k)::r,cs=>kX env r (if k== .free then(n,(env.cells.lookup n).getD 0)::cs else cs)
noncomputable def dO (scope:Scope) (env:Env):List (Str×Addr):=kX env scope.names []
theorem iE {env:Env}:∀(l:List (Str×NameKind)) (cs:List (Str×Addr)),(∀y∈l,y.2= .free->∃c,env.cells.lookup y.1=some c)->
  (forIn l cs (λx r=>do
   if x.2==NameKind.free then do let a<-cellOf env x.1;pure (ForInStep.yield ((x.1,a)::r)) else pure (ForInStep.yield r)):Sem (List (Str×Addr)))=pure (kX env l cs)
 | [],cs,_=>rfl
 | (n,k)::r,cs,h=>by
  rw[List.forIn_cons];have ih:=λcs=>iE r cs λy hy=>h y (JD _ hy)
  cases hk:(k==NameKind.free) with
  | false=>simp only[hk,Bool.false_eq_true,if_false,kX,pure_bind];exact ih cs
  | true=>
   obtain⟨c,hc⟩:=h (n,k) JF (by simpa using hk);have jr:env.cells.lookup n=some c:=hc;have e:cellOf env n=pure c:=by unfold cellOf;rw[jr]
   simp only[hk,if_true,kX,e,pure_bind,jr,Option.getD_some];exact ih _
theorem eJ {scope:Scope} {env:Env} (h:∀y∈scope.names,y.2= .free->∃c,env.cells.lookup y.1=some c):closureFor scope env=pure (dO scope env):=by have q:=iE (env:=env) scope.names [] h;unfold closureFor dO;rw[<-q];simp only[bind_pure]
theorem gG {env:Env} {x:Str} {c:Addr}:∀(l:List (Str×NameKind)) (cs:List (Str×Addr)),(∀y∈l,y.2= .free->∃c,env.cells.lookup y.1=some c)->
  (∀c,cs.lookup x=some c->env.cells.lookup x=some c)->(kX env l cs).lookup x=some c->env.cells.lookup x=some c
 | [],cs,_,h2,h=>h2 c h
 | (n,k)::r,cs,h1,h2,h=>by
  refine gG r _ (λy hy=>h1 y (JD _ hy)) (λc' jr=>?_) h;by_cases hk:(k==NameKind.free)=true
  ·rw[if_pos hk] at jr;rw[JY] at jr;by_cases hx:(x==n)=true
   ·rw[hx] at jr;have su:x=n:=by simpa using hx
    subst su;obtain⟨c₁,e⟩:=h1 (x,k) JF (by simpa using hk);have e':env.cells.lookup x=some c₁:=e;rw[e'] at jr ⊢;simpa using jr
   ·rw[Bool.not_eq_true] at hx;rw[hx] at jr;exact h2 c' jr
  ·rw[if_neg hk] at jr;exact h2 c' jr
theorem i8 {env:Env} {x:Str}:∀(l:List (Str×NameKind)) (cs:List (Str×Addr)),(((x,NameKind.free)∈l)\/∃c,cs.lookup x=some c)->∃c,(kX env l cs).lookup x=some c
 | [],cs,h=>by
  rcases h with h | h
  ·cases h
  ·exact h
 | (n,k)::r,cs,h=>by
  refine i8 r _ ?_;by_cases hk:(k==NameKind.free)=true
  ·rw[if_pos hk];by_cases hx:(x==n)=true
   ·exact .inr ⟨_,by rw[JY,hx]⟩
   ·rw[Bool.not_eq_true] at hx;rcases h with h | h
    ·rcases JK.mp h with e | h
     ·injection e with e1 e2;subst e1;simp at hx
     ·exact .inl h
    ·exact .inr (by obtain⟨c,e⟩:=h;exact⟨c,by rw[JY,hx];exact e⟩)
  ·rw[if_neg hk];rcases h with h | h
   ·rcases JK.mp h with e | h
    ·injection e with e1 e2;subst e2;exact absurd rfl hk
    ·exact .inl h
   ·exact .inr h
theorem aM {env:Env} {x:Str}:∀{names:List (Str×NameKind)} {k:NameKind},names.lookup x=some k->
  (names.map λ(n,k)=>if (k==NameKind.free&&env.scope.kind== .function&&env.kindOf n==some .cell) then(n,NameKind.cell) else(n,k)).lookup x=
   some (if (k==NameKind.free&&env.scope.kind== .function&&env.kindOf x==some .cell) then NameKind.cell else k)
 | [],_,h=>by simp at h
 | (n,k')::r,k,h=>by
  have ih:=@aM env x r k;show List.lookup x ((if (k'==NameKind.free&&env.scope.kind== .function&&env.kindOf n==some .cell)=true then(n,NameKind.cell) else(n,k'))::_)=_;cases hx:x==n with
  | true=>
   have su:x=n:=by simpa using hx
   subst su;simp only[JY,hx] at h;cases h;by_cases hc:(k'==NameKind.free&&env.scope.kind== .function&&env.kindOf x==some .cell)=true
   ·simp only[hc,if_true,JY,hx]
   ·rw[if_neg hc,if_neg hc];simp only[JY,hx]
  | false=>
   simp only[JY,hx] at h;by_cases hc:(k'==NameKind.free&&env.scope.kind== .function&&env.kindOf n==some .cell)=true
   ·rw[if_pos hc];simp only[JY,hx];exact ih h
   ·rw[if_neg hc];simp only[JY,hx];exact ih h
theorem bx {env:Env} {x:Str}:∀{names:List (Str×NameKind)},names.lookup x=none->
  (names.map λ(n,k)=>if (k==NameKind.free&&env.scope.kind== .function&&env.kindOf n==some .cell) then(n,NameKind.cell) else(n,k)).lookup x=none
 | [],h=>rfl
 | (n,k')::r,h=>by
  show List.lookup x ((if (k'==NameKind.free&&env.scope.kind== .function&&env.kindOf n==some .cell)=true then(n,NameKind.cell) else(n,k'))::_)=_;cases hx:x==n with
  | true=>simp only[JY,hx] at h;cases h
  | false=>
   simp only[JY,hx] at h;by_cases hc:(k'==NameKind.free&&env.scope.kind== .function&&env.kindOf n==some .cell)=true
   ·rw[if_pos hc];simp only[JY,hx];exact bx h
   ·rw[if_neg hc];simp only[JY,hx];exact bx h
noncomputable def bX (cap:List (Option Nat)) (σ:St):St:=cap.map λo=>o.bind λi=>(σ[i]?).join
noncomputable def xH (X:Cx) (ifs:List Expr) (t:TT):Prop:=
 ∀(pins:List (Addr×Obj)) (s:Shared) (σ:St) (H:Hp) (Q:Bool->Hp->Prop),Inv X pins σ H s->t σ H Q->
  wpAny (model X.prog X.w) X.A (forIn ifs true λc r=>if r=true then do let ok<-isTrue c X.env (eval c X.env);pure (ForInStep.yield ok) else pure (ForInStep.yield r)) (TP X pins σ Q) X.xe s
noncomputable def Ez:TT:=λ_ H Q=>Q true H
theorem xc {X:Cx}:xH X [] Ez:=λ_ _ _ H _ I h=>wpAny_tests_nil ⟨H,I,h⟩
theorem wK {X:Cx} {c:Expr} {t:TT} (h:PT X c t):xH X [c] t:=λpins s σ H Q I hw=>wpAny_tests_one (h pins s σ H Q I hw)
noncomputable def A2 (J:It) (g:TG) (tt:TT) (te:TE) (σ0:St) (D:Addr) (F:Hp->Prop) (H1:Hp):Prop:=
 ∃W:Nat->Nat->List V->Hp->Prop,(∃m,W 0 m [] (upd H1 D (.lst [])))/\∀i m acc H,W i m acc H->
  (J.stop i H/\F H)\/(J.go i H/\∀x H',J.yld i H x H'->g x σ0 H' λσ2 H2=>tt σ2 H2 λb H3=>if b=true then te σ2 H3 λv H4=>∃eE,H4 D=some (.lst eE)/\eE.length < sizeLine/\
   ∃m',m' < m/\W (i + 1) m' (eE++[v]) (upd H4 D (.lst (eE++[v]))) else∃m',m' < m/\W (i + 1) m' acc H3)
end L2
end
section
namespace Mx
open PySem PySem.W PySem.Spec PyProof.Rows L2 PySem.SeqAt
section
variable {X:Cx}
noncomputable def EM:V->Option Int->Option Int->Hp->VK->Prop:=λx lo hi H Q=>∃z,x= .str z/\z.length<=sizeLine/\Q (.str (PySem.Txt.slice z lo hi)) H
theorem Av:AL X EM:=by
 intro pins s σ H x v vl vu lo hi sl Q I rx hs pl pu h;obtain⟨z,rfl,hz,q⟩:=h;obtain⟨t,rfl⟩:=rx;refine⟨"str",_,PySem.F.slot_str_getitem.lookup,typeIs_str _ _ _,?_⟩;have fin:∀(t':Tok) (k:Nat),EP X pins σ Q (.str (PySem.Txt.slice z lo hi) t') {s with toks:=k}:=λt' k=>⟨.str _,H,I.tok k,⟨t',rfl⟩,q⟩
 have hlen:=JJ (PySem.Txt.slice_le z lo hi) hz;obtain⟨o,ho,hc,hd⟩:=hs;cases pl with
 | none=>
  cases pu with
  | none=>exact wpAny_getItem_str_slice (l:=none) (u:=none) (st:=none) ⟨o,ho,hc,hd⟩ rfl (post_val_or_str ⟨hlen,fin⟩)
  | int j tj=>exact wpAny_getItem_str_slice (l:=none) (u:=some (j,tj)) (st:=none) ⟨o,ho,hc,hd⟩ rfl (post_val_or_str ⟨hlen,fin⟩)
 | int i ti=>
  cases pu with
  | none=>exact wpAny_getItem_str_slice (l:=some (i,ti)) (u:=none) (st:=none) ⟨o,ho,hc,hd⟩ rfl (post_val_or_str ⟨hlen,fin⟩)
  | int j tj=>exact wpAny_getItem_str_slice (l:=some (i,ti)) (u:=some (j,tj)) (st:=none) ⟨o,ho,hc,hd⟩ rfl (post_val_or_str ⟨hlen,fin⟩)
noncomputable def E3 (K:PySem.W.Frag):List V->Hp->VK->Prop:=λxs H Q=>∃x T t b,xs=[x,.ty T]/\fw K H x t/\PySem.W.kitOne K t (.type T)=some b/\Q (.bl b) H
theorem tL:fI X (.builtin "isinstance") (E3 X.K):=by intro pins s σ H xs us Q I r h;obtain⟨x,T,t,b,rfl,ty,hk,q⟩:=h;obtain⟨u,v,rfl,r1,r2⟩:=r.two;cases r2;exact qF I r1 ty hk λtk=>⟨.bl b,H,I.tok tk,rfl,q⟩
end
end Mx
end
section
namespace Mx
open PySem PySem.W PySem.Spec PyProof.Rows L2
structure uB (z TI TO i1 i2:Addr):Prop where
 TIz:TI≠z
 TOz:TO≠z
 i1z:i1≠z
 i2z:i2≠z
 TITO:TI≠TO
 TIi1:TI≠i1
 TIi2:TI≠i2
 TOi1:TO≠i1
 TOi2:TO≠i2
 i12:i1≠i2
theorem b8 {H:Hp} {p:Addr} (h:H p=none) (o:HO):bw H (upd H p o):=λb u q=>by rw[ar (az q h)];exact q
theorem jY {H H':Hp} (h:bw H H'):vy H H':=λa xs q=>h a _ q
theorem u6 {H1 H:Hp} {D:Addr} {o:HO} (h:bw H1 H) (hD:H1 D=none):bw H1 (upd H D o):=λb u q=>by rw[ar (az q hD)];exact h b u q
theorem iG {H:Hp} {D:Addr} {xs ys:List V} (hD:H D=some (.lst xs)):vy H (upd H D (.lst ys)):=λb zs q=>by
 by_cases e:b=D
 ·subst e;rw[hD] at q;cases q
 ·rw[ar e];exact q
section
variable {K:PySem.W.Frag} {g:TG} {tt:TT} {te:TE} {σ0:L2.St} {D:Addr} {F:Hp->Prop} {H1:Hp}
theorem mT {J:It} {n:Nat} (hD:H1 D=none) (E:Nat->List Mx.D) (hE:E 0=[]) (hn:n < sizeLine) (go:∀i H,i < n->bw H1 H->J.go i H) (stop:∀H,bw H1 H->J.stop n H)
  (hs:∀i x H H',i < n->bw H1 H->J.yld i H x H'->bw H H'/\∀(N:V->Hp->Prop) (M:Hp->Prop),(∀v H4 e,bw H' H4->DV H4 v e->E (i + 1)=E i++[e]->N v H4)->(∀H3,bw H' H3->E (i + 1)=E i->M H3)->
   g x σ0 H' λσ2 H2=>tt σ2 H2 λb H3=>if b=true then te σ2 H3 N else M H3)
  (hd:∀H acc,bw H1 H->H D=some (.lst acc)->aP H acc (E n)->F H):A2 J g tt te σ0 D F H1:=by
 refine⟨λi m acc H=>m=n - i/\i<=n/\bw H1 H/\H D=some (.lst acc)/\aP H acc (E i)/\acc.length<=i,⟨n,by simp,Nat.zero_le _,b8 hD _,aA,by rw[hE];exact aP.nil,JE _⟩,?_⟩;rintro i m acc H ⟨rfl,hi,hS,Ee,qp,He⟩;by_cases cO:i < n
 ·refine .inr ⟨go i H cO hS,λx H' y=>?_⟩;obtain⟨s1,st⟩:=hs i x H H' cO hS y;refine st _ _ (λv H4 e s4 he e4=>?_) (λH3 s3 e3=>?_)
  ·have Fi:=s1.trans s4;have Dc:=Fi _ _ Ee;refine⟨acc,Dc,by lia,n - (i + 1),by lia,rfl,cO,u6 (hS.trans Fi) hD,aA,?_,by simp;lia⟩;rw[e4];exact(aP.append (qp.mono (jY Fi)) (aP.cons he aP.nil)).mono (iG Dc)
  ·have EB:=s1.trans s3;exact⟨n - (i + 1),by lia,rfl,cO,hS.trans EB,EB _ _ Ee,by rw[e3];exact qp.mono (jY EB),by lia⟩
 ·have e:i=n:=by lia
  subst e;exact .inl ⟨stop H hS,hd H acc hS Ee qp⟩
end
noncomputable def bh:Bool->Heap->Addr->Addr->Nat->Prop
 | false,h,i,l,k=>h.IsListIter i l k
 | true,h,i,l,k=>h.IsTupleIter i l k
noncomputable def c9:Bool->Heap->Addr->Array Value->Prop
 | false,h,l,xs=>h.IsList l xs
 | true,h,l,xs=>h.IsTuple l xs
theorem bh.at:∀{b:Bool} {h h':Heap} {i l:Addr} {k:Nat},bh b h i l k->(∀o,h.get? i=some o->h'.get? i=some o)->bh b h' i l k
 | false,_,_,_,_,_,x,e=>Heap.IsListIter.at x e
 | true,_,_,_,_,_,x,e=>Heap.IsTupleIter.at x e
theorem c9.at:∀{b:Bool} {h h':Heap} {l:Addr} {xs:Array Value},c9 b h l xs->(∀o,h.get? l=some o->h'.get? l=some o)->c9 b h' l xs
 | false,_,_,_,_,x,e=>let ⟨o,ho,r⟩:=x;⟨o,e o ho,r⟩
 | true,_,_,_,_,x,e=>let ⟨o,ho,r⟩:=x;⟨o,e o ho,r⟩
theorem bh.obj:∀{b:Bool} {h:Heap} {i l:Addr} {k:Nat},bh b h i l k->∃o,h.get? i=some o/\∀v,o.data≠ .cell v
 | false,_,_,_,_,x=>by obtain⟨o,e,c,d⟩:=x;exact⟨o,e,λv q=>by rw[d] at q;cases q⟩
 | true,_,_,_,_,x=>by obtain⟨o,e,c,d⟩:=x;exact⟨o,e,λv q=>by rw[d] at q;cases q⟩
section
variable {prog:Program} {w:World} {A:Around} {E:Value->Shared->Prop} {s:Shared}
theorem n0 {it t:Addr} {i:Nat} {items:Array Value} {x:Value} {Q:Value->Shared->Prop} (hit:s.heap.IsTupleIter it t i) (ht:s.heap.IsTuple t items) (hx:items[i]?=some x)
  (hQ:∀h',h'.IsTupleIter it t (i + 1)->Heap.SameBut it s.heap h'->Q x {s with heap:=h'}):wpAny (model prog w) A (Builtin.SmallTypes.nextOf (.ref it)) Q E s:=by
 obtain⟨o,ho,hc,hd⟩:=id hit;obtain⟨ol,Ft,_,nl,wF⟩:=ht;unfold Builtin.SmallTypes.nextOf;refine Jv (wpAny_callSpecial?_slot (name:=Str.ofString "__next__") hit.typeIs F.slot_tuple_iterator_next (wpAny_call_entry F.slot_tuple_iterator_next hit.typeIs F.entry_tuple_iterator_next (show wpAny _ _ (field (.ref it) 0 >>=_) _ _ s from Jv (wpAny_field ho hd (x:= .ref t) rfl ?_)) (F.args_tuple_iterator_next_1 _)));show wpAny _ _ (if (Value.ref t==Value.none)=true then _ else _) _ _ s;rw[if_neg (show¬((Value.ref t==Value.none)=true) from Bool.false_ne_true)];refine(show wpAny _ _ (field (.ref it) 1 >>=_) _ _ s from Jv (wpAny_field ho hd (x:= .int i 0) rfl (show wpAny _ _ (seqItems? (.ref t) >>=_) _ _ s from Jv (wpAny_seqItems Ft wF ?_))));simp only[Int.toNat_natCast,hx];refine Jv (wpAny_setField ho hd (by simp) (Jy ⟨x,rfl,Jy (hQ _ ⟨_,Heap.get?_update_self _ ho (Obj.isFreed_of_fields (Obj.data_mapFields hd _)),(Obj.cls_mapFields ..).trans hc,?_⟩ (Heap.SameBut.update ..))⟩));rw[Obj.data_mapFields hd];simp[rawInt]
theorem qS {it t:Addr} {i:Nat} {items:Array Value} {Q:Value->Shared->Prop} (hh:A.handled=none) (hit:s.heap.IsTupleIter it t i) (ht:s.heap.IsTuple t items) (hx:items[i]?=none)
  (hE:∀h' e,Heap.ExtBut it s.heap h'->(∃o,h'.get? e=some o/\o.cls= .type "StopIteration")->E (.ref e) {s with heap:=h'}):wpAny (model prog w) A (Builtin.SmallTypes.nextOf (.ref it)) Q E s:=by
 obtain⟨o,ho,hc,hd⟩:=id hit;obtain⟨ol,Ft,_,nl,wF⟩:=ht;unfold Builtin.SmallTypes.nextOf;refine Jv (wpAny_callSpecial?_slot (name:=Str.ofString "__next__") hit.typeIs F.slot_tuple_iterator_next (wpAny_call_entry F.slot_tuple_iterator_next hit.typeIs F.entry_tuple_iterator_next (show wpAny _ _ (field (.ref it) 0 >>=_) _ _ s from Jv (wpAny_field ho hd (x:= .ref t) rfl ?_)) (F.args_tuple_iterator_next_1 _)));show wpAny _ _ (if (Value.ref t==Value.none)=true then _ else _) _ _ s;rw[if_neg (show¬((Value.ref t==Value.none)=true) from Bool.false_ne_true)];refine(show wpAny _ _ (field (.ref it) 1 >>=_) _ _ s from Jv (wpAny_field ho hd (x:= .int i 0) rfl (show wpAny _ _ (seqItems? (.ref t) >>=_) _ _ s from Jv (wpAny_seqItems Ft wF ?_))));simp only[Int.toNat_natCast,hx];refine Jv (wpAny_rule (Jv (wpAny_setField ho hd (by simp) (show wpAny _ _ (newExc (.type "StopIteration") [] >>=_) _ _ _ from Jv ?_))));simp only[newExc,newTuple];refine Jv (wpAny_newObj_type (Jv (m:=firstArgMember _ _) (wpAny_of_eq (a:=Value.none) (by first | rfl | (simp only[firstArgMember];rfl)) (wpAny_newObj_type ?_ (by size_fits)))) (by size_fits));simp only[raiseNew];refine Jv (wpAny_handled ?_)
 first | rw[show A.in1.handled=none from hh] | rw[hh]
 exact Jv (Jy (wpAny_throw (hE _ _ (((Heap.SameBut.update ..).extBut.push _).push _) ⟨_,JG _ rfl,rfl⟩)))
theorem dD {b:Bool} {it l:Addr} {i:Nat} {items:Array Value} {x:Value} {Q:Value->Shared->Prop} (hit:bh b s.heap it l i) (hl:c9 b s.heap l items) (hx:items[i]?=some x)
  (hQ:∀h',bh b h' it l (i + 1)->Heap.SameBut it s.heap h'->Q x {s with heap:=h'}):wpAny (model prog w) A (Builtin.SmallTypes.nextOf (.ref it)) Q E s:=by
 cases b with
 | false=>exact wpAny_nextOf_list_item hit hl hx hQ
 | true=>exact n0 hit hl hx hQ
theorem f9 {b:Bool} {it l:Addr} {i:Nat} {items:Array Value} {Q:Value->Shared->Prop} (hh:A.handled=none) (hit:bh b s.heap it l i) (hl:c9 b s.heap l items) (hx:items[i]?=none)
  (hE:∀h' e,Heap.ExtBut it s.heap h'->(∃o,h'.get? e=some o/\o.cls= .type "StopIteration")->E (.ref e) {s with heap:=h'}):wpAny (model prog w) A (Builtin.SmallTypes.nextOf (.ref it)) Q E s:=by
 cases b with
 | false=>exact wpAny_nextOf_list_end hh hit hl hx hE
 | true=>exact qS hh hit hl hx hE
end
structure fW (z TO i1 i2 l:Addr):Prop where
 z:l≠z
 o:l≠TO
 a:l≠i1
 b:l≠i2
section
variable {prog:Program} {w:World} {A:Around} {E:Value->Shared->Prop} {s:Shared}
theorem qI {b1 b2:Bool} {z TI TO i1 i2 l1 l2:Addr} {k1 k2:Nat} {xs ys:Array Value} {x y a b:Value} {Q:Option Value->Shared->Prop} (D:uB z TI TO i1 i2) (O1:fW z TO i1 i2 l1) (O2:fW z TO i1 i2 l2)
  (hz:IsZip s.heap z TI TO .none) (EC:IsPair s.heap TI (.ref i1) (.ref i2)) (FV:IsPair s.heap TO a b) (h1:bh b1 s.heap i1 l1 k1) (h2:bh b2 s.heap i2 l2 k2) (gE:c9 b1 s.heap l1 xs) (gA:c9 b2 s.heap l2 ys) (hx:xs[k1]?=some x) (hy:ys[k2]?=some y)
  (hQ:∀h',IsZip h' z TI TO (rawInt s.heap.objs.size)->IsPair h' TO x y->bh b1 h' i1 l1 (k1 + 1)->bh b2 h' i2 l2 (k2 + 1)->IsPair h' s.heap.objs.size x y->
   (∀c o,c≠z->c≠TO->c≠i1->c≠i2->s.heap.get? c=some o->h'.get? c=some o)->Q (some (.ref s.heap.objs.size)) {s with heap:=h'}):wpAny (model prog w) A (pyNext (.ref z)) Q E s:=by
 have hT:s.TypeIs (.ref z) "zip":=⟨_,hz,rfl⟩;unfold pyNext;refine Jv (wpAny_attempt (wpAny_callSpecial?_slot (name:=Str.ofString "__next__") hT F.slot_zip_next (wpAny_call_entry F.slot_zip_next hT F.entry_zip_next ?_ (F.args_zip_next_1 _))));refine(show wpAny _ _ (field (.ref z) 2 >>=_) _ _ _ from Jv (wpAny_field hz rfl (x:= .bool false) rfl (show wpAny _ _ (field (.ref z) 3 >>=_) _ _ _ from Jv (wpAny_field hz rfl (x:= .ref TI) rfl (Jv (wpAny_seqItems EC rfl (show wpAny _ _ (Builtin.SmallTypes.ownedTupleIsFree (.ref z) >>=_) _ _ _ from Jv ?_)))))));unfold Builtin.SmallTypes.ownedTupleIsFree;refine Jv (wpAny_field hz rfl (x:= .none) rfl (Jy ?_));simp only[if_true];refine Jv (wpAny_rule (Jv (wpAny_field hz rfl (x:= .ref TO) rfl (Jv (J6 hz (by simp) λg1 z1 e1=>Jv ?_)))))
 replace z1:IsZip g1 z TI TO .ellipsis:=z1
 simp only[List.zipIdx_cons,List.zipIdx_nil,List.forIn_cons,List.forIn_nil];refine Jv (Jv (wpAny_onRaise (show wpAny _ _ (Builtin.SmallTypes.nextOf (.ref i1) >>=_) _ _ _ from Jv (dD (h1.at λo q=>e1.extBut _ o D.i1z q) (gE.at λo q=>e1.extBut _ o O1.z q) hx λg2 j1 e2=>Jy ?_))));have t2:IsPair g2 TO a b:=e2.extBut _ _ D.TOi1 (e1.extBut _ _ D.TOz FV);refine Jv (wpAny_seqItems t2 rfl (Jv (wpAny_updateSeq_pair t2 λg3 t3 e3=>Jv (wpAny_letGo (Jy ?_)))))
 replace t3:IsPair g3 TO x b:=t3
 refine Jv (Jv (wpAny_onRaise (show wpAny _ _ (Builtin.SmallTypes.nextOf (.ref i2) >>=_) _ _ _ from Jv (dD (h2.at λo q=>e3.extBut _ o D.TOi2.symm (e2.extBut _ o D.i12.symm (e1.extBut _ o D.i2z q))) (gA.at λo q=>e3.extBut _ o O2.o (e2.extBut _ o O2.a (e1.extBut _ o O2.z q))) hy λg4 j2 e4=>Jy ?_))));have t4:IsPair g4 TO x b:=e4.extBut _ _ D.TOi2 t3;refine Jv (wpAny_seqItems t4 rfl (Jv (wpAny_updateSeq_pair t4 λg5 t5 e5=>Jv (wpAny_letGo (Jy (Jy ?_))))))
 replace t5:IsPair g5 TO x y:=t5
 refine Jv (wpAny_seqItems t5 rfl (Jv (wpAny_newTuple ?_)));have sz:g5.objs.size=s.heap.objs.size:=by rw[e5.1,e4.1,e3.1,e2.1,e1.1]
 have z5:IsZip g5 z TI TO .ellipsis:=e5.extBut _ _ D.TOz.symm (e4.extBut _ _ D.i2z.symm (e3.extBut _ _ D.TOz.symm (e2.extBut _ _ D.i1z.symm z1)));have old:∀c o,c≠z->c≠TO->c≠i1->c≠i2->s.heap.get? c=some o->g5.get? c=some o:=λc o c1 c2 c3 c4 q=>e5.extBut _ _ c2 (e4.extBut _ _ c4 (e3.extBut _ _ c2 (e2.extBut _ _ c3 (e1.extBut _ _ c1 q))))
 have n1:bh b1 g5 i1 l1 (k1 + 1):=j1.at λo q=>e5.extBut _ o D.TOi1.symm (e4.extBut _ o D.i12 (e3.extBut _ o D.TOi1.symm q))
 have n2:bh b2 g5 i2 l2 (k2 + 1):=j2.at λo q=>e5.extBut _ o D.TOi2.symm q
 have GA:z < g5.objs.size:=JI z5;refine(show wpAny _ _ (Builtin.SmallTypes.ownedTupleHandOut (.ref z) (.ref g5.objs.size) >>=_) _ _ _ from Jv ?_);unfold Builtin.SmallTypes.ownedTupleHandOut;have z6:IsZip (g5.push {cls:= .type "tuple",data:= .seq #[x,y]}) z TI TO .ellipsis:=Jx _ z5;refine Jv (J6 z6 (by simp) λg7 z7 e7=>?_)
 replace z7:IsZip g7 z TI TO (rawInt g5.objs.size):=z7
 refine J6 z7 (by simp) λg8 z8 e8=>?_
 replace z8:IsZip g8 z TI TO (rawInt g5.objs.size):=z8
 have up:∀c o,c≠z->g5.get? c=some o->g8.get? c=some o:=λc o c1 q=>e8.extBut _ _ c1 (e7.extBut _ _ c1 (Jx _ q))
 have t8:IsPair g8 g5.objs.size x y:=e8.extBut _ _ (Nat.ne_of_gt GA) (e7.extBut _ _ (Nat.ne_of_gt GA) (JG _ rfl));rw[sz] at z8 t8;refine Jy ⟨_,rfl,Jy ?_⟩;show Q (some (.ref g5.objs.size)) _;rw[sz];exact hQ g8 z8 (up _ _ D.TOz t5) (n1.at λo q=>up _ o D.i1z q) (n2.at λo q=>up _ o D.i2z q) t8 λc o c1 c2 c3 c4 q=>up c o c1 (old c o c1 c2 c3 c4 q)
theorem um {b1 b2:Bool} {z TI TO i1 i2 l1 l2:Addr} {k1 k2:Nat} {xs ys:Array Value} {a b:Value} {Q:Option Value->Shared->Prop} (hh:A.handled=none) (D:uB z TI TO i1 i2) (O1:fW z TO i1 i2 l1) (O2:fW z TO i1 i2 l2)
  (hz:IsZip s.heap z TI TO .none) (EC:IsPair s.heap TI (.ref i1) (.ref i2)) (FV:IsPair s.heap TO a b) (h1:bh b1 s.heap i1 l1 k1) (h2:bh b2 s.heap i2 l2 k2) (gE:c9 b1 s.heap l1 xs) (gA:c9 b2 s.heap l2 ys) (Am:xs[k1]?=none\/ys[k2]?=none)
  (hQ:∀h',(∀c o,c≠z->c≠TO->c≠i1->c≠i2->s.heap.get? c=some o->h'.get? c=some o)->Q none {s with heap:=h'}):wpAny (model prog w) A (pyNext (.ref z)) Q E s:=by
 have hT:s.TypeIs (.ref z) "zip":=⟨_,hz,rfl⟩;unfold pyNext;refine Jv (wpAny_attempt (wpAny_callSpecial?_slot (name:=Str.ofString "__next__") hT F.slot_zip_next (wpAny_call_entry F.slot_zip_next hT F.entry_zip_next ?_ (F.args_zip_next_1 _))));have stop:∀(h':Heap) (e:Addr),(∀c o,c≠z->c≠TO->c≠i1->c≠i2->s.heap.get? c=some o->h'.get? c=some o)->(∃o,h'.get? e=some o/\o.cls= .type "StopIteration")->wpAny (model prog w) A (isInstance (.ref e) (.type "StopIteration")) (λr s'=>r=true/\Q none s') E {s with heap:=h'}:=λh' e kk he=>by obtain⟨o,ho,hc⟩:=he;exact wpAny_isInstance (T:="StopIteration") (b:=true) ⟨o,ho,hc⟩ isSubtype_stop ⟨rfl,hQ _ kk⟩
 refine(show wpAny _ _ (field (.ref z) 2 >>=_) _ _ _ from Jv (wpAny_field hz rfl (x:= .bool false) rfl (show wpAny _ _ (field (.ref z) 3 >>=_) _ _ _ from Jv (wpAny_field hz rfl (x:= .ref TI) rfl (Jv (wpAny_seqItems EC rfl (show wpAny _ _ (Builtin.SmallTypes.ownedTupleIsFree (.ref z) >>=_) _ _ _ from Jv ?_)))))));unfold Builtin.SmallTypes.ownedTupleIsFree;refine Jv (wpAny_field hz rfl (x:= .none) rfl (Jy ?_));simp only[if_true];refine Jv (wpAny_rule (Jv (wpAny_field hz rfl (x:= .ref TO) rfl (Jv (J6 hz (by simp) λg1 z1 e1=>Jv ?_)))))
 replace z1:IsZip g1 z TI TO .ellipsis:=z1
 simp only[List.zipIdx_cons,List.zipIdx_nil,List.forIn_cons,List.forIn_nil];refine Jv (Jv (wpAny_onRaise ?_));show wpAny _ _ (Builtin.SmallTypes.nextOf (.ref i1) >>=_) _ _ _;cases hx:xs[k1]? with
 | none=>
  refine Jv (f9 hh (h1.at λo q=>e1.extBut _ o D.i1z q) (gE.at λo q=>e1.extBut _ o O1.z q) hx λg2 e e2 he=>?_);obtain⟨oe,yg,B5⟩:=he;have z2:IsZip g2 z TI TO .ellipsis:=e2 _ _ D.i1z.symm z1;have ED:e≠z:=λx=>by subst x;rw[z2] at yg;cases yg;simp at B5
  refine J6 z2 (by simp) λg3 _ e3=>?_
  refine Jv (wpAny_mono (stop g3 e (λc o c1 _ c3 _ x=>e3.extBut _ _ c1 (e2 _ _ c3 (e1.extBut _ _ c1 x))) ⟨oe,e3.extBut _ _ ED yg,B5⟩) (λr s' q=>?_) λ_ _ q=>q);obtain⟨rfl,q⟩:=q;exact Jy q
 | some x=>
  have hy:ys[k2]?=none:=by rcases Am with h | h;rw[hx] at h;cases h;exact h
  refine Jv (dD (h1.at λo q=>e1.extBut _ o D.i1z q) (gE.at λo q=>e1.extBut _ o O1.z q) hx λg2 j1 e2=>Jy ?_);have t2:IsPair g2 TO a b:=e2.extBut _ _ D.TOi1 (e1.extBut _ _ D.TOz FV);refine Jv (wpAny_seqItems t2 rfl (Jv (wpAny_updateSeq_pair t2 λg3 t3 e3=>Jv (wpAny_letGo (Jy ?_)))));refine Jv (Jv (wpAny_onRaise (show wpAny _ _ (Builtin.SmallTypes.nextOf (.ref i2) >>=_) _ _ _ from Jv (f9 hh (h2.at λo q=>e3.extBut _ o D.TOi2.symm (e2.extBut _ o D.i12.symm (e1.extBut _ o D.i2z q))) (gA.at λo q=>e3.extBut _ o O2.o (e2.extBut _ o O2.a (e1.extBut _ o O2.z q))) hy λg4 e e4 he=>?_))));obtain⟨oe,yg,B5⟩:=he;have z4:IsZip g4 z TI TO .ellipsis:=e4 _ _ D.i2z.symm (e3.extBut _ _ D.TOz.symm (e2.extBut _ _ D.i1z.symm z1));have ED:e≠z:=λx=>by subst x;rw[z4] at yg;cases yg;simp at B5
  refine J6 z4 (by simp) λg5 _ e5=>?_
  refine Jv (wpAny_mono (stop g5 e (λc o c1 c2 c3 c4 x=>e5.extBut _ _ c1 (e4 _ _ c4 (e3.extBut _ _ c2 (e2.extBut _ _ c3 (e1.extBut _ _ c1 x))))) ⟨oe,e5.extBut _ _ ED yg,B5⟩) (λr s' q=>?_) λ_ _ q=>q);obtain⟨rfl,q⟩:=q;exact Jy q
end
noncomputable def eQ:Bool->Addr->Obj
 | false,l=>{cls:= .type "list_iterator",data:= .fields #[.ref l,.int 0 0]}
 | true,l=>{cls:= .type "tuple_iterator",data:= .fields #[.ref l,.int 0 0]}
theorem i7:∀{b:Bool} {h:Heap} {i l:Addr},h.get? i=some (eQ b l)->bh b h i l 0
 | false,_,_,_,e=>⟨_,e,rfl,rfl⟩
 | true,_,_,_,e=>⟨_,e,rfl,rfl⟩
theorem gg (b:Bool) (l:Addr):(eQ b l).isFreed=false:=by cases b <;> rfl
noncomputable abbrev Du (h:Heap) (b1:Bool) (l1:Addr):Heap:=h.push (eQ b1 l1)
noncomputable abbrev DD (h:Heap) (b1 b2:Bool) (l1 l2:Addr):Heap:=(Du h b1 l1).push (eQ b2 l2)
noncomputable abbrev DC (h:Heap) (b1 b2:Bool) (l1 l2:Addr):Heap:=(DD h b1 b2 l1 l2).push {cls:= .type "tuple",data:= .seq #[.ref h.objs.size,.ref (Du h b1 l1).objs.size]}
noncomputable abbrev Dz (h:Heap) (b1 b2:Bool) (l1 l2:Addr):Heap:=(DC h b1 b2 l1 l2).push {cls:= .type "tuple",data:= .seq #[.none,.none]}
noncomputable abbrev AJ (h:Heap) (b1 b2:Bool) (l1 l2:Addr):Heap:=(Dz h b1 b2 l1 l2).push {cls:= .type "zip",data:= .fields #[.none,.bool false,.bool false,.ref (DD h b1 b2 l1 l2).objs.size,.ref (DC h b1 b2 l1 l2).objs.size]}
theorem c9.push {b:Bool} {h:Heap} {l:Addr} {xs:Array Value} (x:c9 b h l xs) (o:Obj):c9 b (h.push o) l xs:=x.at λ_ e=>Jx _ e
theorem uz (b1 b2:Bool) (l1 l2:Addr) (xs ys:Array Value):
  Meets (Builtin.«zip.__new__» ⟨[.type "zip",.ref l1,.ref l2],[]⟩) (λ_ R s=>c9 b1 s.heap l1 xs/\c9 b2 s.heap l2 ys/\R (.ok (.ret (.ref (Dz s.heap b1 b2 l1 l2).objs.size))) {s with heap:=AJ s.heap b1 b2 l1 l2}):=
 .of_wp λprog w A R s h=>by
  obtain⟨hp,g,d,tk,os⟩:=s;obtain⟨gE,gA,h⟩:=h;have Em:=sub_zip;have DF:=gA.push (eQ b1 l1);cases b1 <;> cases b2
  ·have k1:Heap.IsList (Shared.heap ⟨hp,g,d,tk,os⟩) l1 xs:=gE;have k2:Heap.IsList (Shared.heap ⟨hp.push {cls:= .type "list_iterator",data:= .fields #[.ref l1,.int 0 0]},g,d,tk,os⟩) l2 ys:=DF
   wp_walk using wpAny_pyIter_list k1,wpAny_pyIter_list k2
   exact⟨_,rfl,h⟩
  ·have k1:Heap.IsList (Shared.heap ⟨hp,g,d,tk,os⟩) l1 xs:=gE;have k2:Heap.IsTuple (Shared.heap ⟨hp.push {cls:= .type "list_iterator",data:= .fields #[.ref l1,.int 0 0]},g,d,tk,os⟩) l2 ys:=DF
   wp_walk using wpAny_pyIter_list k1,wpAny_pyIter_tuple k2
   exact⟨_,rfl,h⟩
  ·have k1:Heap.IsTuple (Shared.heap ⟨hp,g,d,tk,os⟩) l1 xs:=gE;have k2:Heap.IsList (Shared.heap ⟨hp.push {cls:= .type "tuple_iterator",data:= .fields #[.ref l1,.int 0 0]},g,d,tk,os⟩) l2 ys:=DF
   wp_walk using wpAny_pyIter_tuple k1,wpAny_pyIter_list k2
   exact⟨_,rfl,h⟩
  ·have k1:Heap.IsTuple (Shared.heap ⟨hp,g,d,tk,os⟩) l1 xs:=gE;have k2:Heap.IsTuple (Shared.heap ⟨hp.push {cls:= .type "tuple_iterator",data:= .fields #[.ref l1,.int 0 0]},g,d,tk,os⟩) l2 ys:=DF
   wp_walk using wpAny_pyIter_tuple k1,wpAny_pyIter_tuple k2
   exact⟨_,rfl,h⟩
section
variable {prog:Program} {w:World} {A:Around} {E:Value->Shared->Prop} {s:Shared}
theorem qP {b1 b2:Bool} {l1 l2:Addr} {xs ys:Array Value} {Q:Value->Shared->Prop} (gE:c9 b1 s.heap l1 xs) (gA:c9 b2 s.heap l2 ys)
  (h:∀h',IsZip h' (s.heap.objs.size + 4) (s.heap.objs.size + 2) (s.heap.objs.size + 3) .none->IsPair h' (s.heap.objs.size + 2) (.ref s.heap.objs.size) (.ref (s.heap.objs.size + 1))->IsPair h' (s.heap.objs.size + 3) .none .none->
   bh b1 h' s.heap.objs.size l1 0->bh b2 h' (s.heap.objs.size + 1) l2 0->(∀c o,s.heap.get? c=some o->h'.get? c=some o)->Q (.ref (s.heap.objs.size + 4)) {s with heap:=h'}):wpAny (model prog w) A (call (.type "zip") [.ref l1,.ref l2]) Q E s:=by
 refine callType_new F.called_zip (by decide) (F.typeCall_zip_2 _ _) (F.newCall_zip_2 _ _) (λobj=>F.args_object_init_3 obj _ _) F.entry_zip_new (uz b1 b2 l1 l2 xs ys) ⟨gE,gA,?_⟩;have y1:(Du s.heap b1 l1).objs.size=s.heap.objs.size + 1:=J3 ..;have y2:(DD s.heap b1 b2 l1 l2).objs.size=s.heap.objs.size + 2:=by rw[J3,y1]
 have y3:(DC s.heap b1 b2 l1 l2).objs.size=s.heap.objs.size + 3:=by rw[J3,y2]
 have y4:(Dz s.heap b1 b2 l1 l2).objs.size=s.heap.objs.size + 4:=by rw[J3,y3]
 have g5:(AJ s.heap b1 b2 l1 l2).get? (Dz s.heap b1 b2 l1 l2).objs.size=some _:=JG _ rfl;have g4:(AJ s.heap b1 b2 l1 l2).get? (DC s.heap b1 b2 l1 l2).objs.size=some _:=Jx _ (JG _ rfl);have g3:(AJ s.heap b1 b2 l1 l2).get? (DD s.heap b1 b2 l1 l2).objs.size=some _:=Jx _ (Jx _ (JG _ rfl));have g2:(AJ s.heap b1 b2 l1 l2).get? (Du s.heap b1 l1).objs.size=some _:=Jx _ (Jx _ (Jx _ (JG _ (gg b2 l2))));have g1:(AJ s.heap b1 b2 l1 l2).get? s.heap.objs.size=some _:=Jx _ (Jx _ (Jx _ (Jx _ (JG _ (gg b1 l1)))));show _/\_;rw[y2,y3,y4] at g5;rw[y1,y2] at g3;rw[y3] at g4;rw[y1] at g2;rw[y4];exact⟨⟨_,g5,rfl⟩,h _ g5 g3 g4 (i7 g1) (i7 g2) λc o x=>Jx _ (Jx _ (Jx _ (Jx _ (Jx _ x))))⟩
end
noncomputable def jm:Bool->List V->HO
 | false,xs=> .lst xs
 | true,xs=> .tup xs
theorem kW {b:Bool} {xs ys:List V} (h:jm b xs=jm b ys):xs=ys:=by
 cases b with
 | false=>injection h
 | true=>injection h
noncomputable def Fe (b1 b2:Bool) (l1 l2:Addr):It where
 go:=λi H=>∃xs ys x y,H l1=some (jm b1 xs)/\H l2=some (jm b2 ys)/\xs[i]?=some x/\ys[i]?=some y
 yld:=λi H v H'=>∃p x y,v= .ref p/\H p=none/\H'=upd H p (.tup [x,y])/\∀xs ys,H l1=some (jm b1 xs)->H l2=some (jm b2 ys)->xs[i]?=some x/\ys[i]?=some y
 stop:=λi H=>∃xs ys,H l1=some (jm b1 xs)/\H l2=some (jm b2 ys)/\(xs.length<=i\/ys.length<=i)
theorem cv {X:Cx} {pins:List (Addr×Obj)} {s:Shared} {σ:L2.St} {H:Hp} (I:Inv X pins σ H s) {b:Bool} {l:Addr} {xs:List V} (h:H l=some (jm b xs)):∃its:List Value,au xs its/\c9 b s.heap l its.toArray:=by
 cases b with
 | false=>obtain⟨its,r,p,_⟩:=I.list (.inl (.inl h));exact⟨its,r,p.isList⟩
 | true=>obtain⟨its,r,p,_⟩:=I.tuple (.inl (.inl h));exact⟨its,r,p⟩
noncomputable def Ip (b1 b2:Bool) (z TI TO i1 i2 l1 l2:Addr) (i:Nat) (h:Heap):Prop:=IsZip h z TI TO .none/\IsPair h TI (.ref i1) (.ref i2)/\(∃a b,IsPair h TO a b)/\bh b1 h i1 l1 i/\bh b2 h i2 l2 i
theorem rm {P:Program} {w:World} {K:PySem.W.Frag} {es:List Expr} {k:Nat} {tp:Pos} {b1 b2:Bool} {z TI TO i1 i2 l1 l2:Addr} (ap:uB z TI TO i1 i2):
  Turn P w K (.Tuple es k tp) (Fe b1 b2 l1 l2) [z,TI,TO,i1,i2] z (Ip b1 b2 z TI TO i1 i2 l1 l2) where
 mem:=by simp
 obj:=λi h st b hb=>by
  obtain⟨s1,s2,⟨a,b',s3⟩,s4,s5⟩:=st;simp only[JK,JL,or_false] at hb;rcases hb with rfl | rfl | rfl | rfl | rfl
  ·exact⟨_,s1,λv q=>by cases q⟩
  ·exact⟨_,s2,λv q=>by cases q⟩
  ·exact⟨_,s3,λv q=>by cases q⟩
  ·exact s4.obj
  ·exact s5.obj
 keep:=λi h h' st kk=>by obtain⟨s1,s2,⟨a,b',s3⟩,s4,s5⟩:=st;exact⟨kk z (by simp) _ s1,kk TI (by simp) _ s2,⟨a,b',kk TO (by simp) _ s3⟩,s4.at λo e=>kk i1 (by simp) o e,s5.at λo e=>kk i2 (by simp) o e⟩
 item:=by
  intro X hP hw hK hc i pins s σ H E I hf st hg;subst hP hw hK;obtain⟨xs,ys,x,y,gE,gA,hx,hy⟩:=hg;obtain⟨s1,s2,⟨a,b',s3⟩,s4,s5⟩:=st;obtain⟨cu,r1,p1⟩:=cv I gE;obtain⟨aE,r2,p2⟩:=cv I gA;obtain⟨u1,rQ,F7⟩:=r1.get hx;obtain⟨u2,IS,HI⟩:=r2.get hy;have ne:∀{l:Addr} {o:HO},H l=some o->∀b∈[z,TI,TO,i1,i2],l≠b:=λ {l o} hl b hb e=>by subst e;rw[(hf l hb).1] at hl;cases hl
  have off:∀{l:Addr} {o:HO},H l=some o->fW z TO i1 i2 l:=λ {l o} hl=>⟨ne hl z (by simp),ne hl TO (by simp),ne hl i1 (by simp),ne hl i2 (by simp)⟩
  refine qI ap (off gE) (off gA) s1 s2 s3 s4 s5 p1 p2 (by simpa using rQ) (by simpa using IS) λh' a1 a2 a3 a4 a5 a7=>⟨_,rfl,?_⟩
  refine wpAny_letOwnedTupleGo_zip (s:={s with heap:=h'}) a1 λh2 c1 c2=>?_
  have EJ:s.heap.objs.size≠z:=λe=>by have:=JI s1;rw[<-e] at this;exact Nat.lt_irrefl _ this
  have D1:IsPair h2 TI (.ref i1) (.ref i2):=(c2.2 TI ap.TIz).trans (a7 TI _ ap.TIz ap.TITO ap.TIi1 ap.TIi2 s2);have Ga:h2.get? s.heap.objs.size=some {cls:= .type "tuple",data:= .seq #[u1,u2]}:=(c2.2 _ EJ).trans a5;have kk:∀b o,b∉[z,TI,TO,i1,i2]->s.heap.get? b=some o->h2.get? b=some o:=λb o hb e=>by simp only[JK,JL,or_false,not_or] at hb;exact(c2.2 b hb.1).trans (a7 b o hb.1 hb.2.2.1 hb.2.2.2.1 hb.2.2.2.2 e)
  have lt:∀{b:Addr} {o:Obj},s.heap.get? b=some o->b≠s.heap.objs.size:=λe=>J4 (JI e)
  have sF:∀b u,H b=some u->b∉[z,TI,TO,i1,i2]:=λb u e hb=>by rw[(hf b hb).1] at e;cases e
  have qU:H s.heap.objs.size=none:=I.fresh;have I2:Inv X pins σ (upd H s.heap.objs.size (.tup [x,y])) {s with heap:=h2,toks:=s.toks}:=by
   refine I.step (g':=s.gens) (d':=s.drawn) (ch:=[z,TI,TO,i1,i2]) (λb hb=>⟨(hf b hb).2.2.2.1,(hf b hb).2.1,(hf b hb).2.2.2.2.1,(hf b hb).2.2.2.2.2⟩) (λb o _ _ hb e _=>kk b o hb e) (λb o _ _ hb e _=>⟨o.slots,kk b o hb e⟩)
    (λb o hb e n=>by rw[ar (lt e)];exact n) (λb o hb e=>⟨o,kk b o hb e⟩) (λb zs e=>by rw[ar (az e qU)];exact e) (λb o u e=>by rw[ar (az e qU)];exact e)
    (λb ps e=>⟨#[],by rw[ar (az e qU),e];simp⟩) (λm hm=>?_) (λb u e=>?_) I.bare
   ·obtain⟨o,dR,ep,ho,rr⟩:=hm;exact⟨o,dR,ep,kk _ o (λhb=>(hf _ hb).2.1 rfl) ho,rr⟩
   ·by_cases hb:b=s.heap.objs.size
    ·subst hb;rw[aA] at e;cases e;exact⟨by show 2<=sizeLine;decide,[u1,u2],.cons F7 (.cons HI .nil),_,Ga,rfl,0,rfl⟩
    ·rw[ar hb] at e;refine(I.hok b u e).iY (λc v hc q=>kk c v ?_ q) (λc q=>by rw[ar (az q qU)];exact q) λc zs q=>by rw[ar (az q qU)];exact q
     rcases hc with rfl | hc
     ·exact sF c u e
     ·exact sF c _ hc
  refine⟨.ref s.heap.objs.size,_,I2,rfl,⟨s.heap.objs.size,x,y,rfl,qU,rfl,λmv Do q1 q2=>?_⟩,⟨c1,D1,⟨u1,u2,(c2.2 TO ap.TOz).trans a2⟩,a3.at λo e=>(c2.2 i1 ap.i1z).trans e,a4.at λo e=>(c2.2 i2 ap.i2z).trans e⟩,λb hb=>?_⟩
  ·rw[gE] at q1;rw[gA] at q2;rw[kW (Option.some.inj q1).symm,kW (Option.some.inj q2).symm];exact⟨hx,hy⟩
  ·rw[ar (λe=>?_)]
   ·exact(hf b hb).1
   ·have q:∃o,s.heap.get? b=some o:=by
     simp only[JK,JL,or_false] at hb;rcases hb with rfl | rfl | rfl | rfl | rfl
     ·exact⟨_,s1⟩
     ·exact⟨_,s2⟩
     ·exact⟨_,s3⟩
     ·obtain⟨o,e,_⟩:=s4.obj;exact⟨o,e⟩
     ·obtain⟨o,e,_⟩:=s5.obj;exact⟨o,e⟩
    obtain⟨o,q⟩:=q;exact lt q e
 done:=by
  intro X hP hw hK hc i pins s σ H E I hf st hg;subst hP hw hK;obtain⟨xs,ys,gE,gA,Am⟩:=hg;obtain⟨s1,s2,⟨a,b',s3⟩,s4,s5⟩:=st;obtain⟨cu,r1,p1⟩:=cv I gE;obtain⟨aE,r2,p2⟩:=cv I gA;have ne:∀{l:Addr} {o:HO},H l=some o->∀b∈[z,TI,TO,i1,i2],l≠b:=λ {l o} hl b hb e=>by subst e;rw[(hf l hb).1] at hl;cases hl
  have off:∀{l:Addr} {o:HO},H l=some o->fW z TO i1 i2 l:=λ {l o} hl=>⟨ne hl z (by simp),ne hl TO (by simp),ne hl i1 (by simp),ne hl i2 (by simp)⟩
  have e1:=r1.length;have e2:=r2.length;refine um (I.ok.hd hc) ap (off gE) (off gA) s1 s2 s3 s4 s5 p1 p2 (by simp;lia) λh' kk=>⟨rfl,?_⟩
  have sF:∀b u,H b=some u->b∉[z,TI,TO,i1,i2]:=λb u e hb=>by rw[(hf b hb).1] at e;cases e
  have r4:∀b o,b∉[z,TI,TO,i1,i2]->s.heap.get? b=some o->h'.get? b=some o:=λb o hb e=>by simp only[JK,JL,or_false,not_or] at hb;exact kk b o hb.1 hb.2.2.1 hb.2.2.2.1 hb.2.2.2.2 e
  refine I.step (g':=s.gens) (d':=s.drawn) (t':=s.toks) (h':=h') (ch:=[z,TI,TO,i1,i2]) (λb hb=>⟨(hf b hb).2.2.2.1,(hf b hb).2.1,(hf b hb).2.2.2.2.1,(hf b hb).2.2.2.2.2⟩) (λb o _ _ hb e _=>r4 b o hb e) (λb o _ _ hb e _=>⟨o.slots,r4 b o hb e⟩)
   (λb o hb e n=>n) (λb o hb e=>⟨o,r4 b o hb e⟩) (λb zs e=>e) (λb o u e=>e) (λb ps e=>⟨#[],by rw[e];simp⟩) (λm hm=>?_) (λb u e=>?_) I.bare
  ·obtain⟨o,dR,ep,ho,rr⟩:=hm;exact⟨o,dR,ep,r4 _ o (λhb=>(hf _ hb).2.1 rfl) ho,rr⟩
  ·refine(I.hok b u e).iY (λc v hc q=>r4 c v ?_ q) (λc q=>q) λc zs q=>q
   rcases hc with rfl | hc
   ·exact sF c u e
   ·exact sF c _ hc
 self:=λ_ _ _ _ _ st h=>wpAny_pyIter_zip st.1 h
noncomputable def Cr (ta:TA):TI:=λσ H R=>ta σ H λvs H1=>∃b1 b2 l1 l2 xs ys,vs=[.ref l1,.ref l2]/\H1 l1=some (jm b1 xs)/\H1 l2=some (jm b2 ys)/\R (Fe b1 b2 l1 l2) H1
theorem vM {X:Cx} {es:List Expr} {k:Nat} {tp:Pos} {a b:Expr} {ta:TA} {p pos:Pos} (hg:Gl X "zip") (hm:X.mg "zip"=none) (ha:PA X [a,b] ta) (hs:starEach [a,b] X.env=[(false,eval a X.env),(false,eval b X.env)]:=by rfl) (AR:starEach [b] X.env=[(false,eval b X.env)]:=by rfl):
  PI X (.Tuple es k tp) (.Call (.Name "zip" p) [a,b] [] pos) (Cr ta):=by
 intro pins s σ H R I h;refine Call_ (gd I hg hm boot_zip (PyProof.Rows.callWith_type1 (bq (ha pos pins s σ H _ I h) λus s1 ⟨vs,H1,I1,r1,q1⟩=>?_) (by rw[hs,AR]) (by rw[AR];rfl)));obtain⟨b1,b2,l1,l2,xs,ys,e,e1,e2,q⟩:=q1;subst e;obtain⟨u,v,rfl,ru,rv⟩:=r1.two;cases ru;cases rv;obtain⟨cu,_,p1⟩:=cv I1 e1;obtain⟨aE,_,p2⟩:=cv I1 e2;refine qP p1 p2 λh' g1 g2 g3 g4 g5 kk=>?_
 refine wpAny_pyIter_zip (s:={s1 with heap:=h'}) g1 ?_;have I2:Inv X pins σ H1 {s1 with heap:=h'}:=I1.kept (t':=s1.toks) kk;refine⟨s1.heap.objs.size + 4,[s1.heap.objs.size + 4,s1.heap.objs.size + 2,s1.heap.objs.size + 3,s1.heap.objs.size,s1.heap.objs.size + 1],_,_,H1,rfl,I2,rm (l1:=l1) (l2:=l2) ⟨?_,?_,?_,?_,?_,?_,?_,?_,?_,?_⟩,⟨g1,g2,⟨_,_,g3⟩,g4,g5⟩,λb hb=>?_,q⟩
 iterate 10 (first | (apply J4;lia) | (apply Nat.ne_of_gt;lia))
 have lG:s1.heap.objs.size<=b:=by simp only[JK,JL,or_false] at hb;rcases hb with h | h | h | h | h <;> (rw[h];first | exact Nat.le_add_right _ _ | exact JE _)
 exact I1.n9 lG (I1.hok.fresh lG)
open AutoSeq1 (wpAny_loadPart')
theorem uQ {prog:Program} {w:World} {A:Around} (hh:A.handled=none) (b:Bool) (it l:Addr) (f7:l≠it) (items:Array Value):
  Draws prog w A it [it,l] items.size (λi v=>items[i]?=some v) (λi h=>bh b h it l i/\c9 b h l items) where
 live:=λ_ _ st=>let ⟨o,ho,_⟩:=st.1.obj;⟨o,ho⟩
 frame:=λ_ _ _ st hk=>⟨st.1.at λo e=>hk it (by simp) o e,st.2.at λo e=>hk l (by simp) o e⟩
 item:=λi s Q E hi st hQ=>by
  refine dD st.1 st.2 (x:=items[i]) (by simp[hi]) λh' FQ hs'=>?_
  exact hQ _ h' s.toks (by simp[hi]) ⟨FQ,st.2.at λo e=>hs'.extBut _ o f7 e⟩ hs'
 done:=λs Q E st hE=>f9 hh st.1 st.2 (by simp) hE
theorem rE (b:Bool) (l:Addr) (xs:Array Value):
  Meets (Builtin.«enumerate.__new__» ⟨[.type "enumerate",.ref l],[]⟩) (λ_ R s=>c9 b s.heap l xs/\
   R (.ok (.ret (.ref (s.heap.push (eQ b l)).objs.size)))
    {s with heap:=(s.heap.push (eQ b l)).push {cls:= .type "enumerate",data:= .fields #[.none,.bool false,.ref s.heap.objs.size,rawInt 0,.none,.none]}}):=
 .of_wp λprog w A R s h=>by
  obtain⟨hp,g,d,tk,os⟩:=s;obtain⟨hl,h⟩:=h;have Em:=sub_enumerate;cases b
  ·have hL:Heap.IsList (Shared.heap ⟨hp,g,d,tk,os⟩) l xs:=hl
   wp_walk
   refine wpAny_stack_any λst=>Jy ?_
   split
   ·rename_i c _ _ _ _ _;cases (c==Value.type "enumerate")
    ·wp_walk using wpAny_pyIter_list hL
     exact⟨_,rfl,h⟩
    ·wp_walk using wpAny_pyIter_list hL
     exact⟨_,rfl,h⟩
   ·wp_walk using wpAny_pyIter_list hL
    exact⟨_,rfl,h⟩
  ·have hL:Heap.IsTuple (Shared.heap ⟨hp,g,d,tk,os⟩) l xs:=hl
   wp_walk
   refine wpAny_stack_any λst=>Jy ?_
   split
   ·rename_i c _ _ _ _ _;cases (c==Value.type "enumerate")
    ·wp_walk using wpAny_pyIter_tuple hL
     exact⟨_,rfl,h⟩
    ·wp_walk using wpAny_pyIter_tuple hL
     exact⟨_,rfl,h⟩
   ·wp_walk using wpAny_pyIter_tuple hL
    exact⟨_,rfl,h⟩
section
variable {prog:Program} {w:World} {A:Around} {E:Value->Shared->Prop} {s:Shared}
theorem oV {b:Bool} {l:Addr} {xs:Array Value} {Q:Value->Shared->Prop} (hl:c9 b s.heap l xs)
  (h:∀h',IsEnum h' (s.heap.objs.size + 1) s.heap.objs.size 0 .none->bh b h' s.heap.objs.size l 0->(∀c o,s.heap.get? c=some o->h'.get? c=some o)->Q (.ref (s.heap.objs.size + 1)) {s with heap:=h'}):
  wpAny (model prog w) A (call (.type "enumerate") [.ref l]) Q E s:=by
 refine callType_new F.called_enumerate (by decide) (F.typeCall_enumerate_1 _) (F.newCall_enumerate_1 _) (λobj=>F.args_object_init_2 obj _) F.entry_enumerate_new
  (rE b l xs) ⟨hl,?_⟩
 have hz:(s.heap.push (eQ b l)).objs.size=s.heap.objs.size + 1:=J3 ..;have he:IsEnum ((s.heap.push (eQ b l)).push {cls:= .type "enumerate",data:= .fields #[.none,.bool false,.ref s.heap.objs.size,rawInt 0,.none,.none]}) (s.heap.push (eQ b l)).objs.size s.heap.objs.size 0 .none:=JG _ rfl;have g1:=Jx {cls:= .type "enumerate",data:= .fields #[.none,.bool false,.ref s.heap.objs.size,rawInt 0,.none,.none]} (JG s.heap (gg b l));show _/\_;rw[hz] at he;rw[hz];exact⟨⟨_,he,rfl⟩,h _ he (i7 g1) λc o x=>Jx _ (Jx _ x)⟩
end
noncomputable def E0 (b:Bool) (l:Addr):It where
 go:=λi H=>∃xs x,H l=some (jm b xs)/\xs[i]?=some x
 yld:=λi H v H'=>∃p x,v= .ref p/\H p=none/\H'=upd H p (.tup [.int i,x])/\∀xs,H l=some (jm b xs)->xs[i]?=some x
 stop:=λi H=>∃xs,H l=some (jm b xs)/\xs.length=i
noncomputable def eT (b:Bool) (e it l:Addr) (i:Nat) (h:Heap):Prop:=(∃old,IsEnum h e it i old)/\bh b h it l i
theorem nY {P:Program} {w:World} {K:PySem.W.Frag} {es:List Expr} {k:Nat} {tp:Pos} {b:Bool} {e it l:Addr} (ap:e≠it):
  Turn P w K (.Tuple es k tp) (E0 b l) [e,it] e (eT b e it l) where
 mem:=by simp
 obj:=λi h st c hb=>by
  obtain⟨⟨old,s1⟩,s4⟩:=st;simp only[JK,JL,or_false] at hb;rcases hb with rfl | rfl
  ·exact⟨_,s1,λv q=>by cases q⟩
  ·exact s4.obj
 keep:=λi h h' st kk=>by obtain⟨⟨old,s1⟩,s4⟩:=st;exact⟨⟨old,kk e (by simp) _ s1⟩,s4.at λo q=>kk it (by simp) o q⟩
 item:=by
  intro X hP hw hK hc i pins s σ H E I hf st hg;subst hP hw hK;obtain⟨xs,x,gE,hx⟩:=hg;obtain⟨⟨old,s1⟩,s4⟩:=st;obtain⟨cu,r1,p1⟩:=cv I gE;obtain⟨u1,rQ,F7⟩:=r1.get hx;have ne:∀{l:Addr} {o:HO},H l=some o->∀c∈[e,it],l≠c:=λ {l o} hl c hb q=>by subst q;rw[(hf l hb).1] at hl;cases hl
  have cO:i < cu.toArray.size:=by have:=(JC.mp rQ).1;simpa using this
  refine wpAny_pyNext_enum_itemD (uQ (A:=X.A.in1) (I.ok.hd hc) b it l (ne gE it (by simp)) cu.toArray) s1 ⟨s4,p1⟩ cO ap (λhm=>?_) λy h' tk hy a1 a2 a3 a4 a5=>⟨_,rfl,?_⟩
  ·rcases JK.mp hm with q | hm
   ·exact ap q
   ·exact ne gE e (by simp) (J7.mp hm).symm
  have HS:y=u1:=by
   have q:cu.toArray[i]?=some u1:=by simpa using rQ
   rw[q] at hy;exact(Option.some.inj hy).symm
  subst HS;refine wpAny_letOwnedTupleGo_enum (s:={s with heap:=h',toks:=tk + 1}) a1 λh2 c1 c2=>?_
  have EJ:s.heap.objs.size≠e:=λq=>by have:=JI s1;rw[<-q] at this;exact Nat.lt_irrefl _ this
  have Ga:h2.get? s.heap.objs.size=some {cls:= .type "tuple",data:= .seq #[.int i tk,y]}:=(c2.2 _ EJ).trans a3;have kk:∀b o,b∉[e,it]->s.heap.get? b=some o->h2.get? b=some o:=λb o hb q=>by simp only[JK,JL,or_false,not_or] at hb;exact(c2.2 b hb.1).trans (a5 b o hb.1 hb.2 q)
  have lt:∀{b:Addr} {o:Obj},s.heap.get? b=some o->b≠s.heap.objs.size:=λe=>J4 (JI e)
  have sF:∀b u,H b=some u->b∉[e,it]:=λb u q hb=>by rw[(hf b hb).1] at q;cases q
  have qU:H s.heap.objs.size=none:=I.fresh;have I2:Inv X pins σ (upd H s.heap.objs.size (.tup [.int i,x])) {s with heap:=h2,toks:=tk + 1}:=by
   refine I.step (g':=s.gens) (d':=s.drawn) (ch:=[e,it]) (λb hb=>⟨(hf b hb).2.2.2.1,(hf b hb).2.1,(hf b hb).2.2.2.2.1,(hf b hb).2.2.2.2.2⟩) (λb o _ _ hb e _=>kk b o hb e) (λb o _ _ hb e _=>⟨o.slots,kk b o hb e⟩)
    (λb o hb e n=>by rw[ar (lt e)];exact n) (λb o hb e=>⟨o,kk b o hb e⟩) (λb zs e=>by rw[ar (az e qU)];exact e) (λb o u e=>by rw[ar (az e qU)];exact e)
    (λb ps e=>⟨#[],by rw[ar (az e qU),e];simp⟩) (λm hm=>?_) (λb u q=>?_) I.bare
   ·obtain⟨o,dR,ep,ho,rr⟩:=hm;exact⟨o,dR,ep,kk _ o (λhb=>(hf _ hb).2.1 rfl) ho,rr⟩
   ·by_cases hb:b=s.heap.objs.size
    ·subst hb;rw[aA] at q;cases q;exact⟨by show 2<=sizeLine;decide,[.int i tk,y],.cons ⟨_,rfl⟩ (.cons F7 .nil),_,Ga,rfl,0,rfl⟩
    ·rw[ar hb] at q;refine(I.hok b u q).iY (λc v hc z=>kk c v ?_ z) (λc z=>by rw[ar (az z qU)];exact z) λc zs z=>by rw[ar (az z qU)];exact z
     rcases hc with rfl | hc
     ·exact sF c u q
     ·exact sF c _ hc
  refine⟨.ref s.heap.objs.size,_,I2,rfl,⟨s.heap.objs.size,x,rfl,qU,rfl,λmv q1=>?_⟩,⟨⟨_,by simpa using c1⟩,a2.1.at λo q=>(c2.2 it ap.symm).trans q⟩,λb hb=>?_⟩
  ·rw[gE] at q1;rw[kW (Option.some.inj q1).symm];exact hx
  ·rw[ar (λq=>?_)]
   ·exact(hf b hb).1
   ·have z:∃o,s.heap.get? b=some o:=by
     simp only[JK,JL,or_false] at hb;rcases hb with rfl | rfl
     ·exact⟨_,s1⟩
     ·obtain⟨o,e,_⟩:=s4.obj;exact⟨o,e⟩
    obtain⟨o,z⟩:=z;exact lt z q
 done:=by
  intro X hP hw hK hc i pins s σ H E I hf st hg;subst hP hw hK;obtain⟨xs,gE,Am⟩:=hg;obtain⟨⟨old,s1⟩,s4⟩:=st;obtain⟨cu,r1,p1⟩:=cv I gE;have ne:∀{l:Addr} {o:HO},H l=some o->∀c∈[e,it],l≠c:=λ {l o} hl c hb q=>by subst q;rw[(hf l hb).1] at hl;cases hl
  have e1:=r1.length;have hn:cu.toArray.size=i:=by simp;lia
  refine wpAny_pyNext_enum_endD (uQ (A:=X.A.in1) (I.ok.hd hc) b it l (ne gE it (by simp)) cu.toArray) s1 (by rw[hn];exact⟨s4,p1⟩) λh' kk=>⟨rfl,?_⟩
  have sF:∀b u,H b=some u->b∉[e,it]:=λb u q hb=>by rw[(hf b hb).1] at q;cases q
  have r4:∀b o,b∉[e,it]->s.heap.get? b=some o->h'.get? b=some o:=λb o hb q=>by simp only[JK,JL,or_false,not_or] at hb;exact kk b o hb.2 q
  refine I.step (g':=s.gens) (d':=s.drawn) (t':=s.toks) (h':=h') (ch:=[e,it]) (λb hb=>⟨(hf b hb).2.2.2.1,(hf b hb).2.1,(hf b hb).2.2.2.2.1,(hf b hb).2.2.2.2.2⟩) (λb o _ _ hb e _=>r4 b o hb e) (λb o _ _ hb e _=>⟨o.slots,r4 b o hb e⟩)
   (λb o hb e n=>n) (λb o hb e=>⟨o,r4 b o hb e⟩) (λb zs e=>e) (λb o u e=>e) (λb ps e=>⟨#[],by rw[e];simp⟩) (λm hm=>?_) (λb u q=>?_) I.bare
  ·obtain⟨o,dR,ep,ho,rr⟩:=hm;exact⟨o,dR,ep,r4 _ o (λhb=>(hf _ hb).2.1 rfl) ho,rr⟩
  ·refine(I.hok b u q).iY (λc v hc z=>r4 c v ?_ z) (λc z=>z) λc zs z=>z
   rcases hc with rfl | hc
   ·exact sF c u q
   ·exact sF c _ hc
 self:=λ_ _ _ _ _ st h=>by obtain⟨⟨old,s1⟩,_⟩:=st;exact wpAny_pyIter_enum s1 h
noncomputable def yP (ta:TA):TI:=λσ H R=>ta σ H λvs H1=>∃b l xs,vs=[.ref l]/\H1 l=some (jm b xs)/\R (E0 b l) H1
theorem tJ {X:Cx} {es:List Expr} {k:Nat} {tp:Pos} {a:Expr} {ta:TA} {p pos:Pos} (hg:Gl X "enumerate") (hm:X.mg "enumerate"=none) (ha:PA X [a] ta) (hs:starEach [a] X.env=[(false,eval a X.env)]:=by rfl):
  PI X (.Tuple es k tp) (.Call (.Name "enumerate" p) [a] [] pos) (yP ta):=by
 intro pins s σ H R I h;refine Call_ (gd I hg hm boot_enumerate (PyProof.Rows.callWith_type1 (bq (ha pos pins s σ H _ I h) λus s1 ⟨vs,H1,I1,r1,q1⟩=>?_) (by rw[hs];rfl) rfl));obtain⟨b,l,xs,e,e1,q⟩:=q1;subst e;obtain⟨u,rfl,ru⟩:=r1.one;cases ru;obtain⟨cu,_,p1⟩:=cv I1 e1;refine oV p1 λh' g1 g2 kk=>?_
 refine wpAny_pyIter_enum (s:={s1 with heap:=h'}) g1 ?_;have I2:Inv X pins σ H1 {s1 with heap:=h'}:=I1.kept (t':=s1.toks) kk;refine⟨s1.heap.objs.size + 1,[s1.heap.objs.size + 1,s1.heap.objs.size],_,_,H1,rfl,I2,nY (l:=l) (Nat.succ_ne_self _),⟨⟨_,g1⟩,g2⟩,λc hb=>?_,q⟩;have lG:s1.heap.objs.size<=c:=by simp only[JK,JL,or_false] at hb;rcases hb with h | h <;> (rw[h];first | exact Nat.le_add_right _ _ | exact JE _)
 exact I1.n9 lG (I1.hok.fresh lG)
end Mx
end
section
namespace MxTim
open PySem PySem.W PyProof.Rows
noncomputable def HH:Bool->Keyed->Array Keyed->Nat->Nat->Nat->StateT SortSt Sem (Option Nat):=sortPriv% PySem.Builtin.gallop
section
variable {O:KeyOrd} {ky:Keyed->O.α}
noncomputable def le (O:KeyOrd) (ky:Keyed->O.α) (x y:Keyed):Prop:=O.kle (ky x) (ky y)
end
noncomputable abbrev SS:=Option (Array Keyed)×Array Keyed×Nat×Nat×Nat×Nat
noncomputable def GS (x y o:Array Keyed) (i j:Nat):Array Keyed:=o++x.extract i x.size++y.extract j y.size
noncomputable def Ge (x y o:Array Keyed) (i j:Nat):Array Keyed:=o++y.extract j y.size++x.extract i x.size
noncomputable def Ey (x y:Array Keyed) (mg:Nat) (r:SS):StateT SortSt Sem (ForInStep SS):=do
 let e<-elem' y r.2.2.2.1
 let f<-elem' x r.2.2.1
 let c<-lt' e f
 match c with
 | some yw=>
  if yw=true then do
   let e<-elem' y r.2.2.2.1
   if (r.2.2.2.1 + 1==y.size)=true then pure (.done (some (GS x y (r.2.1.push e) r.2.2.1 (r.2.2.2.1 + 1)),r.2.1.push e,r.2.2.1,r.2.2.2.1 + 1,0,r.2.2.2.2.2 + 1))
   else if r.2.2.2.2.2 + 1>=mg then pure (.done (none,r.2.1.push e,r.2.2.1,r.2.2.2.1 + 1,0,r.2.2.2.2.2 + 1))
   else pure (.yield (none,r.2.1.push e,r.2.2.1,r.2.2.2.1 + 1,0,r.2.2.2.2.2 + 1))
  else do
   let f<-elem' x r.2.2.1
   if (r.2.2.1 + 1 + 1==x.size)=true then pure (.done (some (Ge x y (r.2.1.push f) (r.2.2.1 + 1) r.2.2.2.1),r.2.1.push f,r.2.2.1 + 1,r.2.2.2.1,r.2.2.2.2.1 + 1,0))
   else if r.2.2.2.2.1 + 1>=mg then pure (.done (none,r.2.1.push f,r.2.2.1 + 1,r.2.2.2.1,r.2.2.2.2.1 + 1,0))
   else pure (.yield (none,r.2.1.push f,r.2.2.1 + 1,r.2.2.2.1,r.2.2.2.2.1 + 1,0))
 | _=>pure (.done (some (GS x y r.2.1 r.2.2.1 r.2.2.2.1),r.2.1,r.2.2.1,r.2.2.2.1,r.2.2.2.2.1,r.2.2.2.2.2))
noncomputable abbrev GH:=Option (Array Keyed)×Nat×Nat×Array Keyed×Nat×Nat×Nat
noncomputable def zW (x y o:Array Keyed) (i j:Nat):Array Keyed:=x.extract 0 i++y.extract 0 j++o.reverse
noncomputable def C7 (x y o:Array Keyed) (i j:Nat):Array Keyed:=y.extract 0 j++x.extract 0 i++o.reverse
noncomputable def GC (x y o:Array Keyed) (i j mg ca cb:Nat):StateT SortSt Sem (ForInStep GH):=do
 let e<-elem' x (i - 1)
 if (i - 1==0)=true then pure (.done (some (zW x y (o.push e) (i - 1) j),i - 1,j,o.push e,mg,ca,cb))
 else if (decide (ca < 7)&&decide (cb < 7))=true then pure (.done (none,i - 1,j,o.push e,mg,ca,cb))
 else pure (.yield (none,i - 1,j,o.push e,mg,ca,cb))
noncomputable def gA (x y o:Array Keyed) (i j mg ca GF:Nat):StateT SortSt Sem (ForInStep GH):=do
 let e<-elem' y (j - 1)
 if (j - 1==1)=true then pure (.done (some (C7 x y (o.push e) i (j - 1)),i,j - 1,o.push e,mg,ca,GF))
 else do
  let f<-elem' x (i - 1)
  let r<-HH true f y 0 (j - 1) (j - 1 - 1)
  match r with
  | some k=>
   if j - 1 - k > 0 then
    if (k==1)=true then pure (.done (some (C7 x y (o.push e++(y.extract k (j - 1)).reverse) i k),i,k,o.push e++(y.extract k (j - 1)).reverse,mg,ca,j - 1 - k))
    else if (k==0)=true then pure (.done (some (zW x y (o.push e++(y.extract k (j - 1)).reverse) i k),i,k,o.push e++(y.extract k (j - 1)).reverse,mg,ca,j - 1 - k))
    else GC x y (o.push e++(y.extract k (j - 1)).reverse) i k mg ca (j - 1 - k)
   else GC x y (o.push e) i (j - 1) mg ca (j - 1 - k)
  | _=>pure (.done (some (zW x y (o.push e) i (j - 1)),i,j - 1,o.push e,mg,ca,GF))
noncomputable def back (M:Array Keyed) (p:Nat) (a:Array Keyed):Array Keyed:=M.toList.zipIdx.foldl (λb (q,j)=>b.setIfInBounds (p + j) q) a
section
variable {O:KeyOrd} {ky:Keyed->O.α} {Mem:Keyed->Prop}
variable {prog:Program} {w:World} {A:Around} {E:Value->Shared->Prop} {κ:SortKind} {s:Shared}
theorem er (n1 n2 pw z:Nat):((#[(0,n1,pw),(n1,n2,z)]:Array (Nat×Nat×Nat)).setIfInBounds 0 (0,n1 + n2,pw)).eraseIdxIfInBounds (0 + 1)=#[(0,n1 + n2,pw)]:=by simp[Array.eraseIdxIfInBounds]
end
noncomputable def aL (lo n m:Nat):StateT SortSt Sem AscSt:=
 forIn [n:m] ((none,n):AscSt) λ_ r=>do
  let x<-ltAt' (lo + r.2) (lo + r.2 - 1)
  match x with
  | some c=>if c=true then pure (.done (none,r.2)) else pure (.yield (none,r.2 + 1))
  | _=>pure (.done (some none,r.2))
noncomputable def t3 (lo n m:Nat):StateT SortSt Sem (Option Nat):=do
 reverseSlice' lo (lo + n)
 let r<-aL lo n m
 match r.1 with
 | some v=>pure v
 | none=>pure (some r.2)
noncomputable def ix (p:Array (Nat×Nat×Nat)):Nat:=if (if p.size - 2 > 0 then p[p.size - 2 - 1]?.map (·.2.1) else none).any (· < (p[p.size - 2 + 1]?.elim 0 (·.2.1))) then p.size - 2 - 1 else p.size - 2
end MxTim
end
section
namespace Mx
open PySem PySem.W PySem.Spec PyProof.Rows L2 PySem.SeqAt MxSort
inductive SK where
 | tt | ts | ti | s | i
 deriving DecidableEq
noncomputable def SK.ok:SK->D->Prop
 | .tt,d=>∃f r,d= .tup (.tup f::r)
 | .ts,d=>∃f r,d= .tup (.str f::r)
 | .ti,d=>∃f r,d= .tup (.int f::r)
 | .s,d=>∃x,d= .str x
 | .i,d=>∃x,d= .int x
noncomputable def SK.κ:SK->SortKind
 | .tt=>tuples' false
 | .ts=>tuples' true
 | .ti=>tuples' true
 | .s=>oneType'
 | .i=>oneType'
noncomputable def SK.f:SK->String
 | .tt=>"tuple"
 | .ts=>"str"
 | .s=>"str"
 | _=>"int"
section
variable {P:Program} {w:World} {H:Hp} {prog:Program} {s:Shared} {A:Around}
theorem wy {b:Bool} {n m:Nat} {Q:Bool->Shared->Prop} {v wv:Value} {us vs:List Value} {d e:D} {ds es:List D} (z:Zp A s (v::us) (wv::vs) (d::ds) (e::es))
  (hs:b=true->∀{E:Value->Shared->Prop},wpAny (model prog w) A (oneLt' true v wv) (λr s'=>r=D.lt d e/\s'=s) E s)
  (hlen:ds.length + m=es.length + n) (q:Q (D.dQ (d::ds) (e::es)) s):KatLex prog w A b (decide (n < m)) Q ((v::us).zip (wv::vs)) 0 s:=by
 cases z with
 | cons he hl z'=>
  rw[List.zip_cons_cons];rw[D.cF] at q;refine kat_cons (he prog w _ _ ?_);by_cases hde:d=e
  ·rw[(D.cq d e).mpr hde];rw[if_pos hde] at q;exact kat_yes (vU z' 1 (by lia) hlen q)
  ·rw[show D.eL d e=false by rw[D.kO];exact JX hde];rw[if_neg hde] at q;refine kat_no ?_;cases b with
   | false=>rw[show (false&&0==0)=false by rfl];exact kat_one v wv (hl hde prog w _ _ q)
   | true=>rw[show (true&&0==0)=true by rfl];exact wpAny_mono (hs rfl) (λr s' ⟨e1,e2⟩=>by subst e1 e2;exact q) λ_ _ x=>x
theorem km (hok:dm P w H s.heap) {n:Nat} (hu:A.units + n < cLine) {b:Bool} {d0 e0:D} {dr er:List D} {x y:V} {u v:Value} (hd:D.dep (.tup (d0::dr))<=n + 1) (hl:D.dP (.tup (d0::dr)) (.tup (e0::er)))
  (hs:b=true->(∃p q,d0= .str p/\e0= .str q)\/∃p q,d0= .int p/\e0= .int q) (hx:DV H x (.tup (d0::dr))) (hy:DV H y (.tup (e0::er))) (rx:RelV x u) (ry:RelV y v) {Q:Bool->Shared->Prop} {E:Value->Shared->Prop}
  (q:Q (D.lt (.tup (d0::dr)) (.tup (e0::er))) s):wpAny (model prog w) A (keyLt' (tuples' b) u v) Q E s:=by
 obtain⟨a,xs,q1,e1,e2⟩:=hx.ag;subst q1;cases rx;obtain⟨b',ys,q1,f1,f2⟩:=hy.ag;subst q1;cases ry;obtain⟨its,r1,o,ho,hc,k,vg⟩:=aq hok e1;obtain⟨aE,r2,o2,pe,mK,k2,nD⟩:=aq hok f1;obtain⟨x0,xr,rfl,AV,G8⟩:=e2.cons_inv;obtain⟨y0,yr,rfl,Gf,Ij⟩:=f2.cons_inv;cases r1 with
 | cons r10 r1r=>
  cases r2 with
  | cons r20 r2r=>
   rename_i u0 ur v0 vr;have nW:D.cj (d0::dr)<=n:=by unfold D.dep at hd;lia
   have yo:D.eO (d0::dr) (e0::er):=by unfold D.dP at hl;exact hl
   have zz:Zp A s (u0::ur) (v0::vr) (d0::dr) (e0::er):=tH hok hu (λd e x y u v hd2 gA CD B0 rx2 ry2=>vI hok n d e x y u v A hd2 hu gA CD B0 rx2 ry2) nW yo e2 f2 (.cons r10 r1r) (.cons r20 r2r);refine kat_lt ho vg pe nD ?_;have l1:(u0::ur).toArray.size=(d0::dr).length:=by rw[JA,JQ,JQ,<-r1r.length,G8.length]
   have l2:(v0::vr).toArray.size=(e0::er).length:=by rw[JA,JQ,JQ,<-r2r.length,Ij.length]
   have q':Q (D.dQ (d0::dr) (e0::er)) s:=by have z:=q;unfold D.lt at z;exact z
   refine wy zz (λhb=>?_) (by rw[l1,l2];simp only[JQ];lia) q';intro E';rcases hs hb with ⟨p,q2,rfl,rfl⟩ | ⟨p,q2,rfl,rfl⟩
   ·have z1:=AV.str_inv;have z2:=Gf.str_inv;subst z1 z2;obtain⟨t,rfl⟩:=r10;obtain⟨t',rfl⟩:=r20;exact oneLt_str ⟨by unfold D.lt;rfl,rfl⟩
   ·have z1:=AV.int_inv;have z2:=Gf.int_inv;subst z1 z2;obtain⟨t,rfl⟩:=r10;obtain⟨t',rfl⟩:=r20;exact oneLt_int ⟨by unfold D.lt;rfl,rfl⟩
theorem j8 (x y:Value):keyLt' oneType' x y=oneLt' true x y:=rfl
theorem vt (hok:dm P w H s.heap) {n:Nat} (hu:A.units + n < cLine) (k:SK) {d e:D} {x y:V} {u v:Value} (hd:D.dep d<=n + 1) (hl:D.dP d e) (fd:k.ok d) (fe:k.ok e) (hx:DV H x d) (hy:DV H y e) (rx:RelV x u) (ry:RelV y v) {Q:Bool->Shared->Prop} {E:Value->Shared->Prop}
  (q:Q (D.lt d e) s):wpAny (model prog w) A (keyLt' k.κ u v) Q E s:=by
 cases k with
 | tt=>obtain⟨f,r,rfl⟩:=fd;obtain⟨f',r',rfl⟩:=fe;exact km (b:=false) hok hu hd hl (λz=>nomatch z) hx hy rx ry q
 | ts=>obtain⟨f,r,rfl⟩:=fd;obtain⟨f',r',rfl⟩:=fe;exact km hok hu hd hl (λ_=> .inl ⟨_,_,rfl,rfl⟩) hx hy rx ry q
 | ti=>obtain⟨f,r,rfl⟩:=fd;obtain⟨f',r',rfl⟩:=fe;exact km hok hu hd hl (λ_=> .inr ⟨_,_,rfl,rfl⟩) hx hy rx ry q
 | s=>obtain⟨f,rfl⟩:=fd;obtain⟨f',rfl⟩:=fe;have z1:=hx.str_inv;have z2:=hy.str_inv;subst z1 z2;obtain⟨t,rfl⟩:=rx;obtain⟨t',rfl⟩:=ry;show wpAny _ _ (keyLt' oneType' _ _) _ _ _;rw[j8];unfold D.lt at q;exact oneLt_str q
 | i=>obtain⟨f,rfl⟩:=fd;obtain⟨f',rfl⟩:=fe;have z1:=hx.int_inv;have z2:=hy.int_inv;subst z1 z2;obtain⟨t,rfl⟩:=rx;obtain⟨t',rfl⟩:=ry;show wpAny _ _ (keyLt' oneType' _ _) _ _ _;rw[j8];unfold D.lt at q;exact oneLt_int q
theorem o8 (hok:dm P w H s.heap) {k:SK} (hk:k= .tt\/k= .ts\/k= .ti):∀{xs:List V} {us:List Value} {ds:List D},aP H xs ds->au xs us->(∀d∈ds,k.ok d)->
  ∃fs,KatTups s.heap us fs/\fs.length=us.length/\∀v∈fs,Looks (model prog w) s.heap (typeOf v) (.type k.f)
 | [],us,ds,_,r,_=>by cases r;exact⟨[],KatTups.nil,rfl,λv hv=>absurd hv (by simp)⟩
 | x::xs,us,ds,h,r,hf=>by
  cases r with
  | cons r0 rr=>
   cases ds with
   | nil=>unfold aP at h;exact h.elim
   | cons d ds=>
    unfold aP at h;obtain⟨fs,t,l,lk⟩:=o8 hok hk h.2 rr λd hd=>hf d (JD _ hd)
    have sh:∃d0 dr,d= .tup (d0::dr)/\((k= .ts/\∃p,d0= .str p)\/(k= .ti/\∃p,d0= .int p)\/(k= .tt/\∃p,d0= .tup p)):=by
     have z:=hf d JF;rcases hk with rfl | rfl | rfl
     ·obtain⟨f,r,rfl⟩:=z;exact⟨_,_,rfl,.inr (.inr ⟨rfl,_,rfl⟩)⟩
     ·obtain⟨f,r,rfl⟩:=z;exact⟨_,_,rfl,.inl ⟨rfl,_,rfl⟩⟩
     ·obtain⟨f,r,rfl⟩:=z;exact⟨_,_,rfl,.inr (.inl ⟨rfl,_,rfl⟩)⟩
    obtain⟨d0,dr,rfl,rM⟩:=sh;obtain⟨a,ys,q1,e1,e2⟩:=h.1.ag;subst q1;cases r0;obtain⟨its,r1,o,ho,hc,kk,vg⟩:=aq hok e1;obtain⟨x0,xr,rfl,AV,G8⟩:=e2.cons_inv;cases r1 with
    | cons r10 r1r=>
     rename_i u0 ur;refine⟨u0::fs,KatTups.cons ho hc vg (by simp) t,by simp[l],λv hv=>?_⟩;rcases JK.mp hv with rfl | hv
     ·rcases rM with ⟨hb,p,rfl⟩ | ⟨hb,p,rfl⟩ | ⟨hb,p,rfl⟩
      ·have z1:=AV.str_inv;subst z1;obtain⟨t',rfl⟩:=r10;rw[hb];exact Looks.of_pure rfl
      ·have z1:=AV.int_inv;subst z1;obtain⟨t',rfl⟩:=r10;rw[hb];exact Looks.of_pure rfl
      ·obtain⟨a2,y2,q2,g1,g2⟩:=AV.ag;subst q2;cases r10;obtain⟨aE,_,o2,pe,mK,_⟩:=aq hok g1;rw[hb];show Looks (model prog w) _ _ (Value.type "tuple");rw[<-mK];exact(Looks.ld pe).andThen .now
     ·exact lk v hv
theorem p6:∀{xs:List V} {us:List Value} {ds:List D},aP H xs ds->au xs us->(∀d∈ds,SK.s.ok d)->∃ss,StrsAre us ss
 | [],us,ds,_,r,_=>by cases r;exact⟨[],.nil⟩
 | x::xs,us,ds,h,r,hf=>by
  cases r with
  | cons r0 rr=>
   cases ds with
   | nil=>unfold aP at h;exact h.elim
   | cons d ds=>
    unfold aP at h;obtain⟨ss,q⟩:=p6 h.2 rr λd hd=>hf d (JD _ hd)
    obtain⟨y,rfl⟩:=hf d JF;have z1:=h.1.str_inv;subst z1;obtain⟨t,rfl⟩:=r0;exact⟨y::ss,.cons y t q⟩
theorem o7:∀{xs:List V} {us:List Value} {ds:List D},aP H xs ds->au xs us->(∀d∈ds,SK.i.ok d)->∃ss,IntsAre us ss
 | [],us,ds,_,r,_=>by cases r;exact⟨[],.nil⟩
 | x::xs,us,ds,h,r,hf=>by
  cases r with
  | cons r0 rr=>
   cases ds with
   | nil=>unfold aP at h;exact h.elim
   | cons d ds=>
    unfold aP at h;obtain⟨ss,q⟩:=o7 h.2 rr λd hd=>hf d (JD _ hd)
    obtain⟨y,rfl⟩:=hf d JF;have z1:=h.1.int_inv;subst z1;obtain⟨t,rfl⟩:=r0;exact⟨y::ss,.cons y t q⟩
theorem Ca (hok:dm P w H s.heap) (k:SK) {xs:List V} {us:List Value} {ds:List D} (hd:aP H xs ds) (r:au xs us) (hf:∀d∈ds,k.ok d) (h2:2<=us.length) {Q:SortKind->Shared->Prop} {E:Value->Shared->Prop} (q:Q k.κ s):
  wpAny (model prog w) A (keyKind' us.toArray) Q E s:=by
 have tup:k= .tt\/k= .ts\/k= .ti->wpAny (model prog w) A (keyKind' us.toArray) Q E s:=λhk=>by obtain⟨fs,t,l,lk⟩:=o8 (prog:=prog) hok hk hd r hf;refine kat_kind t (by lia) lk (by rcases hk with rfl | rfl | rfl <;> rfl) ?_;rcases hk with rfl | rfl | rfl <;> exact q
 cases k with
 | tt=>exact tup (.inl rfl)
 | ts=>exact tup (.inr (.inl rfl))
 | ti=>exact tup (.inr (.inr rfl))
 | s=>
  obtain⟨ss,hs⟩:=p6 hd r hf
  match us,h2,hs with
  | v1::v2::vs,_,hs=>rw[keyKind_strs hs];exact Jy q
 | i=>
  obtain⟨ss,hs⟩:=o7 hd r hf
  match us,h2,hs with
  | v1::v2::vs,_,hs=>rw[keyKind_ints hs];exact Jy q
end
noncomputable def iI (ds:List D):Prop:=ds.length < 64/\(2<=ds.length->D.cj ds<=100/\(∃k:SK,∀d∈ds,k.ok d)/\∀d∈ds,∀e∈ds,D.dP d e)
section
variable {X:Cx} {pins:List (Addr×Obj)} {σ:L2.St} {H:Hp}
theorem rD {s:Shared} {A:Around} {Q:PySem.Fin->Shared->Prop} {E:Value->Shared->Prop} (hu:A.units + 148 < cLine) (I:Inv X pins σ H s) {ys:List V} {its:List Value} {ds:List D} (rv:au ys its) (qp:aP H ys ds) (hc:iI ds)
  (q:∀(l:Addr) (zs:List V) (es:List D) (s':Shared),H l=none->aP H zs es->i6 ds es->Inv X pins σ (upd H l (.lst zs)) s'->Q (.done (.ret (.ref l))) s'):
  wpAny (model X.prog X.w) A (do let l<-newList its;let _<-holding [l] (call (.builtin "list.sort") [l] []);ret l) Q E s:=by
 obtain⟨hlen,hc⟩:=hc;have hl:=rv.length;have gA:=qp.length;have xx:its.length<=sizeLine:=by rw[sizeLine_eq];lia
 refine Jv (wpAny_newList ?_ (by simpa using xx));have Dp:(s.heap.push (seqObj "list" its.toArray 0)).get? s.heap.objs.size=some (seqObj "list" its.toArray 0):=JG _ rfl;show wpAny _ _ _ _ _ {s with heap:=s.heap.push (seqObj "list" its.toArray 0)};have ne:∀b o,s.heap.get? b=some o->b≠s.heap.objs.size:=λb o e=>J4 (JI e)
 refine Jv (wpAny_holding (wpAny_call_entry slot_list_sort (s:={s with heap:=s.heap.push (seqObj "list" its.toArray 0)}) ⟨_,Dp,rfl⟩ entry_list_sort
  (vH (s:={s with heap:=s.heap.push (seqObj "list" its.toArray 0)}) (O:=BX) (key:=λi=>ds.getD i (.int 0)) Dp (by lia) (λh2 h' kk=>?_) λp h' e hp hup kk hD=>?_) (args_list_sort _)))
 ·obtain⟨Iq,⟨k,hf⟩,nF⟩:=hc (by lia);have xi:dm X.prog X.w H h':=I.hok.kept λb o e=>kk b o (ne b o e) (Jx _ e)
  refine⟨k.κ,λQ' E' q'=>Ca (s:={s with heap:=h'}) xi k qp rv hf (by lia) q',λi j hi hj C hC=>?_⟩
  ·obtain⟨di,Gb,Hs⟩:=qp.get (i:=i) (x:=ys[i]'(by lia)) (by simp);obtain⟨dj,GQ,Jb⟩:=qp.get (i:=j) (x:=ys[j]'(by lia)) (by simp);obtain⟨ui,Ja,IF⟩:=rv.get (i:=i) (x:=ys[i]'(by lia)) (by simp);obtain⟨uj,Hb,IU⟩:=rv.get (i:=j) (x:=ys[j]'(by lia)) (by simp);unfold kas_ask;rw[show its.getD i Value.none=ui by simp[Ja],show its.getD j Value.none=uj by simp[Hb]];have ki:ds.getD i (.int 0)=di:=by simp[Gb]
   have kj:ds.getD j (.int 0)=dj:=by simp[GQ]
   have mi:di∈ds:=List.mem_of_getElem? Gb;have mj:dj∈ds:=List.mem_of_getElem? GQ;refine vt (s:={s with heap:=h'}) xi (n:=100) (by show A.units + 1 + 100 < cLine;lia) k (JJ (lp Gb) (by lia)) (nF di mi dj mj) (hf di mi) (hf dj mj) Hs Jb IF IU ?_;have G0:C (D.lt (ds.getD i (.int 0)) (ds.getD j (.int 0))) {s with heap:=h'}:=hC;rw[ki,kj] at G0;exact G0
 ·refine⟨_,rfl,Jy ?_⟩;have yb:p.toList.Perm (List.range its.length):=hp;have DX:∀i∈p.toList,i < ys.length:=λi hi=>by
   have:=Kk.mp (yb.mem_iff.mp hi)
   lia
  have new:bB X.prog X.w (upd H s.heap.objs.size (.lst (p.toList.map λi=>ys.getD i .a6))) h' s.heap.objs.size (.lst (p.toList.map λi=>ys.getD i .a6)):=
   ⟨by rw[JH,yb.length_eq,List.length_range];rw[sizeLine_eq];lia,_,e,mJ rv DX,hD⟩
  have I2:=I.laid (t':=s.toks) (a:=s.heap.objs.size) (λb o q=>kk b o (ne b o q) (Jx _ q)) (JE _) new;refine q _ _ (p.toList.map λi=>ds.getD i (.int 0)) _ (I.hok.fresh (JE _)) (qp.map DX) ⟨?_,?_⟩ I2
  ·have e1:=yb.map (λi=>ds.getD i (.int 0));rw[show its.length=ds.length by lia] at e1;rw[jc] at e1;exact e1
  ·have Fc:∀i j,i<=j->j < its.length->D.lt (ds.getD (p.getD j 0) (.int 0)) (ds.getD (p.getD i 0) (.int 0))=false:=hup;have ke:p.toList.length=its.length:=by rw[yb.length_eq,List.length_range]
   rw[List.pairwise_map,List.pairwise_iff_getElem];intro i j hi hj wO;have:=Fc i j (by lia) (by lia);rw[show p.getD i 0=p.toList[i] by simp at hi;simp[Array.getD,hi],show p.getD j 0=p.toList[j] by simp at hj;simp[Array.getD,hj]] at this;exact this
end
noncomputable def zP (K:PySem.W.Frag):List V->Hp->VK->Prop:=λxs H Q=>∃a ys ds,xs=[.ref a]/\(cW K H a ys\/dy K H a ys)/\aP H ys ds/\iI ds/\∀l zs es,H l=none->aP H zs es->i6 ds es->Q (.ref l) (upd H l (.lst zs))
theorem kl {X:Cx} (hu:X.A.units + 150 < cLine):fI X (.builtin "sorted") (zP X.K):=by
 intro pins s σ H xs us Q I r h;obtain⟨a,ys,ds,rfl,hq,qp,hc,q⟩:=h;obtain⟨u,rfl,ru⟩:=r.one;cases ru;have sh:∃(its:List Value) (T:String) (o:Obj) (n:Nat),au ys its/\(T="list"\/T="tuple")/\s.heap.get? a=some o/\o.cls= .type T/\o.data= .seq its.toArray n:=by
  rcases hq with hq | hq
  ·obtain⟨its,rv,⟨o,n,ho,hc,_,hd⟩,_⟩:=I.list hq;exact⟨its,"list",o,n,rv,.inl rfl,ho,hc,hd⟩
  ·obtain⟨its,rv,⟨o,ho,hc,n,hd⟩,_⟩:=I.tuple hq;exact⟨its,"tuple",o,n,rv,.inr rfl,ho,hc,hd⟩
 obtain⟨its,T,o,n,rv,hT,ho,yj,hd⟩:=sh;have xx:its.length<=sizeLine:=by rw[sizeLine_eq,<-rv.length,qp.length];have:=hc.1;lia
 refine Calls.call_function_entry kind_sorted plain_sorted entry_sorted (args_sorted1 _) ?_;unfold Builtin.«sorted»;refine Jv (m:=checkCount "sorted" 1 1 _) (Jy (Jv (wpAny_collect_seq a hT ho yj hd (λh1 k1=>?_) (by rw[JA];exact xx))));have I1:Inv X pins σ H {s with heap:=h1}:=I.kept (t':=s.toks) k1;exact rD (A:=X.A.in1) (by show X.A.units + 1 + 148 < cLine;lia) I1 rv qp hc λl zs es s' hl hz hso I2=>⟨_,rfl,.ref l,_,I2,rfl,q l zs es hl hz hso⟩
end Mx
end
section
namespace Mx
open PySem PySem.W PySem.Spec PyProof.Rows L2
theorem gn {i:Nat} {v:V} {σ:L2.St} {H:Hp} {k:L2.St->Hp->Prop} (h:k (σ.set i (some v)) H):cG i v σ H k:=h
end Mx
end
section
namespace Mx
open PySem PySem.W PySem.Spec PyProof.Rows L2 HT
open PySem.AutoSeq1 (wpAny_loadPart')
theorem tuple_addW0 (l b:Addr) (items dY:Array Value) (n n2:Nat) (dd vi:Option Addr) (sl rJ:Array (Option Value)) (Jp:items.isEmpty=true):
  Meets (Builtin.«tuple.__add__» ⟨[.ref l,.ref b],[]⟩) (λ_ R s=>s.heap.get? l=some {cls:= .type "tuple",dict:=dd,data:= .seq items n,slots:=sl}/\s.heap.get? b=some {cls:= .type "tuple",dict:=vi,data:= .seq dY n2,slots:=rJ}/\R (.ok (.ret (Value.ref b))) s):=
 .of_wp λprog w A R s h=>by
  obtain⟨hp,g,d,tk,os⟩:=s;obtain⟨hl,hb,h⟩:=h;have f2:=sub_tuple_tuple
  wp_walk using wpAny_loadPart' hl,wpAny_loadPart' hb
  exact⟨_,rfl,h⟩
end Mx
end
section
namespace L2
open PySem PySem.Spec PyProof.Rows
noncomputable def cP (e:Expr) (d:Nat) (it acc:Value) (env:Env) (target:Expr) (ifs:List Expr) (p:Pos) (body:Sem Unit):Sem PySem.Fin:=do
 standAt p
 match<-pyNext it with
 | none=>pure (.done .next)
 | some v=>
  letOwnedTupleGo target it v
  assign target env v
  let mut ok:=true
  for c in ifs do
   if ok then ok<-isTrue c env (eval c env)
  if ok then body
  again (.compLoop e d it acc env)
theorem k9 {prog:Program} {w:World} {A:Around} {R:Result->Shared->Prop} {s:Shared} {elt target:Expr} {gens:List Comprehension} {scope:Scope} {pos:Pos} {d:Nat} {ifs:List Expr} {p:Pos} {it acc:Value} {env:Env} {body:Sem Unit} (heq:compTurn (.ListComp elt gens scope pos) d it acc env=cP (.ListComp elt gens scope pos) d it acc env target ifs p body) {EE:Value->Shared->Prop}
  (Bz:∀x s',EE x s'->notedBy (model prog w) A env (λx s'=>R (.error x) s') x s') (I:Nat->Shared->Prop)
  (turn:∀n s,I n s->wpAny (model prog w) A (pyNext it) (λr s₁=>match r with
   | none=>R (.ok .next) s₁
   | some v=>wpAny (model prog w) A (letOwnedTupleGo target it v) (λ_ s₁'=>wpAny (model prog w) A (assign target env v) (λ_ s₂=>
     wpAny (model prog w) A (forIn ifs true λc r=>if r=true then do let ok<-isTrue c env (eval c env);pure (ForInStep.yield ok) else pure (ForInStep.yield r)) (λok s₃=>
      if ok=true then wpAny (model prog w) A body (λ_ s₄=>∃m,m < n/\I m s₄) EE s₃
      else∃m,m < n/\I m s₃) EE s₂) EE s₁') EE s₁) EE s)
  (n:Nat) (h:I n s):codeAny (model prog w) A (.compLoop (.ListComp elt gens scope pos) d it acc env) R s:=by
 refine codeAny_loop rfl I (λn s hI=>?_) n h;show wpAny _ A ((compTurn (.ListComp elt gens scope pos) d it acc env).onRaise (λx=>do noteFrame x env;theTreesLotGoes x)) _ _ s;refine wpAny_noted ?_;rw[heq];unfold cP;refine Jv (wpAny_standAt (Jv (wpAny_mono (turn n s hI) (λr s₁ h₁=>?_) Bz)));cases r with
 | none=>exact Jy h₁
 | some v=>
  refine Jv (wpAny_mono h₁ (λ_ s₁' h₁'=>?_) Bz);refine Jv (wpAny_mono h₁' (λ_ s₂ h₂=>Jv (wpAny_mono h₂ (λok s₃ h₃=>?_) Bz)) Bz);cases ok with
  | false=>exact Jy ⟨rfl,h₃⟩
  | true=>exact Jv (wpAny_mono h₃ (λ_ s₄ h₄=>Jy ⟨rfl,h₄⟩) Bz)
noncomputable def fg (elt:Expr) (acc:Value) (env:Env):Sem Unit:=do let _<-call (.builtin "list.append") [acc,<-eval elt env]
noncomputable def nextOf (e:Expr) (d:Nat) (iter:Expr) (acc:Value) (env:Env):Sem Unit:=do
 let x<-eval iter env
 standAt iter.pos
 let x<-foldedSetIterable iter env x
 let _<-runOwn (.compStart e d (<-holding [x] (pyIter x)) acc env) env
theorem lS (elt target iter:Expr) (ifs:List Expr) (scope:Scope) (pos:Pos) (it acc:Value) (env:Env):
  compTurn (.ListComp elt [⟨target,iter,ifs,0⟩] scope pos) 0 it acc env=cP (.ListComp elt [⟨target,iter,ifs,0⟩] scope pos) 0 it acc env target ifs iter.pos (fg elt acc env):=by rfl
theorem mI (elt target iter aS bA:Expr) (ifs bJ:List Expr) (scope:Scope) (pos:Pos) (it acc:Value) (env:Env):
  compTurn (.ListComp elt [⟨target,iter,ifs,0⟩,⟨aS,bA,bJ,0⟩] scope pos) 0 it acc env=
   cP (.ListComp elt [⟨target,iter,ifs,0⟩,⟨aS,bA,bJ,0⟩] scope pos) 0 it acc env target ifs iter.pos (nextOf (.ListComp elt [⟨target,iter,ifs,0⟩,⟨aS,bA,bJ,0⟩] scope pos) 1 bA acc env):=by
 unfold cP nextOf;simp only[bind_assoc,pure_bind];rfl
theorem vS (elt target iter aS bA:Expr) (ifs bJ:List Expr) (scope:Scope) (pos:Pos) (it acc:Value) (env:Env):
  compTurn (.ListComp elt [⟨target,iter,ifs,0⟩,⟨aS,bA,bJ,0⟩] scope pos) 1 it acc env=
   cP (.ListComp elt [⟨target,iter,ifs,0⟩,⟨aS,bA,bJ,0⟩] scope pos) 1 it acc env aS bJ bA.pos (fg elt acc env):=by rfl
noncomputable def Le (σ σ2:St):Prop:=σ2.length=σ.length/\∀(j:Nat) (v:V),σ[j]?=some (some v)->σ2[j]?=some (some v)
theorem Le.refl (σ:St):Le σ σ:=⟨rfl,λ_ _ h=>h⟩
noncomputable def GL (σ0:St) (g:TG):Prop:=∀x σ H (Q:St->Hp->Prop),Le σ0 σ->g x σ H Q->g x σ H λσ2 H2=>Le σ0 σ2/\Q σ2 H2
noncomputable def Bk (σ0:St) (g:sf):Prop:=∀x σ H (Q:St->Hp->Prop),Le σ0 σ->g x σ H Q->g x σ H λσ2 H2=>Le σ0 σ2/\Q σ2 H2
theorem Le.set {k:Nat} {σ0 σ:St} {v:Option V} (h:σ0[k]?=some none) (q:Le σ0 σ):Le σ0 (σ.set k v):=⟨by simpa using q.1,λj w hj=>by
 rw[JP (by rintro rfl;rw[h] at hj;cases hj)];exact q.2 j w hj⟩
theorem wI {σ0:St} {k:Nat} (h:σ0[k]?=some none):GL σ0 (cG k):=λx σ H Q p q=>⟨p.set h,q⟩
theorem vX {σ0:St}:Bk σ0 yn:=λx σ H Q p q=>⟨q.1,p,q.2⟩
theorem tX {σ0:St} {k:Nat} {u:sf} (h:σ0[k]?=some none) (hu:Bk σ0 u):Bk σ0 (uk (cG k) u):=λx σ H Q p q=>by obtain⟨v,r,e,q⟩:=q;exact⟨v,r,e,hu r _ H Q (p.set h) q⟩
theorem zZ {σ0:St} {K:PySem.W.Frag} {n:Nat} {u:sf} (hu:Bk σ0 u):GL σ0 (yz K n u):=λx σ H Q p q=>by obtain⟨a,xs,e,h1,h2,q⟩:=q;exact⟨a,xs,e,h1,h2,hu xs σ H Q p q⟩
theorem Inv.le {X:Cx} {pins:List (Addr×Obj)} {σ σ2:St} {H:Hp} {s:Shared} (I:Inv X pins σ2 H s) (h:Le σ σ2):Inv X pins σ H s:=I.weak h.1.symm h.2
noncomputable abbrev TB:=St->Hp->(Hp->Prop)->Prop
noncomputable def PB (X:Cx) (body:Sem Unit) (tb:TB):Prop:=∀(pins:List (Addr×Obj)) (s:Shared) (σ:St) (H:Hp) (Q:Hp->Prop),Inv X pins σ H s->tb σ H Q->wpAny (model X.prog X.w) X.A body (λ_ s'=>∃H',Inv X pins σ H' s'/\Q H') X.xe s
noncomputable def m9 (J:It) (g:TG) (tt:TT) (tb:TB) (σ0:St) (F:Hp->Prop) (H1:Hp):Prop:=
 ∃W:Nat->Nat->Hp->Prop,(∃m,W 0 m H1)/\∀i m H,W i m H->
  (J.stop i H/\F H)\/(J.go i H/\∀x H',J.yld i H x H'->g x σ0 H' λσ2 H2=>tt σ2 H2 λb H3=>if b=true then tb σ2 H3 λH4=>∃m',m' < m/\W (i + 1) m' H4 else∃m',m' < m/\W (i + 1) m' H3)
section
variable {X:Cx} {g:TG} {tt:TT} {tb:TB}
theorem jN (hc:X.calm=true) {elt target:Expr} {gens:List Comprehension} {scope:Scope} {pos:Pos} {d:Nat} {ifs:List Expr} {p:Pos} {acc:Value} {body:Sem Unit} {R:Result->Shared->Prop} {pins:List (Addr×Obj)} {σ0:St} {H0:Hp} {s0:Shared} {it:Addr} {fp:List Addr} {tn:Nat->Heap->Prop} {J:It} {F:Hp->Prop}
  (heq:compTurn (.ListComp elt gens scope pos) d (.ref it) acc X.env=cP (.ListComp elt gens scope pos) d (.ref it) acc X.env target ifs p body) (hx:∀x s',X.xe x s'->notedBy (model X.prog X.w) X.A X.env (λx s'=>R (.error x) s') x s')
  (hg:PG X target g) (lG:GL σ0 g) (ht:xH X ifs tt) (hb:PB X body tb) (I0:Inv X pins σ0 H0 s0) (T:Turn X.prog X.w X.K target J fp it tn) (jX:tn 0 s0.heap) (f0:∀b∈fp,eR X pins H0 b)
  (hW:m9 J g tt tb σ0 F H0) (fin:∀s' H',Inv X pins σ0 H' s'->F H'->R (.ok .next) s'):codeAny (model X.prog X.w) X.A (.compLoop (.ListComp elt gens scope pos) d (.ref it) acc X.env) R s0:=by
 obtain⟨W,⟨m0,w0⟩,turn⟩:=hW;have kb:∀{H':Hp},(∀b∈fp,H' b=none)->∀b∈fp,eR X pins H' b:=λhn b hb=>⟨hn b hb,(f0 b hb).2⟩
 refine k9 heq hx (λn s'=>∃i H',Inv X pins σ0 H' s'/\tn i s'.heap/\(∀b∈fp,H' b=none)/\W i n H') ?_ m0 ⟨0,H0,I0,jX,λb hb=>(f0 b hb).1,w0⟩;rintro n s4 ⟨i,H4,I4,GT,GK,w4⟩;rcases turn i n H4 w4 with ⟨stop,qn⟩ | ⟨go,step⟩
 ·refine bq (T.done X rfl rfl rfl hc i pins s4 _ H4 X.xe I4 (kb GK) GT stop) λr s5 ⟨hr,I5⟩=>?_
  subst hr;exact fin s5 H4 I5 qn
 ·refine bq (T.item X rfl rfl rfl hc i pins s4 _ H4 X.xe I4 (kb GK) GT go) λr s5 ⟨u,hr,h5⟩=>?_
  subst hr;refine bq h5 λ_ s6 ⟨x,H6,I6,r6,y6,El,Il⟩=>?_
  have IG:=I6.pinned (kb Il) (T.obj _ _ El);have again:∀{s7:Shared} {σ7:St} {H7:Hp} {m7:Nat},Inv X (pins++jd fp s6.heap) σ7 H7 s7->Le σ0 σ7->m7 < n->W (i + 1) m7 H7->
    ∃m,m < n/\∃i H',Inv X pins σ0 H' s7/\tn i s7.heap/\(∀b∈fp,H' b=none)/\W i m H':=λ {s7 σ7 H7 m7} I7 hσ hm w7=>by
   refine⟨m7,hm,i + 1,H7,I7.fN.le hσ,T.keep _ _ _ El λb hb o e=>(I7.pin (b,o) (J5 _ (J5 _ (dE hb e)))).1,λb hb=>?_,w7⟩;obtain⟨o,e,d⟩:=T.obj _ _ El b hb;exact(I7.pin (b,o) (J5 _ (J5 _ (dE hb e)))).2.1
  refine bq (hg _ s6 _ H6 x u _ IG r6 (lG x _ H6 _ (Le.refl _) (step x H6 y6))) λ_ s7 ⟨σ7,H7,I7,GI,q7⟩=>?_
  refine bq (ht _ s7 σ7 H7 _ I7 q7) λb s8 ⟨H8,I8,q8⟩=>?_
  cases b with
  | false=>rw[if_neg (by simp)] at q8 ⊢;obtain⟨m',hm,w8⟩:=q8;exact again I8 GI hm w8
  | true=>
   rw[if_pos rfl] at q8 ⊢;refine bq (hb _ s8 σ7 H8 _ I8 q8) λ_ s9 ⟨H9,I9,m',hm,w9⟩=>?_
   exact again I9 GI hm w9
noncomputable def qx (D:Addr) (te:TE):TB:=λσ H Q=>te σ H λv H4=>∃eE,H4 D=some (.lst eE)/\eE.length < sizeLine/\Q (upd H4 D (.lst (eE++[v])))
theorem ij {elt:Expr} {te:TE} {D:Addr} (he:PE X elt te):PB X (fg elt (.ref D) X.env) (qx D te):=by intro pins s σ H Q I h;unfold fg;refine Jv (bq (he pins s σ H _ I h) λy s9 ⟨v,H9,I9,r9,eE,Hc,hz,q⟩=>?_);refine Jv (bq (jz _ s9 σ H9 (.ref D) [v] (.ref D) [y] (λ_ H'=>H'=upd H9 D (.lst (eE++[v]))) I9 rfl (.cons r9 .nil) ⟨D,eE,v,rfl,rfl,Hc,hz,rfl⟩) λ_ s10 ⟨_,Jl,HL,_,IZ⟩=>?_);subst IZ;exact Jy ⟨_,HL,q⟩
theorem kT {prog:Program} {w:World} {A:Around} {R:Result->Shared->Prop} {s:Shared} {elt target iter aS bA:Expr} {ifs bJ:List Expr} {scope:Scope} {pos:Pos} {it acc:Value} {env:Env}
  (h0:codeAny (model prog w) A (.compLoop (.ListComp elt [⟨target,iter,ifs,0⟩,⟨aS,bA,bJ,0⟩] scope pos) 1 it acc env) R s)
  (h:wpAny (model prog w) A (pyIter it) (λhV s'=>codeAny (model prog w) A (.compLoop (.ListComp elt [⟨target,iter,ifs,0⟩,⟨aS,bA,bJ,0⟩] scope pos) 1 hV acc env) R s')
   (notedBy (model prog w) A env λx s'=>R (.error x) s') s):
  codeAny (model prog w) A (.compStart (.ListComp elt [⟨target,iter,ifs,0⟩,⟨aS,bA,bJ,0⟩] scope pos) 1 it acc env) R s:=by
 refine codeAny_of_tree ?_;show wpAny _ _ ((compStart (.ListComp elt [⟨target,iter,ifs,0⟩,⟨aS,bA,bJ,0⟩] scope pos) 1 it acc env).onRaise (λx=>do noteFrame x env;standAt theWindowsPlace)) _ _ s;refine wpAny_notedAt ?_;unfold compStart;show wpAny _ _ (ask >>=_) _ _ s;refine Jv (wpAny_askSetting (wpAny_ite ?_));split
 ·first
   | exact Jv (Jy (Jy (And.intro rfl h0)))
   | exact Jy (And.intro rfl h0)
 ·first
   | exact Jv (wpAny_rule (Jv (wpAny_standAt (Jv (wpAny_mono h (λhV s' h'=>Jy (And.intro rfl h')) λ_ _ x=>x)))))
   | (refine Jv (wpAny_rule ?_);show wpAny _ _ (standAt bA.pos >>=_) _ _ s;exact Jv (wpAny_standAt (Jv (wpAny_mono h (λhV s' h'=>Jy (And.intro rfl h')) λ_ _ x=>x))))
noncomputable def CH (wi:TI) (g:TG) (tt:TT) (tb:TB):TB:=λσ H Q=>GL σ g/\wi σ H λJ H1=>m9 J g tt tb σ Q H1
theorem pL {elt target iter aS bA:Expr} {ifs bJ:List Expr} {scope:Scope} {pos:Pos} {acc:Value} {wi:TI} {te:TB} (hc:X.calm=true) (hp:PassesOwn (model X.prog X.w) X.A X.env X.xe) (hi:PI X aS bA wi) (hg:PG X aS g) (ht:xH X bJ tt) (he:PB X (fg elt acc X.env) te)
  (hs:∀x,foldedSetIterable bA X.env x=pure x:=by intro _;rfl):PB X (nextOf (.ListComp elt [⟨target,iter,ifs,0⟩,⟨aS,bA,bJ,0⟩] scope pos) 1 bA acc X.env) (CH wi g tt te):=by
 intro pins s σ H Q I ⟨lG,h⟩;unfold nextOf;refine Jv (bq (hi pins s σ H _ I h) λx s₁ h₁=>?_);refine Jv (wpAny_standAt (Jv (wpAny_of_eq (hs x) (Jv (wpAny_holding (bq h₁ λlJ s₂ h₂=>?_))))));obtain⟨it,fp,tn,J,H2,e,I2,T,rG,f2,hW⟩:=h₂;subst e;have loop:codeAny (model X.prog X.w) X.A (.compLoop (.ListComp elt [⟨target,iter,ifs,0⟩,⟨aS,bA,bJ,0⟩] scope pos) 1 (.ref it) acc X.env) (λr s'=>match r with | .ok f=>∃H',Inv X pins σ H' s'/\Q H' | .error e=>cameBackBy (model X.prog X.w) X.A X.env X.xe e s') s₂:=
  jN hc (vS ..) (λx s' q=>hp x s' q) hg lG ht he I2 T rG f2 hW λs' H' I' q=>⟨H',I',q⟩
 have run:wpAny (model X.prog X.w) X.A (runOwn (.compStart (.ListComp elt [⟨target,iter,ifs,0⟩,⟨aS,bA,bJ,0⟩] scope pos) 1 (.ref it) acc X.env) X.env) (λ_ s'=>∃H',Inv X pins σ H' s'/\Q H') X.xe s₂:=
  wpAny_runOwn (kT loop (T.self _ 0 _ _ _ rG loop))
 exact Jv (wpAny_mono run (λf s' q=>Jy q) λ_ _ z=>z)
end
theorem eA {x:Str} {c:Addr}:∀(names:List (Str×NameKind)) (n:Nat) (acc:List (Str×Addr)),(cellsFrom n names acc).lookup x=some c->(n<=c/\(x,NameKind.cell)∈names)\/acc.lookup x=some c
 | [],n,acc,h=> .inr h
 | (y,k)::r,n,acc,h=>by
  unfold cellsFrom at h;by_cases hk:(k==NameKind.cell)=true
  ·rw[if_pos hk] at h;rcases eA r (n + 1) _ h with ⟨h1,h2⟩ | h1
   ·exact .inl ⟨JJ (Nat.le_succ _) h1,JD _ h2⟩
   ·rw[JY] at h1;cases hb:x==y with
    | true=>
     rw[hb] at h1;cases h1;have:x=y:=by simpa using hb
     subst this;have:k=NameKind.cell:=by simpa using hk
     subst this;exact .inl ⟨JE _,JF⟩
    | false=>rw[hb] at h1;exact .inr h1
  ·rw[if_neg hk] at h;rcases eA r n _ h with ⟨h1,h2⟩ | h1
   ·exact .inl ⟨h1,JD _ h2⟩
   ·exact .inr h1
theorem og {x y:Str} {c:Addr}:∀(names:List (Str×NameKind)) (n:Nat) (acc:List (Str×Addr)),(∀x c,acc.lookup x=some c->c < n)->(∀x y c,acc.lookup x=some c->acc.lookup y=some c->x=y)->
  (cellsFrom n names acc).lookup x=some c->(cellsFrom n names acc).lookup y=some c->x=y
 | [],n,acc,h1,h2,hx,hy=>h2 x y c hx hy
 | (z,k)::r,n,acc,h1,h2,hx,hy=>by
  unfold cellsFrom at hx hy;by_cases hk:(k==NameKind.cell)=true
  ·rw[if_pos hk] at hx hy;refine og r (n + 1) _ (λa b gP=>?_) (λa b e ha hb=>?_) hx hy
   ·rw[JY] at gP;cases hq:a==z with
    | true=>rw[hq] at gP;cases gP;exact Nat.lt_succ_self _
    | false=>rw[hq] at gP;exact Nat.lt_succ_of_lt (h1 a b gP)
   ·rw[JY] at ha hb;cases hq:a==z with
    | true=>
     rw[hq] at ha;cases ha;cases hq2:b==z with
     | true=>
      have e1:a=z:=by simpa using hq
      have e2:b=z:=by simpa using hq2
      rw[e1,e2]
     | false=>rw[hq2] at hb;exact absurd (h1 b _ hb) (Nat.lt_irrefl _)
    | false=>
     rw[hq] at ha;cases hq2:b==z with
     | true=>rw[hq2] at hb;cases hb;exact absurd (h1 a _ ha) (Nat.lt_irrefl _)
     | false=>rw[hq2] at hb;exact h2 a b e ha hb
  ·rw[if_neg hk] at hx hy;exact og r n acc h1 h2 hx hy
theorem k6 {x:Str} {c:Addr}:∀(names:List (Str×NameKind)) (n:Nat) (acc:List (Str×Addr)),(x,NameKind.cell)∉names->acc.lookup x=some c->(cellsFrom n names acc).lookup x=some c
 | [],n,acc,_,h=>h
 | (z,k)::r,n,acc,hn,h=>by
  unfold cellsFrom;by_cases hk:(k==NameKind.cell)=true
  ·rw[if_pos hk];refine k6 r (n + 1) _ (λz'=>hn (JD _ z')) ?_;rw[JY];have:(x==z)=false:=by
    cases hq:x==z with
    | false=>rfl
    | true=>
     have e1:x=z:=by simpa using hq
     have e2:k=NameKind.cell:=by simpa using hk
     subst e1 e2;exact absurd JF hn
   rw[this];exact h
  ·rw[if_neg hk];exact k6 r n acc (λz'=>hn (JD _ z')) h
theorem ji {x:Str} {c:Addr}:∀(names:List (Str×NameKind)) (h:Heap) (acc:List (Str×Addr)),(∀x c,acc.lookup x=some c->∃v,h.IsCell c v)->(cellsFrom h.objs.size names acc).lookup x=some c->∃v,(pushCells h names).IsCell c v
 | [],h,acc,ha,hx=>ha x c hx
 | (z,k)::r,h,acc,ha,hx=>by
  unfold cellsFrom at hx;unfold pushCells;by_cases hk:(k==NameKind.cell)=true
  ·rw[if_pos hk] at hx ⊢;refine ji r _ ((z,h.objs.size)::acc) (λa b gP=>?_) (by rw[J3];exact hx);rw[JY] at gP;cases hq:a==z with
   | true=>rw[hq] at gP;cases gP;exact⟨none,_,JG _ rfl,rfl⟩
   | false=>rw[hq] at gP;obtain⟨v,o,ho,hd⟩:=ha a b gP;exact⟨v,o,Jx _ ho,hd⟩
  ·rw[if_neg hk] at hx ⊢;exact ji r h acc ha hx
theorem lU {M:Model} {A:Around} {E:Value->Shared->Prop} {s:Shared} {scope:Scope} {globals:Addr} {cl:List (Str×Addr)} {qual:Str} {out:Env} {Q:Env->Shared->Prop}
  (hQ:∀h',h'=pushCells (s.heap.push {cls:= .type "dict",data:= .dict #[]}) scope.names->Q (newEnv scope s.heap.objs.size globals (cellsFrom (s.heap.objs.size + 1) scope.names cl) qual none .none (some out) builtinsNs) {s with heap:=h'}):
  wpAny M A (newFunctionEnv scope globals cl [] qual none .none (some out)) Q E s:=by
 simp only[newFunctionEnv,Option.isSome_some,if_true];refine Jv (wpAny_alloc ?_);refine Jv (wpAny_layCells _ (λname kind cells=>by cases hkc:kind==NameKind.cell <;> simp[hkc]) _ _ _ _ ?_);rw[show ({s with heap:=s.heap.push {cls:= .type "dict",data:= .dict #[]}}:Shared).heap.objs.size=s.heap.objs.size + 1 from J3 ..];rw[List.forIn_nil];exact Jv (Jy (Jy (hQ _ rfl)))
noncomputable def dW (X:Cx) (scope:Scope) (N':List Str) (C:Addr) (s:Shared) (H:Hp) (fp:List Addr) (xe:Value->Shared->Prop):Cx:=
 {X with N:=N',s₀:=s,H₀:=H,env:=compEnvC scope (cellsFrom (C + 1) scope.names (dO scope X.env)) C X.env,outer:=X.stack,stack:=X.stack,ex:=fp,fn:=λx=>scope.names.lookup x==some .cell,pn:=[],xe:=xe}
structure dk (X:Cx) (scope:Scope) (N':List Str) (cap:List (Option Nat)):Prop where
 kind:scope.kind= .function
 nd:∀y∈scope.names,scope.names.lookup y.1=some y.2
 free:∀y∈scope.names,y.2= .free->X.env.scope.names.lookup y.1=some .cell\/X.env.scope.names.lookup y.1=some .free
 wN:∀(j i:Nat),cap[j]?=some (some i)->∃x,N'[j]?=some x/\X.N[i]?=some x/\scope.names.lookup x=some .free
 len:cap.length=N'.length
section
variable {X:Cx} {scope:Scope} {N':List Str} {cap:List (Option Nat)} {pins:List (Addr×Obj)} {σ:St} {H:Hp} {s:Shared}
theorem dk.frees (B:dk X scope N' cap) (ok:X.Ok):∀y∈scope.names,y.2= .free->∃c,X.env.cells.lookup y.1=some c:=λy hy hf=>ok.has y.1 (B.free y hy hf)
theorem dk.up (B:dk X scope N' cap) (ok:X.Ok) {x:Str} {c:Addr} (h:(dO scope X.env).lookup x=some c):X.env.cells.lookup x=some c:=
 gG scope.names [] (B.frees ok) (λ_ z=>by simp at z) h
theorem dk.l8 (B:dk X scope N' cap) {x:Str} (h:scope.names.lookup x=some .free):(x,NameKind.cell)∉scope.names:=λz=>by have:=B.nd _ z;rw[h] at this;cases this
theorem oz {xe:Value->Shared->Prop} (B:dk X scope N' cap) (I:Inv X pins σ H s) {fp:List Addr} {tk:Nat} (hf:∀b∈fp,eR X pins H b) (cO:∀b∈fp,b < s.heap.objs.size):
  Inv (dW X scope N' s.heap.objs.size s H fp xe) [] (bX cap σ) H {s with heap:=pushCells (s.heap.push {cls:= .type "dict",data:= .dict #[]}) scope.names,toks:=tk}:=by
 have ok:=I.ok;have hz:(s.heap.push {cls:= .type "dict",data:= .dict #[]}).objs.size=s.heap.objs.size + 1:=J3 ..;have hk:∀b o,s.heap.get? b=some o->(pushCells (s.heap.push {cls:= .type "dict",data:= .dict #[]}) scope.names).get? b=some o:=λb o e=>pushCells_keeps _ _ _ _ (Jx _ e)
 have AM:(pushCells (s.heap.push {cls:= .type "dict",data:= .dict #[]}) scope.names).Ns s.heap.objs.size λ_=>none:=(Heap.Ns.new s.heap (.type "dict")).keeps (pushCells_keeps _ _)
 have IC:∀x c,(dO scope X.env).lookup x=some c->c < s.heap.objs.size:=λx c h=>by obtain⟨v,z⟩:=I.cell x c (B.up ok h);exact z.lt
 have uW:∀x c,(cellsFrom (s.heap.objs.size + 1) scope.names (dO scope X.env)).lookup x=some c->(s.heap.objs.size + 1<=c/\(x,NameKind.cell)∈scope.names)\/X.env.cells.lookup x=some c:=λx c h=>(eA _ _ _ h).imp id (B.up ok)
 have oO:∀x,scope.names.lookup x=some .free->(compEnvC scope (cellsFrom (s.heap.objs.size + 1) scope.names (dO scope X.env)) s.heap.objs.size X.env).kindOf x=some .cell\/(compEnvC scope (cellsFrom (s.heap.objs.size + 1) scope.names (dO scope X.env)) s.heap.objs.size X.env).kindOf x=some .free:=λx hx=>by
  have q:=aM (env:=X.env) hx;by_cases hc:(NameKind.free==NameKind.free&&X.env.scope.kind== .function&&X.env.kindOf x==some .cell)=true
  ·rw[if_pos hc] at q;exact .inl q
  ·rw[if_neg hc] at q;exact .inr q
 refine⟨⟨ok.mod,?kind,ok.glob,ok.blt,JE _,?inj,?has,?vz,ok.hd,ok.frames,.inl rfl,?y7,I.bs,JJ ok.vd I.sz,?lb,?ng,I.stack,I.lB⟩,
  rfl,I.bare,Un.kept hk,⟨_,AM,?loc⟩,?cell,I.hok.fresh (JE _),?bO,?pin,I.hok.kept hk,?len⟩
 case kind=>exact B.kind
 case inj=>exact λx y c h1 h2=>og _ _ _ (λx c h=>Nat.lt_succ_of_lt (IC x c h)) (λx y c h1 h2=>ok.inj x y c (B.up ok h1) (B.up ok h2)) h1 h2
 case has=>
  intro x hx;cases hl:scope.names.lookup x with
  | none=>
   have q:=bx (env:=X.env) hl;exact absurd hx (by
    have q':(compEnvC scope (cellsFrom (s.heap.objs.size + 1) scope.names (dO scope X.env)) s.heap.objs.size X.env).kindOf x=none:=q;show¬((compEnvC scope (cellsFrom (s.heap.objs.size + 1) scope.names (dO scope X.env)) s.heap.objs.size X.env).kindOf x=some .cell\/(compEnvC scope (cellsFrom (s.heap.objs.size + 1) scope.names (dO scope X.env)) s.heap.objs.size X.env).kindOf x=some .free);rw[q'];simp)
  | some k=>
   have q:(compEnvC scope (cellsFrom (s.heap.objs.size + 1) scope.names (dO scope X.env)) s.heap.objs.size X.env).kindOf x=some (if (k==NameKind.free&&X.env.scope.kind== .function&&X.env.kindOf x==some .cell) then NameKind.cell else k):=aM (env:=X.env) hl;have hm:=PySem.mem_of_lookup hl;by_cases vW:k= .free
   ·subst vW;obtain⟨c,yj⟩:=i8 (env:=X.env) scope.names [] (.inl hm);exact⟨c,k6 _ _ _ (B.l8 hl) yj⟩
   ·have hb:(k==NameKind.free)=false:=by simpa using vW
    have su:(compEnvC scope (cellsFrom (s.heap.objs.size + 1) scope.names (dO scope X.env)) s.heap.objs.size X.env).kindOf x=some .cell\/(compEnvC scope (cellsFrom (s.heap.objs.size + 1) scope.names (dO scope X.env)) s.heap.objs.size X.env).kindOf x=some .free:=hx;rw[q,hb] at su;simp only[Bool.false_and,Bool.false_eq_true,if_false,Option.some.injEq] at su;rcases su with z | z
    ·subst z;exact Option.isSome_iff_exists.mp (PySem.W.cellsFrom_some scope.names _ _ (.inl hl))
    ·exact absurd z vW
 case vz=>
  intro x c sv h;have sv:(scope.names.lookup x==some .cell)=true:=sv;rcases eA _ _ _ h with ⟨h1,_⟩ | h1
  ·exact JJ (Nat.le_succ _) h1
  ·exfalso;have e:=JV sv;have:∀(l:List (Str×NameKind)) (cs:List (Str×Addr)),(∀c,cs.lookup x≠some c)->(∀y∈l,y.1=x->y.2≠ .free)->(kX X.env l cs).lookup x=none:=by
    intro l
    induction l with
    | nil=>
     intro cs rL _;cases hq:cs.lookup x with
     | none=>exact hq
     | some c=>exact absurd hq (rL c)
    | cons y l ih=>
     intro cs rL hl;obtain⟨n,k⟩:=y;show (kX X.env l (if (k==NameKind.free)=true then(n,(X.env.cells.lookup n).getD 0)::cs else cs)).lookup x=none;refine ih _ (λc=>?_) λy hy=>hl y (JD _ hy)
     by_cases hk:(k==NameKind.free)=true
     ·rw[if_pos hk,JY];have:(x==n)=false:=by
       cases hq:x==n with
       | false=>rfl
       | true=>
        have e1:x=n:=by simpa using hq
        have e2:k=NameKind.free:=by simpa using hk
        exact absurd e2 (hl (n,k) JF e1.symm)
      rw[this];exact rL c
     ·rw[if_neg hk];exact rL c
   have q:=this scope.names [] (λc z=>by simp at z) λy hy e1 e2=>by have:=B.nd y hy;rw[e1,e2,e] at this;cases this
   unfold dO at h1;rw[q] at h1;cases h1
 case y7=>
  intro b hb;refine⟨J4 (cO b hb),λx c e=>?_⟩;rcases uW x c e with ⟨h1,_⟩ | h1
  ·intro z;subst z;exact absurd (JT (cO c hb) (JJ (Nat.le_succ _) h1)) (Nat.lt_irrefl _)
  ·exact(hf b hb).2.2.2.2.1 x c h1
 case lb=>
  intro b o e hb;rcases (hf b hb).2.2.2.1 with z | z
  ·exact ok.lb b o e z
  ·exact absurd (JT (JI (ok.bs b o e).1) z) (Nat.lt_irrefl _)
 case ng=>
  intro b hb hs;rcases JK.mp (I.iL b hs) with z | z
  ·exact(hf b hb).2.1 z
  ·exact(hf b hb).2.2.1 z
 case loc=>
  intro j x v h1 h2 h3;have hj:∃i,cap[j]?=some (some i)/\(σ[i]?).join=some v:=by
   unfold bX at h2;rw[JR] at h2;cases hc:cap[j]? with
   | none=>rw[hc] at h2;cases h2
   | some o=>
    rw[hc] at h2;cases o with
    | none=>cases h2
    | some i=>exact⟨i,rfl,by simpa using h2⟩
  obtain⟨i,hc,hv⟩:=hj;obtain⟨x',e1,e2,e3⟩:=B.wN j i hc;have ex:x'=x:=by have Fs:N'[j]?=some x:=h1;rw[Fs] at e1;injection e1 with e1;exact e1.symm
  subst ex;have Iy:σ[i]?=some (some v):=by
   cases q:σ[i]? with
   | none=>rw[q] at hv;cases hv
   | some o=>rw[q] at hv;cases o with
    | none=>cases hv
    | some z=>simp at hv;rw[hv]
  have Bw:=B.free _ (PySem.mem_of_lookup e3) rfl;obtain⟨m,hn,hl⟩:=I.loc;obtain⟨u,r,l⟩:=hl i x' v e2 Iy (.inr Bw);refine⟨u,r,?_⟩;obtain⟨c,yj⟩:=i8 (env:=X.env) scope.names [] (.inl (PySem.mem_of_lookup e3));have Gk:=B.up ok yj;rcases l with ⟨k,_⟩ | ⟨k,c',e,z⟩
  ·exfalso;have k':X.env.scope.names.lookup x'=some .local:=k;rcases Bw with q | q
   ·rw[k'] at q;cases q
   ·rw[k'] at q;cases q
  ·have Hd:c'=c:=by rw[e] at Gk;injection Gk
   subst Hd;exact .inr ⟨oO x' e3,c',k6 _ _ _ (B.l8 e3) yj,by obtain⟨o,ho,hd⟩:=z;exact⟨o,hk _ _ ho,hd⟩⟩
 case cell=>intro x c e;refine ji scope.names (s.heap.push {cls:= .type "dict",data:= .dict #[]}) (dO scope X.env) (λa b gP=>?_) (by rw[hz];exact e);obtain⟨v,o,ho,hd⟩:=I.cell a b (B.up ok gP);exact⟨v,o,Jx _ ho,hd⟩
 case bO=>
  intro x c e;rcases uW x c e with ⟨h1,_⟩ | h1
  ·exact I.hok.fresh (JJ (Nat.le_succ _) h1)
  ·exact I.bO x c h1
 case pin=>intro p hp;cases hp
 case len=>show (bX cap σ).length=N'.length;unfold bX;rw[JH];exact B.len
noncomputable def xT (X:Cx) (C:Addr) (x:Value) (s':Shared):Prop:=∃m,s'.heap.Ns C m/\∀h',Heap.SameBut C s'.heap h'->∀qT:Env,qT.locals=C->wpAny (model X.prog X.w) X.A (passOn "comprehension.variables-let-go" x qT:Sem Value) (λ_ _=>False) X.xe {s' with heap:=h'}
structure wY (X:Cx) (scope:Scope) (N':List Str) (xb:Addr->Shared->Hp->List Addr->Value->Shared->Prop):Prop where
 note:∀(pins:List (Addr×Obj)) (σ:St) (C:Addr) (s s1:Shared) (H H1:Hp) (fp:List Addr) x s',Inv X pins σ H1 s1->(∀b∈fp,eR X pins H1 b)->s1.heap.objs.size < C->s={s1 with heap:=s1.heap.push {cls:= .type "list",data:= .seq ([]:List Value).toArray},toks:=s1.toks}->H=upd H1 s1.heap.objs.size (.lst [])->C=s.heap.objs.size->
  xb C s H fp x s'->notedBy (model X.prog X.w) X.A (dW X scope N' C s H fp (xb C s H fp)).env (xT X C) x s'
variable {elt tg iter:Expr} {ifs:List Expr} {pos:Pos} {wi:TI} {g:TG} {tt:TT}
theorem jR {gens:List Comprehension} {xb:Addr->Shared->Hp->List Addr->Value->Shared->Prop} {pins:List (Addr×Obj)} {σ:St} {H2:Hp} {s2:Shared} {it:Addr} {fp:List Addr} {tn:Nat->Heap->Prop} {J:It} {F:Hp->Prop} {tb:Addr->TB} {body:Value->Env->Sem Unit} {p:Pos} {RR:Value->Addr->Result->Shared->Prop} (hc:X.calm=true) (B:dk X scope N' cap) (hX:wY X scope N' xb)
  (heq:∀lJ acc env,compTurn (.ListComp elt (⟨tg,iter,ifs,0⟩::gens) scope pos) 0 lJ acc env=cP (.ListComp elt (⟨tg,iter,ifs,0⟩::gens) scope pos) 0 lJ acc env tg ifs p (body acc env))
  (lG:GL (bX cap σ) g) (hg:∀C s H fp,PG (dW X scope N' C s H fp (xb C s H fp)) tg g) (ht:∀C s H fp,xH (dW X scope N' C s H fp (xb C s H fp)) ifs tt) (hb:∀C s H fp D,PB (dW X scope N' C s H fp (xb C s H fp)) (body (.ref D) (dW X scope N' C s H fp (xb C s H fp)).env) (tb D))
  (I2:Inv X pins σ H2 s2) (T:Turn X.prog X.w X.K tg J fp it tn) (rG:tn 0 s2.heap) (f2:∀b∈fp,eR X pins H2 b) (hF:m9 J g tt (tb s2.heap.objs.size) (bX cap σ) F (upd H2 s2.heap.objs.size (.lst [])))
  (IW:∀C s' H' m,s2.heap.objs.size < C->Inv X pins σ H' s'->s'.heap.Ns C m->eR X pins H' C->F H'->RR (.ref s2.heap.objs.size) C (.ok .next) s') (Gn:∀C x s',xT X C x s'->RR (.ref s2.heap.objs.size) C (.error x) s') {E:Value->Shared->Prop}:
  wpAny (model X.prog X.w) X.A (newList []) (λacc s₃=>wpAny (model X.prog X.w) X.A (newFunctionEnv scope X.env.globals (dO scope X.env) [] X.env.qual none .none (some X.env)) (λqT s₄=>
   codeAny (model X.prog X.w) X.A (.compStart (.ListComp elt (⟨tg,iter,ifs,0⟩::gens) scope pos) 0 (.ref it) acc {qT with scope:=relabel scope X.env}) (RR acc qT.locals) s₄) E s₃) E s2:=by
 refine wpAny_newObj_type (lU λh₁ hh₁=>?_);have I3:=I2.BL (ys:=[]) (its:=[]) (t':=s2.toks) .nil (Nat.zero_le _);dsimp only at hh₁ ⊢;have hC:(s2.heap.push {cls:= .type "list",data:= .seq ([]:List Value).toArray}).objs.size=s2.heap.objs.size + 1:=J3 ..;generalize hD:s2.heap.objs.size=D at *;have wL:∀b∈fp,b < D:=λb hb=>by obtain⟨o,e,_⟩:=T.obj 0 _ rG b hb;rw[<-hD];exact JI e
 have f3:∀b∈fp,eR X pins (upd H2 D (.lst [])) b:=λb hb=>⟨by rw[ar (J4 (wL b hb))];exact(f2 b hb).1,(f2 b hb).2⟩
 generalize hs3:({s2 with heap:=s2.heap.push {cls:= .type "list",data:= .seq ([]:List Value).toArray},toks:=s2.toks}:Shared)=s3 at I3;have uy:s3.heap=s2.heap.push {cls:= .type "list",data:= .seq ([]:List Value).toArray}:=by rw[<-hs3]
 have xO:s3.heap.objs.size=D + 1:=by rw[uy];exact hC
 have IB:=oz (xe:=xb s3.heap.objs.size s3 (upd H2 D (.lst [])) fp) (tk:=s2.toks) B I3 f3 (λb hb=>by rw[xO];exact Nat.lt_succ_of_lt (wL b hb));have hk:∀b o,s3.heap.get? b=some o->(pushCells (s3.heap.push {cls:= .type "dict",data:= .dict #[]}) scope.names).get? b=some o:=λb o e=>pushCells_keeps _ _ _ _ (Jx _ e)
 rw[<-uy] at hh₁;rw[<-hh₁] at IB hk;have e4:({s3 with heap:=h₁,toks:=s2.toks}:Shared)={s2 with heap:=h₁}:=by rw[<-hs3]
 rw[e4] at IB;rw[hC];have kb:∀{H':Hp},(∀b∈fp,H' b=none)->∀b∈fp,eR (dW X scope N' s3.heap.objs.size s3 (upd H2 D (.lst [])) fp (xb s3.heap.objs.size s3 (upd H2 D (.lst [])) fp)) [] H' b:=λhn b hb=>
  ⟨hn b hb,by show b≠s3.heap.objs.size;rw[xO];exact J4 (Nat.lt_succ_of_lt (wL b hb)),λz=>(by
   rcases JK.mp (I3.iL b z) with q | q
   ·exact(f3 b hb).2.1 q
   ·exact(f3 b hb).2.2.1 q),.inl hb,(IB.ok.y7 b hb).2,λp hp=>absurd hp (by intro z;cases z)⟩
 have loop:∀s':Shared,s'={s2 with heap:=h₁}->codeAny (model X.prog X.w) X.A (.compLoop (.ListComp elt (⟨tg,iter,ifs,0⟩::gens) scope pos) 0 (.ref it) (.ref D) (dW X scope N' s3.heap.objs.size s3 (upd H2 D (.lst [])) fp (xb s3.heap.objs.size s3 (upd H2 D (.lst [])) fp)).env)
   (RR (.ref D) (D + 1)) s':=by
  rintro s' rfl;refine jN (X:=dW X scope N' s3.heap.objs.size s3 (upd H2 D (.lst [])) fp (xb s3.heap.objs.size s3 (upd H2 D (.lst [])) fp)) hc (heq _ _ _) (λx s' q=>?_) (hg _ _ _ _) lG (ht _ _ _ _) (hb _ _ _ _ D) IB T (T.keep _ _ _ rG (λb hb o e=>hk b o (by rw[uy];exact Jx _ e))) (kb λb hb=>(f3 b hb).1) hF λs5 H5 I5 qn=>?_
  ·have z:=hX.note pins σ s3.heap.objs.size s3 s2 (upd H2 D (.lst [])) H2 fp x s' I2 f2 (by rw[xO,hD];exact Nat.lt_succ_self _) hs3.symm (by rw[hD]) rfl q;rw[xO] at z;exact wpAny_mono z (λ_ s'' w=>Gn (D + 1) x s'' w) λy s'' w=>Gn (D + 1) y s'' w
  ·obtain⟨m5,Be,_⟩:=I5.loc;have un:Un (dh X.stack) fp H2 H5 s2.heap s5.heap:=by
    have u1:Un (dh X.stack) fp H2 (upd H2 D (.lst [])) s2.heap s3.heap:=by rw[uy];exact Un.laid (λb u e=>Jx _ e) (by rw[hD];exact JE _) (by rw[<-hD];exact I2.fresh)
    exact u1.trans I5.base
   have hI:Inv X pins σ H5 s5:=I2.uo (ch:=fp) (I5.os.trans (by show s3.os=s2.os;rw[<-hs3])) un I5.hok I5.bare λb hb=>⟨(f2 b hb).2.2.2.1,(f2 b hb).2.1,(f2 b hb).2.2.2.2.1,(f2 b hb).2.2.2.2.2⟩
   have tN:s5.heap.Ns (D + 1) m5:=by have q:s5.heap.Ns s3.heap.objs.size m5:=Be;rw[xO] at q;exact q
   have D3:H5 (D + 1)=none:=by have q:H5 s3.heap.objs.size=none:=I5.free;rw[xO] at q;exact q
   exact IW (D + 1) s5 H5 m5 (Nat.lt_succ_self _) hI tN (I2.n9 (by rw[hD];exact Nat.le_succ _) D3) qn
 have Ei:({newEnv scope (D + 1) X.env.globals (cellsFrom (D + 1 + 1) scope.names (dO scope X.env)) X.env.qual none .none (some X.env) builtinsNs with scope:=relabel scope X.env}:Env)=(dW X scope N' s3.heap.objs.size s3 (upd H2 D (.lst [])) fp (xb s3.heap.objs.size s3 (upd H2 D (.lst [])) fp)).env:=by unfold dW;rw[xO];rfl
 have go:=codeAny_compStart_list (loop _ rfl) (T.self X.A 0 _ _ _ (T.keep _ _ _ rG (λb hb o e=>hk b o (by rw[uy];exact Jx _ e))) (loop _ rfl));rw[<-Ei] at go;exact go
end
noncomputable def kc (cap:List (Option Nat)) (wi:TI) (g:TG) (tt:TT) (tb:Addr->TB):TE:=λσ H Q=>wi σ H λJ H1=>∀D,H1 D=none->GL (bX cap σ) g/\m9 J g tt (tb D) (bX cap σ) (λH'=>Q (.ref D) H') (upd H1 D (.lst []))
section
variable {X:Cx} {scope:Scope} {N':List Str} {cap:List (Option Nat)} {elt tg iter:Expr} {ifs:List Expr} {gens:List Comprehension} {pos p:Pos} {wi:TI} {g:TG} {tt:TT} {tb:Addr->TB} {body:Value->Env->Sem Unit} {xb:Addr->Shared->Hp->List Addr->Value->Shared->Prop}
theorem lX (hc:X.calm=true) (B:dk X scope N' cap) (hX:wY X scope N' xb) (hi:PI X tg iter wi) (heq:∀lJ acc env,compTurn (.ListComp elt (⟨tg,iter,ifs,0⟩::gens) scope pos) 0 lJ acc env=cP (.ListComp elt (⟨tg,iter,ifs,0⟩::gens) scope pos) 0 lJ acc env tg ifs p (body acc env))
  (hg:∀C s H fp,PG (dW X scope N' C s H fp (xb C s H fp)) tg g) (ht:∀C s H fp,xH (dW X scope N' C s H fp (xb C s H fp)) ifs tt) (hb:∀C s H fp D,PB (dW X scope N' C s H fp (xb C s H fp)) (body (.ref D) (dW X scope N' C s H fp (xb C s H fp)).env) (tb D))
  (hs:∀x,foldedSetIterable iter X.env x=pure x:=by intro _;rfl):PE X (.ListComp elt (⟨tg,iter,ifs,0⟩::gens) scope pos) (kc cap wi g tt tb):=by
 intro pins s σ H Q I h;rw[eval_ListComp];refine wpAny_comprehension_free (use:=none) rfl hs (eJ (B.frees I.ok)) B.kind (λy hy e=>by rw[B.nd y hy,e]) (bq (hi pins s σ H _ I h) λx s₁ h₁=>bq h₁ λlJ s₂ h₂=>?_);obtain⟨it,fp,tn,J,H2,e,I2,T,rG,f2,hF⟩:=h₂;subst e;obtain⟨lG,hW⟩:=hF _ I2.fresh;refine jR (RR:=λacc C=>compPost (model X.prog X.w) X.A X.xe none (EP X pins σ Q) acc C) hc B hX heq lG hg ht hb I2 T rG f2 hW (λC s' H' m hC I' hn fC q=>?_) λC x s' z=>z
 refine⟨m,hn,λh' hsb=>⟨.ref _,H',I'.turned (t':=s'.toks) (λb o hb e=>(hsb.2 b hb).trans e) fC.1 fC.2.1 fC.2.2.2.1 fC.2.2.2.2.1 fC.2.2.2.2.2,rfl,q⟩⟩
theorem gJ {i:Nat} {x:Str} {pos' Bd:Pos} (hc:X.calm=true) (hN:X.N.Nodup) (Jd:X.N[i]?=some x) (hx:X.env.kindOf x=some .local) (B:dk X scope N' cap) (hX:wY X scope N' xb) (hi:PI X tg iter wi) (heq:∀lJ acc env,compTurn (.ListComp elt (⟨tg,iter,ifs,0⟩::gens) scope pos) 0 lJ acc env=cP (.ListComp elt (⟨tg,iter,ifs,0⟩::gens) scope pos) 0 lJ acc env tg ifs p (body acc env))
  (hg:∀C s H fp,PG (dW X scope N' C s H fp (xb C s H fp)) tg g) (ht:∀C s H fp,xH (dW X scope N' C s H fp (xb C s H fp)) ifs tt) (hb:∀C s H fp D,PB (dW X scope N' C s H fp (xb C s H fp)) (body (.ref D) (dW X scope N' C s H fp (xb C s H fp)).env) (tb D))
  (hs:∀x,foldedSetIterable iter X.env x=pure x:=by intro _;rfl)
  (zf:swapsWith (.ListComp elt (⟨tg,iter,ifs,0⟩::gens) scope pos) (some (.Name x pos')) Bd.line X.env=pure true:=by rfl):
  PS X (.Assign [.Name x pos'] (.ListComp elt (⟨tg,iter,ifs,0⟩::gens) scope pos) Bd) (lC (kc cap wi g tt tb) (cG i)):=by
 intro pins s σ H D I h;rw[exec_Assign_Name_used _ _ _ _ zf];refine Jv (wpAny_standAt (Jv ?_));show wpAny _ X.A (do let _<-comprehension (.ListComp elt (⟨tg,iter,ifs,0⟩::gens) scope pos) scope X.env _ (newList []) false (eval iter X.env) (some (assign (.Name x pos') X.env))) _ _ s;refine Jv (wpAny_mono (wpAny_comprehension_free (use:=some (assign (.Name x pos') X.env)) (Q:=λ_ s'=>SP X pins D .next s') rfl hs (eJ (B.frees I.ok)) B.kind (λy hy e=>by rw[B.nd y hy,e]) (bq (hi pins s σ H _ I h) λx s₁ h₁=>bq h₁ λlJ s₂ h₂=>?_))
  (λ_ s' hq=>Jy (Jy hq)) λ_ _ e=>e)
 obtain⟨it,fp,tn,J,H2,e,I2,T,rG,f2,hF⟩:=h₂;subst e;obtain⟨lG,hW⟩:=hF _ I2.fresh;refine jR (RR:=λacc C=>compPost (model X.prog X.w) X.A X.xe (some (assign (.Name _ pos') X.env)) (λ_ s'=>SP X pins D .next s') acc C) hc B hX heq lG hg ht hb I2 T rG f2 hW (λC s' H' m hC I' hn fC q=>?_) λC x s' z=>z
 show wpAny _ X.A (assign (.Name _ pos') X.env (.ref _)) _ _ _;refine wpAny_assign_Name (j0 (v:= .ref _) I' hN Jd (.inl hx) rfl (λs3 I3 hsb=>?_) (.inr hx));obtain⟨a,sb,ha⟩:=hsb;have IV:C≠a:=by
  rcases ha with rfl | ha
  ·exact fC.2.1
  ·exact Ne.symm (fC.2.2.2.2.1 _ a ha)
 refine⟨m,hn.sameBut sb IV,λh' hsb'=>?_⟩;exact⟨_,H',I3.turned (t':=s3.toks) (λb o hb e=>(hsb'.2 b hb).trans e) fC.1 fC.2.1 fC.2.2.2.1 fC.2.2.2.2.1 fC.2.2.2.2.2,q⟩
end
end L2
end
section
namespace Mx
open PySem
structure Dd (s s':Heap):Prop where
 sz:s.objs.size<=s'.objs.size
 none:∀b,b < s.objs.size->s.get? b=none->s'.get? b=none
theorem Dd.refl (h:Heap):Dd h h:=⟨JE _,λ_ _ z=>z⟩
theorem Dd.trans {a b c:Heap} (x:Dd a b) (y:Dd b c):Dd a c:=by grind [Dd]
theorem Dd.push (h:Heap) (o:Obj):Dd h (h.push o):=⟨by rw[J3];exact Nat.le_succ _,λb hb z=>by
 cases hq:(h.push o).get? b with
 | none=>rfl
 | some o'=>
  obtain⟨q1,q2⟩:=Heap.get?_some_iff.mp hq;have q3:h.objs[b]?=some o':=by have e:(h.objs.push o)[b]?=some o':=q1;rw[Array.getElem?_push,if_neg (J4 hb)] at e;exact e
  rw[Heap.get?_some_iff.mpr ⟨q3,q2⟩] at z;cases z⟩
theorem Dd.update (h:Heap) (a:Addr) (f:Obj->Obj) (ha:(h.get? a).isSome):Dd h (h.update a f):=⟨by rw[Heap.size_after_update];exact JE _,λb hb z=>by
 by_cases e:a=b
 ·subst e;rw[z] at ha;cases ha
 ·rw[J0 _ _ e];exact z⟩
theorem kG {M:Model} {Γ:Ctx} {p:Pos} {t:Sem PySem.Fin} {fs:List Frame} {s s':Shared} {e:End} (h:Runs M Γ p t fs s e s'):Dd s.heap s'.heap:=by
 induction h with
 | update ha _ ih=>exact(Dd.update _ _ _ ha).trans ih
 | alloc _ ih=>exact(Dd.push _ _).trans ih
 | done=>exact Dd.refl _
 | raise=>exact Dd.refl _
 | yield=>exact Dd.refl _
 | call _ _ ih1 ih2=>exact ih1.trans ih2
 | resumeFresh _ _ _ _ ih1 ih2=>exact Dd.trans (b:=_) ih1 ih2
 | resumeSuspended _ _ _ _ ih1 ih2=>exact Dd.trans (b:=_) ih1 ih2
 | segRet _ _ ih1 ih2=>exact ih1.trans ih2
 | segGen _ _ ih1 ih2=>exact Dd.trans (b:=_) ih1 ih2
 | segSuspGen _ _ _ _ ih1 ih2=>exact Dd.trans (b:=_) ih1 ih2
 | _=>assumption
theorem sY {M:Model} {Γ:Ctx} {p:Pos} {g:Nat} {r:Resume} {s s':Shared} {res:GenResult} (h:Wakes M Γ p g r s res s'):Dd s.heap s'.heap:=by
 unfold Wakes at h;split at h
 ·exact h.elim
 ·split at h
  ·obtain⟨e₁,s₁,hr,_,_,rfl⟩:=h;exact(kG hr:Dd (s.setGen g .running).heap s₁.heap)
  ·rw[h.2];exact Dd.refl _
  ·rw[h.2];exact Dd.refl _
 ·obtain⟨e₁,s₁,hr,_,_,rfl⟩:=h;exact(kG hr:Dd (s.setGen g .running).heap s₁.heap)
 ·rw[h.2];exact Dd.refl _
 ·rw[h.2];exact Dd.refl _
theorem CA {α:Type} (M:Model) (Γ:Ctx) (h0:Heap) (t:Sem α):∀(Q:α->Pos->Shared->Prop) (E:Value->Pos->Shared->Prop) (p:Pos) (s:Shared),Dd h0 s.heap->Sem.wp M Γ t Q E p s->
  Sem.wp M Γ t (λa p' s'=>Dd h0 s'.heap/\Q a p' s') (λe p' s'=>Dd h0 s'.heap/\E e p' s') p s:=by
 induction t with
 | pure a=>intro Q E p s hn h;exact⟨hn,h⟩
 | raise e=>intro Q E p s hn h;exact⟨hn,h⟩
 | unsupported _=>intro Q E p s _ h;exact h
 | finish _=>intro Q E p s _ h;exact h
 | rule _ k ih=>intro Q E p s hn h;exact ih () Q E p s hn h
 | «at» p' k ih=>intro Q E p s hn h;exact ih () Q E p' s hn h
 | load a _ k ih=>intro Q E p s hn h;obtain⟨o,ho,h⟩:=h;exact⟨o,ho,ih o Q E p s hn h⟩
 | update a _ f k ih=>intro Q E p s hn h;exact⟨h.1,ih () Q E p _ (hn.trans (Dd.update _ _ _ h.1)) h.2⟩
 | loadIfAlive a k ih=>intro Q E p s hn h;exact ih _ Q E p s hn h
 | point _ k ih=>intro Q E p s hn h;exact ih () Q E p s hn h
 | register _ _=>intro Q E p s _ h;exact h
 | alloc o k ih=>intro Q E p s hn h;exact ih _ Q E p _ (hn.trans (Dd.push _ _)) h
 | fresh k ih=>intro Q E p s hn h;exact ih _ Q E p _ hn h
 | ask k ih=>intro Q E p s hn h;exact ih _ Q E p s hn h
 | choose src m k ih=>intro Q E p s hn h;exact⟨h.1,ih _ Q E p _ hn h.2⟩
 | os q _ k ih=>intro Q E p s hn h;exact ih _ Q E p _ hn h
 | call c hd _ _ k ih=>intro Q E p s hn h;obtain⟨r,s',hr,h⟩:=h;exact⟨r,s',hr,ih r Q E p s' (hn.trans (kG hr)) h⟩
 | handled own k ih=>intro Q E p s hn h;exact ih _ Q E p s hn h
 | genState g k ih=>intro Q E p s hn h;obtain⟨st,hs,h⟩:=h;exact⟨st,hs,ih _ Q E p s hn h⟩
 | newGen c k ih=>intro Q E p s hn h;exact ih _ Q E p _ hn h
 | resume g r _ k ih=>intro Q E p s hn h;obtain⟨res,s',hw,h⟩:=h;exact⟨res,s',hw,ih res Q E p s' (hn.trans (sY hw)) h⟩
 | yield _ _ _ _=>intro Q E p s _ h;exact h
 | stack k ih=>intro Q E p s hn h;exact ih _ Q E p s hn h
 | fork _ _=>intro Q E p s _ h;exact h
 | thread k ih=>intro Q E p s hn h;exact ih _ Q E p s hn h
 | await _ _ _ _ _=>intro Q E p s _ h;exact h
theorem jw {α:Type} {M:Model} {A:Around} {s:Shared} {t:Sem α} {Q:α->Shared->Prop} {E:Value->Shared->Prop} (h:wpAny M A t (λa s'=>Dd s.heap s'.heap->Q a s') (λe s'=>Dd s.heap s'.heap->E e s') s):wpAny M A t Q E s:=
 have q:wpAny M A t (λa s'=>Dd s.heap s'.heap/\(Dd s.heap s'.heap->Q a s')) (λe s'=>Dd s.heap s'.heap/\(Dd s.heap s'.heap->E e s')) s:=λΓ p hΓ=>CA M Γ s.heap t _ _ p s (Dd.refl _) (h Γ p hΓ)
 wpAny_mono q (λ_ _ x=>x.2 x.1) (λ_ _ x=>x.2 x.1)
end Mx
end
section
namespace L2
open PySem PySem.Spec PyProof.Rows
theorem i9 (o:Obj) (f:Array Value->Array Value):(o.mapFields f).dict=o.dict:=by obtain⟨c,d,dt,sl⟩:=o;cases dt <;> rfl
noncomputable def ck (h:Heap) (a T:Addr):Prop:=∃o vs,h.get? a=some o/\o.data= .fields vs/\vs[1]?=some (.ref T)
structure fJ (N:Nat) (cls:Value) (a:Addr) (H:Hp) (h:Heap):Prop where
 ge:N<=a
 nH:H a=none
 obj:∃o vs,h.get? a=some o/\(o.cls=cls/\o.dict=none)/\o.data= .fields vs/\(vs[1]?=some .none\/∃T,vs[1]?=some (.ref T))
 tb:∀T,ck h a T->N<=T/\H T=none/\T≠a/\∃oT ts,h.get? T=some oT/\oT.data= .fields ts/\3 < ts.size
structure nX (fs:List Addr) (a:Addr) (h h':Heap):Prop where
 keep:∀b o,h.get? b=some o->b≠a->¬ck h a b->b∉fs->h'.get? b=some o
 slot:∀b o,h.get? b=some o->b≠a->¬ck h a b->∃sl,h'.get? b=some {o with slots:=sl}
 there:∀b o,h.get? b=some o->∃o',h'.get? b=some o'
 tb:∀T,ck h' a T->ck h a T\/h.get? T=none
theorem nX.trans {fs:List Addr} {a:Addr} {h h1 h2:Heap} (x:nX fs a h h1) (y:nX fs a h1 h2):nX fs a h h2 where
 keep:=λb o e n nt nf=>by
  have e1:=x.keep b o e n nt nf;exact y.keep b o e1 n (λz=>by
   rcases x.tb b z with q | q
   ·exact nt q
   ·rw[e] at q;cases q) nf
 slot:=λb o e n nt=>by
  obtain⟨sl,e1⟩:=x.slot b o e n nt;obtain⟨rJ,e2⟩:=y.slot b _ e1 n (λz=>by
   rcases x.tb b z with q | q
   ·exact nt q
   ·rw[e] at q;cases q)
  exact⟨rJ,e2⟩
 there:=λb o e=>by obtain⟨o1,e1⟩:=x.there b o e;exact y.there b o1 e1
 tb:=λT z=>by
  rcases y.tb T z with q | q
  ·exact x.tb T q
  ·right;cases hq:h.get? T with
   | none=>rfl
   | some o=>obtain⟨o',e'⟩:=x.there T o hq;rw[e'] at q;cases q
theorem nX.refl {fs:List Addr} {a:Addr} {h:Heap}:nX fs a h h:=⟨λ_ _ e _ _ _=>e,λ_ o e _ _=>⟨o.slots,e⟩,λ_ o e=>⟨o,e⟩,λ_ z=> .inl z⟩
section
variable {M:Model} {A:Around} {E:Value->Shared->Prop} {s:Shared} {N:Nat} {cls:Value} {a:Addr} {H:Hp} {base:Heap} {env d4:Env} {outer:List Env} {L:Addr}
theorem gT (e:Value) (h:env.frame=d4.frame):noteFrame e env=noteFrame e d4:=by unfold noteFrame PySem.frameOf;rw[h]
theorem ml (rF:A.frames=some (env::outer)) (hl:s.heap.FunFrames base (env::outer)) (hf:env.frame=some L) (F:fJ N cls a H s.heap) (fresh:∀b,s.heap.objs.size<=b->H b=none) {head:Value} {xf:Bool} {Q:Unit->Shared->Prop}
  (q:∀h',nX (dh (env::outer)) a s.heap h'->fJ N cls a H h'->(∃T,ck h' a T)->Q () {s with heap:=h'}):
  wpAny M A (do let x<-frameOf env;let pl<-entryPlaceOf L xf;let b<-EntryCells.newEntry head x .none (rawInt L) .none pl;setField (.ref a) 1 b) Q E s:=by
 obtain⟨oe,vs,he,mh,hd,h1⟩:=F.obj;have ke:1 < vs.size:=by rcases h1 with h1 | ⟨T,h1⟩ <;> exact(Array.getElem?_eq_some_iff.mp h1).1
 have Fh:a∉dh (env::outer):=λhm=>by obtain⟨_,o,ho,DM⟩:=hl.mem hm;rw[he] at ho;injection ho with ho;subst ho;exact DM vs hd
 refine Jv (wpAny_frameOf_fun rF hl hf λh₁ hs₁=>?_);refine Jv (wpAny_entryPlaceOf λpl jW=>?_);unfold EntryCells.newEntry newFields;refine Jv (wpAny_newObj_type ?_ (jW.sizeOk5 _ _ _ _ _));have he₁:h₁.get? a=some oe:=(hs₁.2.1 a Fh).trans he;generalize hT:({cls:= .type "traceback",dict:=none,data:= .fields ([head,.ref L,.none,rawInt L,.none]++(if pl.isEmpty then List.replicate 6 Value.none else pl)).toArray}:Obj)=oT;have Io:oT.data= .fields ([head,.ref L,.none,rawInt L,.none]++(if pl.isEmpty then List.replicate 6 Value.none else pl)).toArray:=by rw[<-hT]
 have Ii:oT.isFreed=false:=by rw[<-hT];rfl
 have he₂:=Jx (h:=h₁) oT he₁;refine wpAny_setField he₂ hd ke (q _ ?_ ?_ ?_)
 all_goals
  have hz:h₁.objs.size=s.heap.objs.size:=hs₁.1;have G2:h₁.objs.size≠a:=Nat.ne_of_gt (JI he₁);have hd₃:=Obj.data_mapFields hd (·.setIfInBounds 1 (Value.ref h₁.objs.size));have he₃:=Heap.get?_update_self (Obj.mapFields (·.setIfInBounds 1 (Value.ref h₁.objs.size))) he₂ (Obj.isFreed_of_fields hd₃);have hT₃:=(J0 (h₁.push oT) (Obj.mapFields (·.setIfInBounds 1 (Value.ref h₁.objs.size))) (Ne.symm G2)).trans (JG h₁ Ii);have kp:∀b o,b≠a->h₁.get? b=some o->((h₁.push oT).update a (Obj.mapFields (·.setIfInBounds 1 (Value.ref h₁.objs.size)))).get? b=some o:=λb o hb e=>
   (J0 _ _ (Ne.symm hb)).trans (Jx _ e)
  have GD:∀T,ck ((h₁.push oT).update a (Obj.mapFields (·.setIfInBounds 1 (Value.ref h₁.objs.size)))) a T->T=h₁.objs.size:=λT ⟨o,ws,z1,z2,z3⟩=>by rw[he₃] at z1;cases z1;rw[hd₃] at z2;cases z2;simp[ke] at z3;exact z3.symm
 ·refine⟨λb o e n nt nf=>kp b o n ((hs₁.2.1 b nf).trans e),λb o e n nt=>?_,λb o e=>?_,λT z=> .inr ?_⟩
  ·obtain⟨sl,e1⟩:=hs₁.2.2 b o e;exact⟨sl,kp b _ n e1⟩
  ·by_cases hb:b=a
   ·subst hb;exact⟨_,he₃⟩
   ·obtain⟨sl,e1⟩:=hs₁.2.2 b o e;exact⟨_,kp b _ hb e1⟩
  ·rw[GD T z,hz];exact Heap.get?_none_of_le (JE _)
 ·refine⟨F.ge,F.nH,⟨_,_,he₃,⟨(Obj.cls_mapFields _ _).trans mh.1,(i9 _ _).trans mh.2⟩,hd₃,.inr ⟨h₁.objs.size,by simp[ke]⟩⟩,λT z=>?_⟩;have e:=GD T z;subst e;refine⟨?_,fresh _ (by rw[hz];exact JE _),G2,oT,_,hT₃,Io,by simp⟩;rw[hz];exact JJ F.ge (Nat.le_of_lt (JI he))
 ·exact⟨h₁.objs.size,_,_,he₃,hd₃,by simp[ke]⟩
theorem tZ (rF:A.frames=some (env::outer)) (hl:s.heap.FunFrames base (env::outer)) (hf:env.frame=some L) (F:fJ N cls a H s.heap) (fresh:∀b,s.heap.objs.size<=b->H b=none) {Q:Unit->Shared->Prop}
  (q:∀h',nX (dh (env::outer)) a s.heap h'->fJ N cls a H h'->(∃T,ck h' a T)->Q () {s with heap:=h'}):wpAny M A (noteFrame (.ref a) env) Q E s:=by
 obtain⟨oe,vs,he,mh,hd,h1⟩:=id F.obj;unfold noteFrame;simp only[hf];rcases h1 with h1 | ⟨T,h1⟩
 ·refine Jv (wpAny_field he hd h1 ?_);rw[if_neg (by decide)];exact ml rF hl hf F fresh q
 ·have om:ck s.heap a T:=⟨oe,vs,he,hd,h1⟩;obtain⟨t1,t2,t3,oT,ts,hT,sH,h3⟩:=F.tb T om;refine Jv (wpAny_field he hd h1 ?_);rw[if_pos (show (Value.ref T != Value.none)=true from by simp)];refine Jv (wpAny_field hT sH (x:=ts[3]) (by simp[h3]) ?_);split
  ·have e:s={s with heap:=s.heap}:=by cases s;rfl
   rw[e];exact Jy (q s.heap nX.refl F ⟨T,om⟩)
  ·refine Jv (wpAny_setField hT sH h3 ?_);have other:∀b,b≠T->(s.heap.update T (Obj.mapFields (·.setIfInBounds 3 Value.none))).get? b=s.heap.get? b:=λb hb=>J0 _ _ (Ne.symm hb)
   have Bg:=Heap.get?_update_self (Obj.mapFields (·.setIfInBounds 3 Value.none)) hT (Obj.isFreed_of_fields (Obj.data_mapFields sH _));have A0:∀T',ck (s.heap.update T (Obj.mapFields (·.setIfInBounds 3 Value.none))) a T'->T'=T:=λT' ⟨o,ws,z1,z2,z3⟩=>by rw[other a (Ne.symm t3),he] at z1;cases z1;rw[hd] at z2;cases z2;rw[h1] at z3;cases z3;rfl
   have F':fJ N cls a H (s.heap.update T (Obj.mapFields (·.setIfInBounds 3 Value.none))):=by refine⟨F.ge,F.nH,⟨oe,vs,(other a (Ne.symm t3)).trans he,mh,hd,.inr ⟨T,h1⟩⟩,λT' z=>?_⟩;rw[A0 T' z];exact⟨t1,t2,t3,_,_,Bg,Obj.data_mapFields sH _,by simpa using h3⟩
   have yo:(s.heap.update T (Obj.mapFields (·.setIfInBounds 3 Value.none))).FunFrames base (env::outer):=hl.of_keeps λb o hb DM=>⟨o,(other b λz=>by
    subst z;rw[hT] at hb;cases hb;exact DM ts sH).trans hb,rfl⟩
   refine ml (s:={s with heap:=s.heap.update T (Obj.mapFields (·.setIfInBounds 3 Value.none))}) rF yo hf F' (λb hb=>fresh b (by
    have:(s.heap.update T (Obj.mapFields (·.setIfInBounds 3 Value.none))).objs.size=s.heap.objs.size:=Heap.size_after_update ..;rw[this] at hb;exact hb)) λh' x f t=>q h' (nX.trans ⟨λb o e n nt nf=>(other b λz=>nt (z▸om)).trans e,λb o e n nt=>⟨o.slots,(other b λz=>nt (z▸om)).trans e⟩,λb o e=>?_,λT' z=> .inl (by rw[A0 T' z];exact om)⟩ x) f t
   by_cases hb:b=T
   ·subst hb;exact⟨_,Bg⟩
   ·exact⟨o,(other b hb).trans e⟩
theorem pP (rF:A.frames=some (d4::outer)) (hl:s.heap.FunFrames base (d4::outer)) (Ie:d4.frame=some L) (hf:env.frame=d4.frame) (F:fJ N cls a H s.heap) (fresh:∀b,s.heap.objs.size<=b->H b=none) {Q:Unit->Shared->Prop}
  (q:∀h',nX (dh (d4::outer)) a s.heap h'->fJ N cls a H h'->(∃T,ck h' a T)->Q () {s with heap:=h'}):wpAny M A (noteFrame (.ref a) env) Q E s:=by
 rw[gT _ hf];exact tZ rF hl Ie F fresh q
theorem cV {fs:List Addr} {fl:Option Addr} (F:fJ N cls a H s.heap) (ht:∃T,ck s.heap a T) {Q:Unit->Shared->Prop} (q:∀h',nX fs a s.heap h'->fJ N cls a H h'->(∃T,ck h' a T)->Q () {s with heap:=h'}):wpAny M A (setFlight (.ref a) fl) Q E s:=by
 obtain⟨T,om⟩:=ht;obtain⟨t1,t2,t3,oT,ts,hT,sH,h3⟩:=F.tb T om;obtain⟨oe,vs,he,hd,h1⟩:=id om;obtain⟨Jm,rT,GB,mh,nW,_⟩:=id F.obj;rw[he] at GB;cases GB;unfold setFlight;refine Jv (wpAny_field he hd h1 ?_);rw[if_pos (show (Value.ref T != Value.none)=true from by simp)];refine wpAny_setField hT sH h3 ?_;generalize hx:(fl.elim Value.none λf=>rawInt f)=x;have other:∀b,b≠T->(s.heap.update T (Obj.mapFields (·.setIfInBounds 3 x))).get? b=s.heap.get? b:=λb hb=>J0 _ _ (Ne.symm hb)
 have Bg:=Heap.get?_update_self (Obj.mapFields (·.setIfInBounds 3 x)) hT (Obj.isFreed_of_fields (Obj.data_mapFields sH _));have A0:∀T',ck (s.heap.update T (Obj.mapFields (·.setIfInBounds 3 x))) a T'->T'=T:=λT' ⟨o,ws,z1,z2,z3⟩=>by rw[other a (Ne.symm t3),he] at z1;cases z1;rw[hd] at z2;cases z2;rw[h1] at z3;cases z3;rfl
 refine q _ ⟨λb o e n nt nf=>(other b λz=>nt (z▸om)).trans e,λb o e n nt=>⟨o.slots,(other b λz=>nt (z▸om)).trans e⟩,λb o e=>?_,λT' z=> .inl (by rw[A0 T' z];exact om)⟩ ⟨F.ge,F.nH,⟨oe,vs,(other a (Ne.symm t3)).trans he,mh,hd,.inr ⟨T,h1⟩⟩,λT' z=>?_⟩ ⟨T,oe,vs,(other a (Ne.symm t3)).trans he,hd,h1⟩
 ·by_cases hb:b=T
  ·subst hb;exact⟨_,Bg⟩
  ·exact⟨o,(other b hb).trans e⟩
 ·rw[A0 T' z];exact⟨t1,t2,t3,_,_,Bg,Obj.data_mapFields sH _,by simpa using h3⟩
theorem we {fs:List Addr} {Fj:String} {α:Type} (F:fJ N cls a H s.heap) (ht:∃T,ck s.heap a T) {Q:α->Shared->Prop} (q:∀h',nX fs a s.heap h'->fJ N cls a H h'->(∃T,ck h' a T)->E (.ref a) {s with heap:=h'}):wpAny M A (passOn Fj (.ref a) env:Sem α) Q E s:=by obtain⟨T,om⟩:=id ht;obtain⟨oe,vs,he,hd,h1⟩:=om;unfold PySem.passOn;refine Jv (wpAny_field he hd h1 ?_);rw[if_neg (show¬((Value.ref T==Value.none)=true) from by simp)];exact Jv (cV F ht λh' x f t=>wpAny_throw (q h' x f t))
theorem xj {fs:List Addr} (F:fJ N cls a H s.heap) (ht:∃T,ck s.heap a T) (q:∀h',nX fs a s.heap h'->fJ N cls a H h'->(∃T,ck h' a T)->E (.ref a) {s with heap:=h'}):cameBackBy M A env E (.ref a) s:=by obtain⟨T,om⟩:=id ht;obtain⟨oe,vs,he,hd,h1⟩:=om;unfold cameBackBy;refine Jv (wpAny_field he hd h1 ?_);rw[if_neg (show¬((Value.ref T==Value.none)=true) from by simp)];exact cV F ht λh' x f t=>q h' x f t
end
section
variable {X:Cx} {σ:St} {H:Hp} {s:Shared} {cls:Value} {a:Addr}
theorem Inv.z9 {h':Heap} (xA:X.pn=[]) (I:Inv X [] σ H s) (F:fJ X.s₀.heap.objs.size cls a H s.heap) (x:nX (dh X.stack) a s.heap h'):Inv X [] σ H {s with heap:=h'}:=by
 obtain⟨oa,va,ha,Gj,Hm,Jj⟩:=F.obj;have Gd:∀b,ck s.heap a b->X.s₀.heap.objs.size<=b/\H b=none/\b≠a/\∃oT ts,s.heap.get? b=some oT/\oT.data= .fields ts/\3 < ts.size:=F.tb;have GU:∀b o,s.heap.get? b=some o->(∀vs,o.data≠ .fields vs)->b≠a/\¬ck s.heap a b:=λb o e nf=>by
  refine⟨λz=>?_,λz=>?_⟩
  ·subst z;rw[ha] at e;cases e;exact nf va Hm
  ·obtain⟨_,_,_,oT,ts,hT,sH,_⟩:=Gd b z;rw[hT] at e;cases e;exact nf ts sH
 have old:∀b o,X.s₀.heap.get? b=some o->b≠a/\¬ck s.heap a b:=λb o e=>by
  refine⟨λz=>?_,λz=>?_⟩
  ·subst z;exact absurd (JT (JI e) F.ge) (Nat.lt_irrefl _)
  ·exact absurd (JT (JI e) (Gd b z).1) (Nat.lt_irrefl _)
 have Dv:∀b o,X.s₀.heap.get? b=some o->b≠X.env.locals:=λb o e=>J4 (JT (JI e) I.ok.above)
 have xu:∀b o,X.s₀.heap.get? b=some o->b∈dh X.stack->b∈X.fs:=λb o e z=>by
  rcases JK.mp (I.iL b z) with q | q
  ·exact absurd q (Dv b o e)
  ·exact q
 have zN:∀c u,H c=some u->∀v,s.heap.get? c=some v->h'.get? c=some v:=λc u hc v e=>by
  refine x.keep c v e (λz=>by subst z;rw[F.nH] at hc;cases hc) (λz=>by rw[(Gd c z).2.1] at hc;cases hc) λz=>?_
  rw[I.lB c z] at hc;cases hc
 have cellK:∀y c,X.env.cells.lookup y=some c->∀v,s.heap.IsCell c v->h'.IsCell c v:=λy c e v ⟨o,ho,hd⟩=>by
  obtain⟨n1,n2⟩:=GU c o ho λvs q=>by rw[hd] at q;cases q
  obtain⟨sl,q⟩:=x.slot c o ho n1 n2;exact⟨_,q,hd⟩
 refine⟨I.ok,I.os,I.bare,⟨λb o e n hb hx=>?_,λb o e n hb hx=>?_,I.base.free,λb o e hx=>?_,I.base.tups,I.base.frzs,I.base.tbls⟩,?_,λy c e=>?_,I.free,I.bO,λp hp=>?_,?_,I.len⟩
 ·exact x.keep b o (I.base.keep b o e n hb hx) (old b o e).1 (old b o e).2 λz=>hb (xu b o e z)
 ·obtain⟨sl,e1⟩:=I.base.slot b o e n hb hx;obtain⟨Bm,e2⟩:=x.slot b _ e1 (old b o e).1 (old b o e).2;exact⟨Bm,e2⟩
 ·obtain⟨o',e1⟩:=I.base.there b o e hx;exact x.there b o' e1
 ·obtain⟨m,⟨o,es,ep,ho,hd,r⟩,hl⟩:=I.loc;obtain⟨n1,n2⟩:=GU _ o ho λvs q=>by rw[hd] at q;cases q
  obtain⟨sl,q⟩:=x.slot _ o ho n1 n2;refine⟨m,⟨_,es,ep,q,hd,r⟩,λi y v e1 e2 e3=>?_⟩;obtain⟨u,rr,l⟩:=hl i y v e1 e2 e3;refine⟨u,rr,?_⟩;rcases l with l | ⟨k,c,e,z⟩
  ·exact .inl l
  ·exact .inr ⟨k,c,e,cellK y c e _ z⟩
 ·obtain⟨v,z⟩:=I.cell y c e;exact⟨v,cellK y c e v z⟩
 ·rw[xA] at hp;cases hp
 ·intro b u e;refine(I.hok b u e).iY (λc v hc q=>?_) (λ_ q=>q) λ_ _ q=>q
  rcases hc with rfl | hc
  ·exact zN c u e v q
  ·exact zN c _ hc v q
end
noncomputable def fU (X:Cx) (E:XK) (e:Value) (s':Shared):Prop:=∃σ H' a cls,e= .ref a/\Inv X [] σ H' s'/\fJ X.s₀.heap.objs.size cls a H' s'.heap/\E cls none H'
noncomputable def lH (P:Program) (w:World):ib:=λouter H s E e s'=>∃H' a cls,e= .ref a/\s'.os=s.os/\AllBare s'.gens/\Un (dh outer) [] H H' s.heap s'.heap/\dm P w H' s'.heap/\fJ s.heap.objs.size cls a H' s'.heap/\E cls none H'
structure cU (X:Cx):Prop where
 pn:X.pn=[]
 st:∃d4 iW L,X.stack=d4::iW/\d4.frame=some L/\X.env.frame=d4.frame
section
variable {X:Cx} {E:XK}
theorem tf {CX:ib} {P:Program} {w:World} {K:PySem.W.Frag} {mg:Str->Option Value} {base:Heap} {N:List Str} {qual:Str} {scope:Scope} {f:Addr} {cd:Value} {A:Around} {outer:List Env} {s:Shared} {H:Hp}:cU (iH CX P w K mg base N qual scope f cd A outer s H E):=
 ⟨rfl,_,_,_,rfl,rfl,rfl⟩
theorem kR {scope:Scope} {N':List Str} {C:Addr} {s:Shared} {H:Hp} {fp:List Addr} {xe:Value->Shared->Prop} (st:cU X):cU (dW X scope N' C s H fp xe):=by obtain⟨hp,d4,iW,L,h1,h2,h3⟩:=st;exact⟨rfl,d4,iW,L,h1,h2,h3⟩
theorem fJ.down {N N':Nat} {cls:Value} {a:Addr} {H:Hp} {h:Heap} (F:fJ N cls a H h) (hn:N'<=N):fJ N' cls a H h:=⟨JJ hn F.ge,F.nH,F.obj,λT z=>⟨JJ hn (F.tb T z).1,(F.tb T z).2⟩⟩
theorem sd {pins:List (Addr×Obj)} {σ:St} {H:Hp} {s s':Shared} {e:Value} (I:Inv X pins σ H s) (xA:X.pn=[]) (c:lH X.prog X.w X.stack H s E e s'):fU X E e s':=by
 obtain⟨H',a,cls,e1,h1,h2,h3,h4,h5,h6⟩:=c;have I1:Inv X pins σ H' s':=I.uo (ch:=[]) h1 h3 h4 h2 λb z=>by cases z
 refine⟨σ,H',a,cls,e1,I1.ey (λp hp=>by cases hp),h5.down I.sz,h6⟩
theorem jP (st:cU X) {e:Value} {s:Shared} (h:fU X E e s) {Q:Unit->Shared->Prop} {E2:Value->Shared->Prop} (q:∀σ H' a cls s',e= .ref a->Inv X [] σ H' s'->fJ X.s₀.heap.objs.size cls a H' s'.heap->(∃T,ck s'.heap a T)->E cls none H'->Q () s'):wpAny (model X.prog X.w) X.A (noteFrame e X.env) Q E2 s:=by
 obtain⟨σ,H',a,cls,rfl,I,F,hE⟩:=h;obtain⟨hp,d4,iW,L,h1,h2,h3⟩:=st;have rF:=I.ok.frames;have hl:=I.stack;rw[h1] at rF hl;refine pP rF hl h2 h3 F (λb hb=>I.hok.fresh hb) λh' x f t=>?_
 rw[<-h1] at x;exact q σ H' a cls _ rfl (I.z9 hp F x) f t hE
theorem lW (st:cU X) {e:Value} {s:Shared} (h:fU X E e s) {R:Value->Shared->Prop} (q:∀σ H' a cls s',e= .ref a->Inv X [] σ H' s'->fJ X.s₀.heap.objs.size cls a H' s'.heap->(∃T,ck s'.heap a T)->E cls none H'->R e s'):notedBy (model X.prog X.w) X.A X.env R e s:=
 jP st h q
theorem lA (st:cU X) (hx:∀e s',fU X E e s'->X.xe e s') (CD:∀e s',X.xe e s'->fU X E e s'):PassesOwn (model X.prog X.w) X.A X.env X.xe:=λe s' h=>by
 refine lW st (CD e s' h) λσ H' a cls s1 e1 I1 F1 t1 hE=>?_
 subst e1;exact xj (fs:=dh X.stack) F1 t1 λh' x f t=>hx _ _ ⟨σ,H',a,cls,rfl,I1.z9 st.pn F1 x,f,hE⟩
end
theorem yK {P:Program} {w:World} {K:PySem.W.Frag} {mg:Str->Option Value} {base:Heap} {N:List Str} {qual:Str} {scope:Scope} {f:Addr} {cd:Value} {A:Around} {outer:List Env} {s:Shared} {H:Hp} {E:XK} {e:Value} {s':Shared}
  (h:fU (iH (lH P w) P w K mg base N qual scope f cd A outer s H E) E e s'):(iH (lH P w) P w K mg base N qual scope f cd A outer s H E).xe e s':=by
 have st:=tf (CX:=lH P w) (P:=P) (w:=w) (K:=K) (mg:=mg) (base:=base) (N:=N) (qual:=qual) (scope:=scope) (f:=f) (cd:=cd) (A:=A) (outer:=outer) (s:=s) (H:=H) (E:=E);show wpAny (model P w) (A.deeper (envOfC qual scope s.heap.objs.size f cd)) (leaving (envOfC qual scope s.heap.objs.size f cd) e) (λ_ s''=>lH P w outer H s E e s'') (λe' s''=>lH P w outer H s E e' s'') s';unfold leaving;refine Jv (jP st h λσ H' a cls s1 e1 I1 F1 t1 hE=>?_);subst e1;refine cV (fs:=dh (iH (lH P w) P w K mg base N qual scope f cd A outer s H E).stack) F1 t1 λh' x f' t=>?_
 have I2:=I1.z9 st.pn F1 x;exact⟨H',a,cls,rfl,I2.os,I2.bare,I2.base,I2.hok,f',hE⟩
section
variable {X:Cx} {E:XK} {scope:Scope} {N':List Str}
theorem Cx.Ok.xe {xe:Value->Shared->Prop} (k:X.Ok):Cx.Ok {X with xe:=xe}:=by grind [Cx.Ok]
theorem Inv.xe {xe:Value->Shared->Prop} {pins:List (Addr×Obj)} {σ:St} {H:Hp} {s:Shared} (I:Inv X pins σ H s):Inv {X with xe:=xe} pins σ H s:=⟨I.ok.xe,I.os,I.bare,I.base,I.loc,I.cell,I.free,I.bO,I.pin,I.hok,I.len⟩
noncomputable def oY (X:Cx) (scope:Scope) (N':List Str) (E:XK) (C:Addr) (s:Shared) (H:Hp) (fp:List Addr):Value->Shared->Prop:=fU (dW X scope N' C s H fp λ_ _=>False) E
theorem sN {C:Addr} {s:Shared} {H:Hp} {fp:List Addr} {e:Value} {s':Shared} {xe:Value->Shared->Prop} (h:fU (dW X scope N' C s H fp xe) E e s'):oY X scope N' E C s H fp e s':=by obtain⟨σ,H',a,cls,e1,I,F,hE⟩:=h;exact⟨σ,H',a,cls,e1,I.xe,F,hE⟩
theorem t9 {C:Addr} {s:Shared} {H:Hp} {fp:List Addr} {e:Value} {s':Shared} {xe:Value->Shared->Prop} (h:oY X scope N' E C s H fp e s'):fU (dW X scope N' C s H fp xe) E e s':=by obtain⟨σ,H',a,cls,e1,I,F,hE⟩:=h;exact⟨σ,H',a,cls,e1,I.xe,F,hE⟩
theorem qm {C:Addr} {s:Shared} {H:Hp} {fp:List Addr} (st:cU X):PassesOwn (model X.prog X.w) X.A (dW X scope N' C s H fp (oY X scope N' E C s H fp)).env (oY X scope N' E C s H fp):=
 lA (X:=dW X scope N' C s H fp (oY X scope N' E C s H fp)) (E:=E) (kR st) (λe s' h=>sN h) (λe s' h=>t9 h)
theorem fJ.at {h0:Nat} {cls:Value} {a:Addr} {H:Hp} {h h':Heap} (F:fJ h0 cls a H h) (k:∀b o vs,h.get? b=some o->o.data= .fields vs->h'.get? b=some o):fJ h0 cls a H h':=by obtain⟨o,vs,h1,h2,h3,h4⟩:=F.obj;have e1:=k a o vs h1 h3;refine⟨F.ge,F.nH,⟨o,vs,e1,h2,h3,h4⟩,λT z=>?_⟩;obtain⟨o',ws,z1,z2,z3⟩:=z;rw[e1] at z1;cases z1;obtain⟨t1,t2,t3,oT,ts,t4,t5,t6⟩:=F.tb T ⟨o,ws,h1,z2,z3⟩;exact⟨t1,t2,t3,oT,ts,k T oT ts t4 t5,t5,t6⟩
theorem iy (st:cU X) (Ht:∀e s',fU X E e s'->X.xe e s'):wY X scope N' (oY X scope N' E):=by
 refine⟨λpins σ C s s1 H H1 fp x s' I1 f1 hC hs hH xO hxb=>?_⟩;refine lW (X:=dW X scope N' C s H fp (oY X scope N' E C s H fp)) (kR st) (t9 hxb) λσ' H' a cls s5 e1 I5 F5 t5 hE=>?_
 subst e1;obtain⟨m5,Be,_⟩:=I5.loc;have tN:s5.heap.Ns C m5:=Be;refine⟨m5,tN,λh' hsb qT yj=>?_⟩;have un:Un (dh X.stack) fp H1 H' s1.heap s5.heap:=by
  have u1:Un (dh X.stack) fp H1 H s1.heap s.heap:=by rw[hH,hs];exact Un.laid (λb u e=>Jx _ e) (JE _) I1.fresh
  exact u1.trans I5.base
 have hI:Inv X pins σ H' s5:=I1.uo (ch:=fp) (I5.os.trans (by show s.os=s1.os;rw[hs])) un I5.hok I5.bare λb hb=>⟨(f1 b hb).2.2.2.1,(f1 b hb).2.1,(f1 b hb).2.2.2.2.1,(f1 b hb).2.2.2.2.2⟩
 have fC:eR X pins H' C:=I1.n9 (Nat.le_of_lt hC) I5.free;have Ik:Inv X pins σ H' {s5 with heap:=h',toks:=s5.toks}:=hI.turned (t':=s5.toks) (λb o hb e=>(hsb.2 b hb).trans e) fC.1 fC.2.1 fC.2.2.2.1 fC.2.2.2.2.1 fC.2.2.2.2.2;have Iv:Inv X [] σ H' {s5 with heap:=h'}:=Ik.ey λp hp=>by cases hp
 have ke:s1.heap.objs.size<=s.heap.objs.size:=by rw[hs];show _<=(s1.heap.push _).objs.size;rw[J3];exact Nat.le_succ _
 have F6:fJ X.s₀.heap.objs.size cls a H' h':=by
  have hd:∀b o vs,s5.heap.get? b=some o->o.data= .fields vs->h'.get? b=some o:=λb o vs e hd=>by refine(hsb.2 b λz=>?_).trans e;subst z;obtain⟨o',es,ep,oS,nW,_⟩:=tN;rw[e] at oS;cases oS;rw[hd] at nW;cases nW
  exact(F5.at hd).down (JJ I1.sz ke)
 have t6:∃T,ck h' a T:=by obtain⟨T,o,vs,z1,z2,z3⟩:=t5;refine⟨T,o,vs,(hsb.2 a λz=>?_).trans z1,z2,z3⟩;subst z;obtain⟨o',es,ep,oS,nW,_⟩:=tN;rw[z1] at oS;cases oS;rw[z2] at nW;cases nW
 exact we (s:={s5 with heap:=h'}) (fs:=dh X.stack) F6 t6 λh'' x f t=>Ht _ _ ⟨σ,H',a,cls,rfl,Iv.z9 st.pn F6 x,f,hE⟩
end
end L2
end
section
namespace Rx
open PySem PySem.W PySem.Spec PyProof.Rows L2 PySem.SeqAt
inductive Dt where
 | a6 | bl (b:Bool) | int (i:Int) | str (x:Str) | tup (ds:List Dt) | lst (ds:List Dt) | bR (ns:List Int)
 | wH (ks vs:List Dt) | obj (c:Nat) (fs:List Dt) | exc (c:Nat)
noncomputable abbrev Frag:=PySem.W.Frag
noncomputable def KL (K:Frag) (a:Addr) (xs:List V):Prop:=∃(o:Obj) (its:Array Value) (n:Nat),K.lookup a=some o/\o.cls= .type "list"/\o.dict=none/\o.data= .seq its n/\its.size<=sizeLine/\au xs its.toList
mutual
noncomputable def RV (K:Frag) (A:Addr->Prop) (H:Hp):V->Dt->Prop
 | x,.a6=>x= .a6
 | x,.bl b=>x= .bl b
 | x,.int i=>x= .int i
 | x,.str z=>x= .str z
 | x,.tup ds=>∃a xs,x= .ref a/\H a=some (.tup xs)/\aj K A H xs ds
 | x,.lst ds=>∃a xs,x= .ref a/\H a=some (.lst xs)/\¬A a/\aj K A H xs ds
 | x,.bR ns=>∃a,x= .ref a/\((Rd H a (.lst (ns.map V.int))/\¬A a)\/KL K a (ns.map V.int))
 | _,.wH _ _=>False
 | _,.obj _ _=>False
 | _,.exc _=>False
noncomputable def aj (K:Frag) (A:Addr->Prop) (H:Hp):List V->List Dt->Prop
 | [],[]=>True
 | x::xs,d::ds=>RV K A H x d/\aj K A H xs ds
 | [],_::_=>False
 | _::_,[]=>False
end
section
variable {K:Frag} {A B:Addr->Prop} {H H':Hp}
theorem RV.ay {x:V} (h:RV K A H x .a6):x= .a6:=by unfold RV at h;exact h
theorem RV.aw {x:V} {b} (h:RV K A H x (.bl b)):x= .bl b:=by unfold RV at h;exact h
theorem RV.int_inv {x:V} {b} (h:RV K A H x (.int b)):x= .int b:=by unfold RV at h;exact h
theorem RV.str_inv {x:V} {b} (h:RV K A H x (.str b)):x= .str b:=by unfold RV at h;exact h
theorem RV.ag {x:V} {ds} (h:RV K A H x (.tup ds)):∃a xs,x= .ref a/\H a=some (.tup xs)/\aj K A H xs ds:=by unfold RV at h;exact h
theorem RV.lst_inv {x:V} {ds} (h:RV K A H x (.lst ds)):∃a xs,x= .ref a/\H a=some (.lst xs)/\¬A a/\aj K A H xs ds:=by unfold RV at h;exact h
theorem RV.et {x:V} {ns} (h:RV K A H x (.bR ns)):∃a,x= .ref a/\((Rd H a (.lst (ns.map V.int))/\¬A a)\/KL K a (ns.map V.int)):=by unfold RV at h;exact h
theorem RV.gc {x:V} {ns} (h:RV K A H x (.bR ns)):∃a,x= .ref a/\cW K H a (ns.map V.int):=by
 obtain⟨a,e,h | h⟩:=h.et
 ·exact⟨a,e,.inl h.1⟩
 ·exact⟨a,e,.inr h⟩
theorem RV.gZ {x:V} {ks vs} (h:RV K A H x (.wH ks vs)):False:=by unfold RV at h;exact h
theorem RV.hJ {x:V} {ks vs} (h:RV K A H x (.obj ks vs)):False:=by unfold RV at h;exact h
theorem RV.hZ {x:V} {ks} (h:RV K A H x (.exc ks)):False:=by unfold RV at h;exact h
theorem RV.eS:RV K A H .a6 .a6:=by unfold RV;rfl
theorem RV.jJ {b}:RV K A H (.bl b) (.bl b):=by unfold RV;rfl
theorem RV.cz {b}:RV K A H (.int b) (.int b):=by unfold RV;rfl
theorem RV.fZ {b}:RV K A H (.str b) (.str b):=by unfold RV;rfl
theorem RV.cD {a xs ds} (h:H a=some (.tup xs)) (t:aj K A H xs ds):RV K A H (.ref a) (.tup ds):=by unfold RV;exact⟨a,xs,rfl,h,t⟩
theorem RV.cR {a xs ds} (h:H a=some (.lst xs)) (n:¬A a) (t:aj K A H xs ds):RV K A H (.ref a) (.lst ds):=by unfold RV;exact⟨a,xs,rfl,h,n,t⟩
theorem aj.nil:aj K A H [] []:=by unfold aj;trivial
theorem aj.cons {x d xs ds} (h:RV K A H x d) (t:aj K A H xs ds):aj K A H (x::xs) (d::ds):=by unfold aj;exact⟨h,t⟩
theorem aj.nil_inv {xs} (h:aj K A H xs []):xs=[]:=by
 cases xs with
 | nil=>rfl
 | cons=>unfold aj at h;exact h.elim
theorem aj.cy {ds} (h:aj K A H [] ds):ds=[]:=by
 cases ds with
 | nil=>rfl
 | cons=>unfold aj at h;exact h.elim
theorem aj.cons_inv {xs d ds} (h:aj K A H xs (d::ds)):∃x r,xs=x::r/\RV K A H x d/\aj K A H r ds:=by
 cases xs with
 | nil=>unfold aj at h;exact h.elim
 | cons x r=>unfold aj at h;exact⟨x,r,rfl,h⟩
theorem aj.jB {x xs ds} (h:aj K A H (x::xs) ds):∃d r,ds=d::r/\RV K A H x d/\aj K A H xs r:=by
 cases ds with
 | nil=>unfold aj at h;exact h.elim
 | cons d r=>unfold aj at h;exact⟨d,r,rfl,h⟩
theorem aj.length:∀{xs ds},aj K A H xs ds->xs.length=ds.length
 | [],[],_=>rfl
 | [],_::_,h=>by unfold aj at h;exact h.elim
 | _::_,[],h=>by unfold aj at h;exact h.elim
 | _::xs,_::ds,h=>by unfold aj at h;simp[aj.length h.2]
theorem aj.get:∀{xs ds} {i:Nat} {x},aj K A H xs ds->xs[i]?=some x->∃d,ds[i]?=some d/\RV K A H x d
 | [],_,_,_,_,e=>by simp at e
 | _::_,[],_,_,h,_=>by unfold aj at h;exact h.elim
 | _::_,_::_,0,_,h,e=>by unfold aj at h;simp at e;subst e;exact⟨_,rfl,h.1⟩
 | _::xs,_::ds,i + 1,x,h,e=>by unfold aj at h;obtain⟨d,e1,e2⟩:=aj.get (i:=i) h.2 (by simpa using e);exact⟨d,by simpa using e1,e2⟩
theorem aj.getD:∀{xs ds} {i:Nat} {d},aj K A H xs ds->ds[i]?=some d->∃x,xs[i]?=some x/\RV K A H x d
 | _,[],_,_,_,e=>by simp at e
 | [],_::_,_,_,h,_=>by unfold aj at h;exact h.elim
 | _::_,_::_,0,_,h,e=>by unfold aj at h;simp at e;subst e;exact⟨_,rfl,h.1⟩
 | _::xs,_::ds,i + 1,x,h,e=>by unfold aj at h;obtain⟨d,e1,e2⟩:=aj.getD (i:=i) h.2 (by simpa using e);exact⟨d,by simpa using e1,e2⟩
theorem aj.append:∀{xs ys ds es},aj K A H xs ds->aj K A H ys es->aj K A H (xs++ys) (ds++es)
 | [],_,[],_,_,h=>h
 | [],_,_::_,_,h,_=>by unfold aj at h;exact h.elim
 | _::_,_,[],_,h,_=>by unfold aj at h;exact h.elim
 | _::xs,ys,_::ds,es,h,h'=>by unfold aj at h;exact aj.cons h.1 (aj.append h.2 h')
theorem aj.take:∀{xs ds} (n:Nat),aj K A H xs ds->aj K A H (xs.take n) (ds.take n)
 | [],ds,n,h=>by rw[h.cy];simp;exact aj.nil
 | x::xs,[],n,h=>by unfold aj at h;exact h.elim
 | x::xs,d::ds,0,h=>by simp;exact aj.nil
 | x::xs,d::ds,n + 1,h=>by unfold aj at h;simp only[List.take_succ_cons];exact aj.cons h.1 (aj.take n h.2)
theorem aj.drop:∀{xs ds} (n:Nat),aj K A H xs ds->aj K A H (xs.drop n) (ds.drop n)
 | [],ds,n,h=>by rw[h.cy];simp;exact aj.nil
 | x::xs,[],n,h=>by unfold aj at h;exact h.elim
 | x::xs,d::ds,0,h=>h
 | x::xs,d::ds,n + 1,h=>by unfold aj at h;simp only[List.drop_succ_cons];exact aj.drop n h.2
theorem aj.set:∀{xs ds} (n:Nat) {x d},aj K A H xs ds->RV K A H x d->aj K A H (xs.set n x) (ds.set n d)
 | [],ds,n,_,_,h,_=>by rw[h.cy];simp;exact aj.nil
 | x::xs,[],n,_,_,h,_=>by unfold aj at h;exact h.elim
 | x::xs,d::ds,0,_,_,h,h'=>by unfold aj at h;simp only[List.set_cons_zero];exact aj.cons h' h.2
 | x::xs,d::ds,n + 1,_,_,h,h'=>by unfold aj at h;simp only[List.set_cons_succ];exact aj.cons h.1 (aj.set n h.2 h')
structure aI (X:Addr->Prop) (H H':Hp):Prop where
 kp:∀b o,H b=some o->¬X b->H' b=some o
 tp:∀b xs,H b=some (.tup xs)->H' b=some (.tup xs)
theorem aI.of_same {X:Addr->Prop} (s:bw H H'):aI X H H':=⟨λb o e _=>s b o e,λb xs e=>s b _ e⟩
theorem aI.refl {X:Addr->Prop}:aI X H H:=⟨λ_ _ e _=>e,λ_ _ e=>e⟩
theorem aI.trans {X:Addr->Prop} {H1:Hp} (a:aI X H H1) (b:aI X H1 H'):aI X H H':=⟨λc o e n=>b.kp c o (a.kp c o e n) n,λc xs e=>b.tp c xs (a.tp c xs e)⟩
theorem aI.mono {X Y:Addr->Prop} (a:aI X H H') (h:∀b,X b->Y b):aI Y H H':=⟨λb o e n=>a.kp b o e λz=>n (h b z),a.tp⟩
theorem tF {X:Addr->Prop} {a:Addr} {u:HO} (e:aI X H H') (n:¬X a) (h:Rd H a u):Rd H' a u:=by grind [HO,aI,Rd]
mutual
theorem RV.mono {X:Addr->Prop} (e:aI X H H') (hX:∀b,X b->A b) (hB:∀b,B b->A b):∀{x d},RV K A H x d->RV K B H' x d
 | x,.a6,h=>by rw[h.ay];exact RV.eS
 | x,.bl b,h=>by rw[h.aw];exact RV.jJ
 | x,.int b,h=>by rw[h.int_inv];exact RV.cz
 | x,.str b,h=>by rw[h.str_inv];exact RV.fZ
 | x,.tup ds,h=>by obtain⟨a,xs,rfl,h1,h2⟩:=h.ag;exact RV.cD (e.tp _ _ h1) (aj.mono e hX hB h2)
 | x,.lst ds,h=>by obtain⟨a,xs,rfl,h1,h3,h2⟩:=h.lst_inv;exact RV.cR (e.kp _ _ h1 λz=>h3 (hX _ z)) (λz=>h3 (hB _ z)) (aj.mono e hX hB h2)
 | x,.bR ns,h=>by
  obtain⟨a,rfl,⟨h1,h3⟩ | h1⟩:=h.et
  ·unfold RV;exact⟨a,rfl,.inl ⟨tF e (λz=>h3 (hX _ z)) h1,λz=>h3 (hB _ z)⟩⟩
  ·unfold RV;exact⟨a,rfl,.inr h1⟩
 | x,.wH ..,h=>h.gZ.elim
 | x,.obj ..,h=>h.hJ.elim
 | x,.exc ..,h=>h.hZ.elim
theorem aj.mono {X:Addr->Prop} (e:aI X H H') (hX:∀b,X b->A b) (hB:∀b,B b->A b):∀{xs ds},aj K A H xs ds->aj K B H' xs ds
 | [],[],_=>aj.nil
 | [],_::_,h=>by unfold aj at h;exact h.elim
 | _::_,[],h=>by unfold aj at h;exact h.elim
 | _::xs,_::ds,h=>by unfold aj at h;exact aj.cons (RV.mono e hX hB h.1) (aj.mono e hX hB h.2)
end
theorem RV.same {x d} (h:RV K A H x d) (s:bw H H'):RV K A H' x d:=h.mono (X:=λ_=>False) (aI.of_same s) (λ_ z=>z.elim) λ_ z=>z
theorem aj.same {x d} (h:aj K A H x d) (s:bw H H'):aj K A H' x d:=h.mono (X:=λ_=>False) (aI.of_same s) (λ_ z=>z.elim) λ_ z=>z
theorem RV.weak {x d} (h:RV K A H x d) (hB:∀b,B b->A b):RV K B H x d:=h.mono (X:=λ_=>False) aI.refl (λ_ z=>z.elim) hB
theorem aj.weak {x d} (h:aj K A H x d) (hB:∀b,B b->A b):aj K B H x d:=h.mono (X:=λ_=>False) aI.refl (λ_ z=>z.elim) hB
mutual
theorem RV.avoid {p:Addr} (hp:H p=none):∀{x d},RV K A H x d->RV K (λb=>A b\/b=p) H x d
 | x,.a6,h=>by rw[h.ay];exact RV.eS
 | x,.bl b,h=>by rw[h.aw];exact RV.jJ
 | x,.int b,h=>by rw[h.int_inv];exact RV.cz
 | x,.str b,h=>by rw[h.str_inv];exact RV.fZ
 | x,.tup ds,h=>by obtain⟨a,xs,rfl,h1,h2⟩:=h.ag;exact RV.cD h1 (aj.avoid hp h2)
 | x,.lst ds,h=>by obtain⟨a,xs,rfl,h1,h3,h2⟩:=h.lst_inv;exact RV.cR h1 (λz=>z.elim h3 λe=>by rw[e,hp] at h1;cases h1) (aj.avoid hp h2)
 | x,.bR ns,h=>by
  obtain⟨a,rfl,⟨h1,h3⟩ | h1⟩:=h.et
  ·unfold RV;refine⟨a,rfl,.inl ⟨h1,λz=>z.elim h3 λe=>?_⟩⟩;subst e;rcases h1 with h1 | ⟨o,h1⟩ <;> (rw[hp] at h1;cases h1)
  ·unfold RV;exact⟨a,rfl,.inr h1⟩
 | x,.wH ..,h=>h.gZ.elim
 | x,.obj ..,h=>h.hJ.elim
 | x,.exc ..,h=>h.hZ.elim
theorem aj.avoid {p:Addr} (hp:H p=none):∀{xs ds},aj K A H xs ds->aj K (λb=>A b\/b=p) H xs ds
 | [],[],_=>aj.nil
 | [],_::_,h=>by unfold aj at h;exact h.elim
 | _::_,[],h=>by unfold aj at h;exact h.elim
 | _::xs,_::ds,h=>by unfold aj at h;exact aj.cons (RV.avoid hp h.1) (aj.avoid hp h.2)
end
end
section
variable {K:Frag} {A B:Addr->Prop} {H:Hp}
mutual
theorem RV.bC (hp:∀b,B b->A b\/H b=none):∀{x d},RV K A H x d->RV K B H x d
 | x,.a6,h=>by rw[h.ay];exact RV.eS
 | x,.bl b,h=>by rw[h.aw];exact RV.jJ
 | x,.int b,h=>by rw[h.int_inv];exact RV.cz
 | x,.str b,h=>by rw[h.str_inv];exact RV.fZ
 | x,.tup ds,h=>by obtain⟨a,xs,rfl,h1,h2⟩:=h.ag;exact RV.cD h1 (aj.bC hp h2)
 | x,.lst ds,h=>by obtain⟨a,xs,rfl,h1,h3,h2⟩:=h.lst_inv;exact RV.cR h1 (λz=>(hp a z).elim h3 λe=>by rw[e] at h1;cases h1) (aj.bC hp h2)
 | x,.bR ns,h=>by
  obtain⟨a,rfl,⟨h1,h3⟩ | h1⟩:=h.et
  ·unfold RV;refine⟨a,rfl,.inl ⟨h1,λz=>(hp a z).elim h3 λe=>?_⟩⟩;rcases h1 with h1 | ⟨o,h1⟩ <;> (rw[e] at h1;cases h1)
  ·unfold RV;exact⟨a,rfl,.inr h1⟩
 | x,.wH ..,h=>h.gZ.elim
 | x,.obj ..,h=>h.hJ.elim
 | x,.exc ..,h=>h.hZ.elim
theorem aj.bC (hp:∀b,B b->A b\/H b=none):∀{xs ds},aj K A H xs ds->aj K B H xs ds
 | [],[],_=>aj.nil
 | [],_::_,h=>by unfold aj at h;exact h.elim
 | _::_,[],h=>by unfold aj at h;exact h.elim
 | _::xs,_::ds,h=>by unfold aj at h;exact aj.cons (RV.bC hp h.1) (aj.bC hp h.2)
end
end
mutual
noncomputable def jy:Dt->Bool
 | .a6 | .bl _ | .int _ | .str _=>true
 | .tup ds=>eU ds
 | _=>false
noncomputable def eU:List Dt->Bool
 | []=>true
 | d::ds=>jy d&&eU ds
end
mutual
theorem RV.jy {K:Frag} {A B:Addr->Prop} {H:Hp}:∀{x d},RV K A H x d->jy d=true->RV K B H x d
 | x,.a6,h,_=>by rw[h.ay];exact RV.eS
 | x,.bl b,h,_=>by rw[h.aw];exact RV.jJ
 | x,.int b,h,_=>by rw[h.int_inv];exact RV.cz
 | x,.str b,h,_=>by rw[h.str_inv];exact RV.fZ
 | x,.tup ds,h,n=>by obtain⟨a,xs,rfl,h1,h2⟩:=h.ag;exact RV.cD h1 (aj.eU h2 (by simpa [Rx.jy] using n))
 | x,.lst ds,_,n=>by simp[Rx.jy] at n
 | x,.bR ds,_,n=>by simp[Rx.jy] at n
 | x,.wH ..,h,_=>h.gZ.elim
 | x,.obj ..,h,_=>h.hJ.elim
 | x,.exc ..,h,_=>h.hZ.elim
theorem aj.eU {K:Frag} {A B:Addr->Prop} {H:Hp}:∀{xs ds},aj K A H xs ds->eU ds=true->aj K B H xs ds
 | [],[],_,_=>aj.nil
 | [],_::_,h,_=>by unfold aj at h;exact h.elim
 | _::_,[],h,_=>by unfold aj at h;exact h.elim
 | _::xs,_::ds,h,n=>by unfold aj at h;simp only[Rx.eU,Jz] at n;exact aj.cons (RV.jy h.1 n.1) (aj.eU h.2 n.2)
end
mutual
noncomputable def toD:Dt->Option Mx.D
 | .int i=>some (.int i)
 | .str x=>some (.str x)
 | .tup ds=>(iR ds).map Mx.D.tup
 | _=>none
noncomputable def iR:List Dt->Option (List Mx.D)
 | []=>some []
 | d::ds=>(toD d).bind λm=>(iR ds).map (m:: ·)
end
mutual
noncomputable def ofD:Mx.D->Dt
 | .int i=> .int i
 | .str x=> .str x
 | .tup ds=> .tup (aa ds)
noncomputable def aa:List Mx.D->List Dt
 | []=>[]
 | d::ds=>ofD d::aa ds
end
theorem aO:∀ds:List Mx.D,aa ds=ds.map ofD
 | []=>by simp[aa]
 | d::ds=>by simp[aa,aO ds]
mutual
theorem Aw:∀m:Mx.D,toD (ofD m)=some m
 | .int i=>by simp[ofD,toD]
 | .str x=>by simp[ofD,toD]
 | .tup ds=>by simp[ofD,toD,eD ds]
theorem eD:∀ms:List Mx.D,iR (aa ms)=some ms
 | []=>by simp[aa,iR]
 | m::ms=>by simp[aa,iR,Aw m,eD ms]
end
mutual
theorem zT:∀{d:Dt} {m:Mx.D},toD d=some m->d=ofD m
 | .int i,m,h=>by simp[toD] at h;subst h;simp[ofD]
 | .str i,m,h=>by simp[toD] at h;subst h;simp[ofD]
 | .tup ds,m,h=>by simp only[toD,JN] at h;obtain⟨ms,h1,rfl⟩:=h;rw[kq h1];simp[ofD]
 | .a6,m,h=>by simp[toD] at h
 | .bl _,m,h=>by simp[toD] at h
 | .lst _,m,h=>by simp[toD] at h
 | .bR _,m,h=>by simp[toD] at h
 | .wH _ _,m,h=>by simp[toD] at h
 | .obj _ _,m,h=>by simp[toD] at h
 | .exc _,m,h=>by simp[toD] at h
theorem kq:∀{ds:List Dt} {ms:List Mx.D},iR ds=some ms->ds=aa ms
 | [],ms,h=>by simp[iR] at h;subst h;simp[aa]
 | d::ds,ms,h=>by simp only[iR,Jw,JN] at h;obtain⟨m,h1,r,h2,rfl⟩:=h;rw[zT h1,kq h2];simp[aa]
end
mutual
theorem RV.dv {K:Frag} {A:Addr->Prop} {H:Hp}:∀{x} {m:Mx.D},RV K A H x (ofD m)->Mx.DV H x m
 | x,.int i,h=>by simp only[ofD] at h;rw[h.int_inv];exact Mx.DV.int
 | x,.str i,h=>by simp only[ofD] at h;rw[h.str_inv];exact Mx.DV.str
 | x,.tup ms,h=>by simp only[ofD] at h;obtain⟨a,xs,rfl,h1,h2⟩:=h.ag;exact Mx.DV.tup h1 (aj.rl h2)
theorem aj.rl {K:Frag} {A:Addr->Prop} {H:Hp}:∀{xs} {ms:List Mx.D},aj K A H xs (aa ms)->Mx.aP H xs ms
 | [],[],_=>Mx.aP.nil
 | [],_::_,h=>by simp only[aa] at h;unfold aj at h;exact h.elim
 | _::_,[],h=>by simp only[aa] at h;unfold aj at h;exact h.elim
 | _::xs,_::ds,h=>by simp only[aa] at h;unfold aj at h;exact Mx.aP.cons (RV.dv h.1) (aj.rl h.2)
end
mutual
theorem RV.C6 {K:Frag} {A:Addr->Prop} {H:Hp}:∀{x} {m:Mx.D},Mx.DV H x m->RV K A H x (ofD m)
 | x,.int i,h=>by simp only[ofD];rw[h.int_inv];exact RV.cz
 | x,.str i,h=>by simp only[ofD];rw[h.str_inv];exact RV.fZ
 | x,.tup ms,h=>by simp only[ofD];obtain⟨a,xs,rfl,h1,h2⟩:=h.ag;exact RV.cD h1 (aj.oN h2)
theorem aj.oN {K:Frag} {A:Addr->Prop} {H:Hp}:∀{xs} {ms:List Mx.D},Mx.aP H xs ms->aj K A H xs (aa ms)
 | [],[],_=>by simp only[aa];exact aj.nil
 | [],_::_,h=>by unfold Mx.aP at h;exact h.elim
 | _::_,[],h=>by unfold Mx.aP at h;exact h.elim
 | _::xs,_::ds,h=>by simp only[aa];unfold Mx.aP at h;exact aj.cons (RV.C6 h.1) (aj.oN h.2)
end
mutual
noncomputable def bM:Dt->Dt->Bool
 | .a6,.a6=>true
 | .bl a,.bl b=>a==b
 | .int a,.int b=>a==b
 | .bl a,.int b=>(if a then(1:Int) else 0)==b
 | .int a,.bl b=>a==(if b then(1:Int) else 0)
 | .str a,.str b=>a==b
 | .tup a,.tup b=>bE a b
 | .lst a,.lst b=>bE a b
 | _,_=>false
noncomputable def bE:List Dt->List Dt->Bool
 | [],[]=>true
 | x::xs,y::ys=>bM x y&&bE xs ys
 | _,_=>false
end
mutual
noncomputable def pl:Dt->Bool
 | .a6 | .bl _ | .int _ | .str _=>true
 | .tup ds=>nr ds
 | .lst ds=>nr ds
 | _=>false
noncomputable def nr:List Dt->Bool
 | []=>true
 | d::ds=>pl d&&nr ds
end
mutual
noncomputable def dp:Dt->Nat
 | .tup ds=>qD ds + 1
 | .lst ds=>qD ds + 1
 | _=>0
noncomputable def qD:List Dt->Nat
 | []=>0
 | d::ds=>max (dp d) (qD ds)
end
mutual
theorem fX:∀d:Dt,pl d=true->bM d d=true
 | .a6,_=>by simp[bM]
 | .bl b,_=>by simp[bM]
 | .int b,_=>by simp[bM]
 | .str b,_=>by simp[bM]
 | .tup ds,h=>by simp only[bM];exact eW ds (by simpa [pl] using h)
 | .lst ds,h=>by simp only[bM];exact eW ds (by simpa [pl] using h)
 | .bR _,h=>by simp[pl] at h
 | .wH _ _,h=>by simp[pl] at h
 | .obj _ _,h=>by simp[pl] at h
 | .exc _,h=>by simp[pl] at h
theorem eW:∀ds:List Dt,nr ds=true->bE ds ds=true
 | [],_=>by simp[bE]
 | d::ds,h=>by simp only[nr,Jz] at h;simp only[bE,Jz];exact⟨fX d h.1,eW ds h.2⟩
end
mutual
theorem RV.inj {K:Frag} {A B:Addr->Prop} {H:Hp}:∀{x d e},RV K A H x d->RV K B H x e->pl d=true->pl e=true->d=e
 | x,.a6,e,h,g,_,n=>by have:=h.ay;subst this;cases e <;> first | rfl | (exfalso;unfold RV at g;first | (simp[pl] at n;done) | (obtain⟨_,_,q,_⟩:=g;cases q;done) | (cases g;done))
 | x,.bl b,e,h,g,_,n=>by have:=h.aw;subst this;cases e <;> first | (unfold RV at g;injection g with g;rw[g]) | (exfalso;unfold RV at g;first | (simp[pl] at n;done) | (obtain⟨_,_,q,_⟩:=g;cases q;done) | (cases g;done))
 | x,.int b,e,h,g,_,n=>by have:=h.int_inv;subst this;cases e <;> first | (unfold RV at g;injection g with g;rw[g]) | (exfalso;unfold RV at g;first | (simp[pl] at n;done) | (obtain⟨_,_,q,_⟩:=g;cases q;done) | (cases g;done))
 | x,.str b,e,h,g,_,n=>by have:=h.str_inv;subst this;cases e <;> first | (unfold RV at g;injection g with g;rw[g]) | (exfalso;unfold RV at g;first | (simp[pl] at n;done) | (obtain⟨_,_,q,_⟩:=g;cases q;done) | (cases g;done))
 | x,.tup ds,e,h,g,m,n=>by
  obtain⟨a,xs,rfl,h1,h2⟩:=h.ag;cases e with
  | tup es=>obtain⟨b,ys,q,g1,g2⟩:=g.ag;cases q;rw[h1] at g1;cases g1;rw[aj.inj h2 g2 (by simpa [pl] using m) (by simpa [pl] using n)]
  | lst es=>obtain⟨b,ys,q,g1,_⟩:=g.lst_inv;cases q;rw[h1] at g1;cases g1
  | _=>exfalso;unfold RV at g;first | (simp[pl] at n;done) | (cases g;done)
 | x,.lst ds,e,h,g,m,n=>by
  obtain⟨a,xs,rfl,h1,_,h2⟩:=h.lst_inv;cases e with
  | lst es=>obtain⟨b,ys,q,g1,_,g2⟩:=g.lst_inv;cases q;rw[h1] at g1;cases g1;rw[aj.inj h2 g2 (by simpa [pl] using m) (by simpa [pl] using n)]
  | tup es=>obtain⟨b,ys,q,g1,_⟩:=g.ag;cases q;rw[h1] at g1;cases g1
  | _=>exfalso;unfold RV at g;first | (simp[pl] at n;done) | (cases g;done)
 | x,.bR ds,_,_,_,n,_=>by simp[pl] at n
 | x,.wH ..,_,_,_,n,_=>by simp[pl] at n
 | x,.obj ..,_,_,_,n,_=>by simp[pl] at n
 | x,.exc ..,_,_,_,n,_=>by simp[pl] at n
theorem aj.inj {K:Frag} {A B:Addr->Prop} {H:Hp}:∀{xs ds es},aj K A H xs ds->aj K B H xs es->nr ds=true->nr es=true->ds=es
 | [],ds,es,h,g,_,_=>by rw[h.cy,g.cy]
 | x::xs,ds,es,h,g,m,n=>by obtain⟨d,r,rfl,h1,h2⟩:=h.jB;obtain⟨e,t,rfl,g1,g2⟩:=g.jB;simp only[nr,Jz] at m n;rw[RV.inj h1 g1 m.1 n.1,aj.inj h2 g2 m.2 n.2]
end
noncomputable def pq (ds es:List Dt) (j:Nat):Bool:=match ds[j]?,es[j]? with
 | some d,some e=>bM d e
 | _,_=>true
theorem bT:∀ds es:List Dt,((List.range (min ds.length es.length)).all (pq ds es)&&ds.length==es.length)=bE ds es
 | [],[]=>by simp[bE]
 | [],_::_=>by simp[bE]
 | _::_,[]=>by simp[bE]
 | d::ds,e::es=>by
  have ih:=bT ds es;have hm:min (d::ds).length (e::es).length=min ds.length es.length + 1:=by simp only[JQ];lia
  have e1:((d::ds).length==(e::es).length)=(ds.length==es.length):=by rw[Bool.eq_iff_iff];simp
  rw[hm,List.range_succ_eq_map,List.all_cons,List.all_map,e1,bE,<-ih,Bool.and_assoc];rfl
theorem kh {d:Dt}:∀{ds:List Dt} {j:Nat},ds[j]?=some d->dp d<=qD ds
 | [],_,h=>by simp at h
 | d'::ds,0,h=>by simp at h;subst h;unfold qD;lia
 | d'::ds,j + 1,h=>by have:=kh (ds:=ds) (j:=j) (by simpa using h);unfold qD;lia
theorem e9 {d:Dt}:∀{ds:List Dt} {j:Nat},nr ds=true->ds[j]?=some d->pl d=true
 | [],_,_,h=>by simp at h
 | d'::ds,0,n,h=>by simp at h;subst h;simp only[nr,Jz] at n;exact n.1
 | d'::ds,j + 1,n,h=>by simp only[nr,Jz] at n;exact e9 (ds:=ds) (j:=j) n.2 (by simpa using h)
section
variable {P:Program} {w:World} {K:Frag} {A B:Addr->Prop} {H:Hp} {s:Shared}
theorem aF (hok:dm P w H s.heap) {a:Addr} {xs:List V} (h:H a=some (.lst xs)):∃its:List Value,au xs its/\s.heap.IsList a its.toArray:=by obtain⟨_,its,n,r,t⟩:=hok a _ h;exact⟨its,r,⟨_,t,rfl,_,rfl⟩⟩
theorem B4 (hok:dm P w H s.heap):∀(n:Nat) (d e:Dt) (x y:V) (u v:Value) (R:Around),dp d<=n->pl d=true->pl e=true->R.units + n < cLine->RV K A H x d->RV K B H y e->RelV x u->RelV y v->EqAt R s u v (bM d e):=by
 intro n
 induction n with
 | zero=>
  intro d e x y u v R hd iX dX hu hx hy rx ry;cases d with
  | a6=>
   have:=hx.ay;subst this;cases rx;cases e with
   | a6=>have:=hy.ay;subst this;cases ry;exact EqAt.same _
   | bl j=>have:=hy.aw;subst this;cases ry;exact EqAt.none_bool j
   | int j=>have:=hy.int_inv;subst this;obtain⟨t',rfl⟩:=ry;exact EqAt.none_int j t'
   | str j=>have:=hy.str_inv;subst this;obtain⟨t',rfl⟩:=ry;exact EqAt.none_str j t'
   | tup j=>obtain⟨b,ys,q,f1,f2⟩:=hy.ag;subst q;cases ry;obtain⟨its,_,ht⟩:=Mx.aq hok f1;exact EqAt.none_tuple ht (by lia)
   | lst j=>obtain⟨b,ys,q,f1,_,f2⟩:=hy.lst_inv;subst q;cases ry;obtain⟨its,_,ht⟩:=aF hok f1;exact EqAt.none_list ht (by lia)
   | _=>simp[pl] at dX
  | bl i=>
   have:=hx.aw;subst this;cases rx;cases e with
   | a6=>have:=hy.ay;subst this;cases ry;exact EqAt.bool_none _
   | bl j=>have:=hy.aw;subst this;cases ry;exact EqAt.bool_bool i j
   | int j=>have:=hy.int_inv;subst this;obtain⟨t',rfl⟩:=ry;exact EqAt.bool_int i j t'
   | str j=>have:=hy.str_inv;subst this;obtain⟨t',rfl⟩:=ry;exact EqAt.bool_str i j t'
   | tup j=>obtain⟨b,ys,q,f1,f2⟩:=hy.ag;subst q;cases ry;obtain⟨its,_,ht⟩:=Mx.aq hok f1;exact EqAt.bool_tuple i ht (by lia)
   | lst j=>obtain⟨b,ys,q,f1,_,f2⟩:=hy.lst_inv;subst q;cases ry;obtain⟨its,_,ht⟩:=aF hok f1;exact EqAt.bool_list i ht (by lia)
   | _=>simp[pl] at dX
  | int i=>
   have:=hx.int_inv;subst this;obtain⟨t,rfl⟩:=rx;cases e with
   | a6=>have:=hy.ay;subst this;cases ry;exact EqAt.int_none i t
   | bl j=>have:=hy.aw;subst this;cases ry;exact EqAt.int_bool i t j
   | int j=>have:=hy.int_inv;subst this;obtain⟨t',rfl⟩:=ry;exact EqAt.int_int i t j t'
   | str j=>have:=hy.str_inv;subst this;obtain⟨t',rfl⟩:=ry;exact EqAt.int_str i t j t'
   | tup j=>obtain⟨b,ys,q,f1,f2⟩:=hy.ag;subst q;cases ry;obtain⟨its,_,ht⟩:=Mx.aq hok f1;exact EqAt.int_tuple i t ht (by lia)
   | lst j=>obtain⟨b,ys,q,f1,_,f2⟩:=hy.lst_inv;subst q;cases ry;obtain⟨its,_,ht⟩:=aF hok f1;exact EqAt.int_list i t ht (by lia)
   | _=>simp[pl] at dX
  | str i=>
   have:=hx.str_inv;subst this;obtain⟨t,rfl⟩:=rx;cases e with
   | a6=>have:=hy.ay;subst this;cases ry;exact EqAt.str_none i t
   | bl j=>have:=hy.aw;subst this;cases ry;exact EqAt.str_bool i t j
   | int j=>have:=hy.int_inv;subst this;obtain⟨t',rfl⟩:=ry;exact EqAt.str_int i t j t'
   | str j=>have:=hy.str_inv;subst this;obtain⟨t',rfl⟩:=ry;exact EqAt.str_str i t j t'
   | tup j=>obtain⟨b,ys,q,f1,f2⟩:=hy.ag;subst q;cases ry;obtain⟨its,_,ht⟩:=Mx.aq hok f1;exact EqAt.str_tuple i t ht (by lia)
   | lst j=>obtain⟨b,ys,q,f1,_,f2⟩:=hy.lst_inv;subst q;cases ry;obtain⟨its,_,ht⟩:=aF hok f1;exact EqAt.str_list i t ht (by lia)
   | _=>simp[pl] at dX
  | tup ds=>unfold dp at hd;lia
  | lst ds=>unfold dp at hd;lia
  | _=>simp[pl] at iX
 | succ n ih=>
  intro d e x y u v R hd iX dX hu hx hy rx ry;cases d with
  | tup ds=>
   obtain⟨a,xs,q,e1,e2⟩:=hx.ag;subst q;cases rx;obtain⟨its,r1,ht⟩:=Mx.aq hok e1;cases e with
   | a6=>have:=hy.ay;subst this;cases ry;exact EqAt.tuple_none ht (by lia)
   | bl j=>have:=hy.aw;subst this;cases ry;exact EqAt.tuple_bool j ht (by lia)
   | int j=>have:=hy.int_inv;subst this;obtain⟨t',rfl⟩:=ry;exact EqAt.tuple_int j t' ht (by lia)
   | str j=>have:=hy.str_inv;subst this;obtain⟨t',rfl⟩:=ry;exact EqAt.tuple_str j t' ht (by lia)
   | lst j=>obtain⟨b,ys,q,f1,_,f2⟩:=hy.lst_inv;subst q;cases ry;obtain⟨aE,_,bD⟩:=aF hok f1;exact EqAt.tuple_list ht bD (by lia)
   | tup es=>
    obtain⟨b,ys,q,f1,f2⟩:=hy.ag;subst q;cases ry;obtain⟨aE,r2,bD⟩:=Mx.aq hok f1;by_cases gP:a=b
    ·subst gP;have:=RV.inj hx hy iX dX;cases this;rw[fX _ iX];exact EqAt.same _
    ·have l1:its.toArray.size=ds.length:=by rw[JA,<-r1.length,e2.length]
     have l2:aE.toArray.size=es.length:=by rw[JA,<-r2.length,f2.length]
     have key:=RcAt.tuples (A:=R) (e:=pq ds es) ht bD (by lia) (λj h1 h2=>?_)
     ·have q:=bT ds es;rw[<-l1,<-l2] at q;rw[q] at key;exact EqAt.of_refs gP key
     ·have jZ:j < xs.length:=by rw[e2.length,<-l1];exact h1
      have jC:j < ys.length:=by rw[f2.length,<-l2];exact h2
      obtain⟨d,g1,g2⟩:=e2.get (i:=j) (x:=xs[j]) (by simp[jZ]);obtain⟨e,k1,k2⟩:=f2.get (i:=j) (x:=ys[j]) (by simp[jC]);obtain⟨u,rQ,ru⟩:=r1.get (i:=j) (x:=xs[j]) (by simp[jZ]);obtain⟨v,yB,rv⟩:=r2.get (i:=j) (x:=ys[j]) (by simp[jC]);have eu:its.toArray[j]=u:=by simp only[List.getElem_toArray];exact(JC.mp rQ).2
      have ev:aE.toArray[j]=v:=by simp only[List.getElem_toArray];exact(JC.mp yB).2
      rw[eu,ev,show pq ds es j=bM d e by unfold pq;rw[g1,k1]];have:=kh g1;unfold dp at hd;exact ih d e xs[j] ys[j] u v R.in1 (by lia) (e9 (by simpa [pl] using iX) g1) (e9 (by simpa [pl] using dX) k1) (by show R.units + 1 + n < cLine;lia) g2 k2 ru rv
   | _=>simp[pl] at dX
  | lst ds=>
   obtain⟨a,xs,q,e1,_,e2⟩:=hx.lst_inv;subst q;cases rx;obtain⟨its,r1,ht⟩:=aF hok e1;cases e with
   | a6=>have:=hy.ay;subst this;cases ry;exact EqAt.list_none ht (by lia)
   | bl j=>have:=hy.aw;subst this;cases ry;exact EqAt.list_bool j ht (by lia)
   | int j=>have:=hy.int_inv;subst this;obtain⟨t',rfl⟩:=ry;exact EqAt.list_int j t' ht (by lia)
   | str j=>have:=hy.str_inv;subst this;obtain⟨t',rfl⟩:=ry;exact EqAt.list_str j t' ht (by lia)
   | tup j=>obtain⟨b,ys,q,f1,f2⟩:=hy.ag;subst q;cases ry;obtain⟨aE,_,bD⟩:=Mx.aq hok f1;exact EqAt.list_tuple ht bD (by lia)
   | lst es=>
    obtain⟨b,ys,q,f1,_,f2⟩:=hy.lst_inv;subst q;cases ry;obtain⟨aE,r2,bD⟩:=aF hok f1;by_cases gP:a=b
    ·subst gP;have:=RV.inj hx hy iX dX;cases this;rw[fX _ iX];exact EqAt.same _
    ·have l1:its.toArray.size=ds.length:=by rw[JA,<-r1.length,e2.length]
     have l2:aE.toArray.size=es.length:=by rw[JA,<-r2.length,f2.length]
     have q:=bT ds es;by_cases hl:ds.length=es.length
     ·have key:=RcAt.lists (A:=R) (e:=pq ds es) ht bD (by lia) (by lia) (λj h1 h2=>?_)
      ·rw[hl,Nat.min_self,beq_self_eq_true,Bool.and_true] at q;rw[l1,hl,q] at key;exact EqAt.of_refs gP key
      ·have jZ:j < xs.length:=by rw[e2.length,<-l1];exact h1
       have jC:j < ys.length:=by rw[f2.length,<-l2];exact h2
       obtain⟨d,g1,g2⟩:=e2.get (i:=j) (x:=xs[j]) (by simp[jZ]);obtain⟨e,k1,k2⟩:=f2.get (i:=j) (x:=ys[j]) (by simp[jC]);obtain⟨u,rQ,ru⟩:=r1.get (i:=j) (x:=xs[j]) (by simp[jZ]);obtain⟨v,yB,rv⟩:=r2.get (i:=j) (x:=ys[j]) (by simp[jC]);have eu:its.toArray[j]=u:=by simp only[List.getElem_toArray];exact(JC.mp rQ).2
       have ev:aE.toArray[j]=v:=by simp only[List.getElem_toArray];exact(JC.mp yB).2
       rw[eu,ev,show pq ds es j=bM d e by unfold pq;rw[g1,k1]];have:=kh g1;unfold dp at hd;exact ih d e xs[j] ys[j] u v R.in1 (by lia) (e9 (by simpa [pl] using iX) g1) (e9 (by simpa [pl] using dX) k1) (by show R.units + 1 + n < cLine;lia) g2 k2 ru rv
     ·have key:=RcAt.lists_lengths (A:=R) ht bD (by rw[l1,l2];simpa using hl) (by lia);have hb:(ds.length==es.length)=false:=by simpa using hl
      rw[hb,Bool.and_false] at q;show EqAt R s _ _ (bE ds es);rw[<-q];exact EqAt.of_refs gP key
   | _=>simp[pl] at dX
  | _=>exact ih _ e x y u v R (by unfold dp;lia) iX dX (by lia) hx hy rx ry
end
inductive R (α:Type) where
 | ok (a:α) | ex (c:Nat) | bad
noncomputable def R.bind {α β:Type}:R α->(α->R β)->R β
 | .ok a,f=>f a
 | .ex c,_=> .ex c
 | .bad,_=> .bad
@[simp] theorem R.ak {α β:Type} (a:α) (f:α->R β):(R.ok a).bind f=f a:=rfl
noncomputable def R.nx {α:Type}:R α->R α
 | .ok a=> .ok a
 | _=> .bad
noncomputable abbrev lim:Nat:=1000000
noncomputable abbrev ai:=List (Option Dt)
noncomputable abbrev Sx:=Option (List Int)
noncomputable def ah (b:Bool) {α:Type} (r:R α):R α:=if b then r else .bad
@[simp] theorem guard_true {α:Type} (r:R α):ah true r=r:=rfl
noncomputable def mC (o:Operator) (a b:Dt):R Dt:=match o with
 | .Add=>match a,b with
  | .int i,.int j=> .ok (.int (i + j))
  | .str x,.str y=>ah (decide (x.length + y.length<=lim)) (.ok (.str (x++y)))
  | .lst x,.lst y=>ah (decide (x.length + y.length<=lim)) (.ok (.lst (x++y)))
  | .tup x,.tup y=>ah (decide (x.length + y.length<=lim)) (.ok (.tup (x++y)))
  | _,_=> .bad
 | .Mult=>match a,b with
  | .int i,.int j=>ah (decide (i.natAbs < 2 ^ 64)||decide (j.natAbs < 2 ^ 64)) (.ok (.int (i * j)))
  | _,_=> .bad
 | .FloorDiv=>match a,b with
  | .int i,.int j=>ah (decide (0 < j)&&decide (j.natAbs.log2 < 9000)) (.ok (.int (i / j)))
  | _,_=> .bad
 | .Mod=>match a,b with
  | .int i,.int j=>ah (decide (0 < j)) (.ok (.int (i % j)))
  | _,_=> .bad
 | _=> .bad
noncomputable def oW (d e:Dt):Bool:=pl d&&pl e&&decide (dp d<=100)
noncomputable def itemsOf:Dt->Option (List Dt)
 | .lst ds=>some ds
 | .tup ds=>some ds
 | .bR ns=>some (ns.map Dt.int)
 | _=>none
noncomputable def c6:Dt->Option (List Dt)
 | .lst ds=>some ds
 | .tup ds=>some ds
 | _=>none
noncomputable def cH:CmpOp->Dt->Dt->R Bool
 | .Eq,a,b=>ah (oW a b) (.ok (bM a b))
 | .NotEq,a,b=>ah (oW a b) (.ok (!bM a b))
 | .Lt,.int i,.int j=> .ok (decide (i < j))
 | .LtE,.int i,.int j=> .ok (decide (i<=j))
 | .Gt,.int i,.int j=> .ok (decide (j < i))
 | .GtE,.int i,.int j=> .ok (decide (j<=i))
 | _,_,_=> .bad
noncomputable def cK:Dt->R Bool
 | .a6=> .ok false
 | .bl b=> .ok b
 | .int i=> .ok (i != 0)
 | .str y=>ah (decide (y.length<=lim)) (.ok ((y.length:Int) != 0))
 | .lst ds=> .ok !ds.isEmpty
 | .tup ds=> .ok !ds.isEmpty
 | .bR ds=> .ok !ds.isEmpty
 | _=> .bad
noncomputable def u5 (ds:List Dt) (i:Int):R Dt:=match mB ds i with
 | some d=> .ok d
 | none=> .bad
noncomputable def bj:Dt->Dt->R Dt
 | .lst ds,.int i=>u5 ds i
 | .tup ds,.int i=>u5 ds i
 | .bR ns,.int i=>u5 (ns.map Dt.int) i
 | .str z,.int i=>ah (decide (z.length<=lim)) (match mB z.cps.toList i with | some c=> .ok (.str ⟨#[c]⟩) | none=> .bad)
 | _,_=> .bad
noncomputable def cutD {α:Type} (xs:List α) (lo hi:Option Int):List α:=(xs.drop (HT.bt xs.length 0 lo)).take (HT.bt xs.length xs.length hi - HT.bt xs.length 0 lo)
noncomputable def eF:Dt->Option Int->Option Int->R Dt
 | .lst ds,lo,hi=> .ok (.lst (cutD ds lo hi))
 | .bR ds,lo,hi=> .ok (.lst (cutD (ds.map Dt.int) lo hi))
 | .tup ds,lo,hi=> .ok (.tup (cutD ds lo hi))
 | .str z,lo,hi=>ah (decide (z.length<=lim)) (.ok (.str (PySem.Txt.slice z lo hi)))
 | _,_,_=> .bad
inductive BI where
 | len | sorted | tuple | list | isi (T:String)
 deriving DecidableEq
noncomputable def intsOf:List Dt->Option (List Int)
 | []=>some []
 | .int i::r=>(intsOf r).map (i:: ·)
 | _=>none
noncomputable def BR:List Dt->Option (List Bool)
 | []=>some []
 | .bl i::r=>(BR r).map (i:: ·)
 | _=>none
noncomputable def nv (a b:Mx.D):Bool:= !Mx.D.lt b a
noncomputable def aW (ds:List Mx.D):List Mx.D:=ds.mergeSort nv
mutual
noncomputable def gh:Mx.D->Mx.D->Bool
 | .int _,.int _=>true
 | .str _,.str _=>true
 | .tup a,.tup b=>f6 a b
 | _,_=>false
noncomputable def f6:List Mx.D->List Mx.D->Bool
 | x::xs,y::ys=>gh x y&&f6 xs ys
 | _,_=>true
end
noncomputable def Bq (k:Mx.SK):Mx.D->Bool
 | .tup (.tup _::_)=>k== .tt
 | .tup (.str _::_)=>k== .ts
 | .tup (.int _::_)=>k== .ti
 | .str _=>k== .s
 | .int _=>k== .i
 | _=>false
noncomputable def gu (ds:List Mx.D):Bool:=decide (ds.length < 64)&&(decide (ds.length < 2)||(decide (Mx.D.cj ds<=100)&&([Mx.SK.tt,.ts,.ti,.s,.i].any λk=>ds.all (Bq k))&&ds.all λd=>ds.all λe=>gh d e))
noncomputable def dd:List Str->List Str
 | []=>[]
 | x::r=>if x∈dd r then dd r else x::dd r
noncomputable def EL:List Int->Int
 | []=>0
 | [a]=>a
 | a::r=>min a (EL r)
noncomputable def strsOf:List Dt->Option (List Str)
 | []=>some []
 | .str i::r=>(strsOf r).map (i:: ·)
 | _=>none
noncomputable def gO (xs ys:List Dt):List Dt:=List.zipWith (λx y=>Dt.tup [x,y]) xs ys
noncomputable def bP:Nat->List Dt->List Dt
 | _,[]=>[]
 | i,x::xs=>Dt.tup [.int i,x]::bP (i + 1) xs
noncomputable def rj (T:String):Dt->R Bool
 | .str _=> .ok (T=="str")
 | .int _=> .ok (T=="int")
 | .bl _=> .ok (T=="bool"||T=="int")
 | .lst _=> .ok (T=="list")
 | .tup _=> .ok (T=="tuple")
 | .a6=> .ok false
 | _=> .bad
noncomputable def ez (b:BI) (as:List Dt):R Dt:=match b with
 | .len=>match as with
  | [.str x]=>ah (decide (x.length<=lim)) (.ok (.int x.length))
  | [.lst ds]=> .ok (.int ds.length)
  | [.tup ds]=> .ok (.int ds.length)
  | [.bR ds]=> .ok (.int ds.length)
  | _=> .bad
 | .sorted=>match as with
  | [d]=>match itemsOf d with
   | some ds=>match iR ds with
    | some ms=>ah (gu ms) (.ok (.lst (aa (aW ms))))
    | none=> .bad
   | none=> .bad
  | _=> .bad
 | .tuple=>match as with
  | [.lst ds]=> .ok (.tup ds)
  | [.tup ds]=> .ok (.tup ds)
  | _=> .bad
 | .list=>match as with
  | [.lst ds]=> .ok (.lst ds)
  | [.tup ds]=> .ok (.lst ds)
  | [.bR ns]=> .ok (.lst (ns.map Dt.int))
  | _=> .bad
 | .isi T=>match as with
  | [d]=>(rj T d).bind λb=> .ok (.bl b)
  | _=> .bad
noncomputable def isStr:Dt->Bool
 | .str _=>true
 | _=>false
inductive MT where
 | join
 deriving DecidableEq
noncomputable def IT:MT->Dt->List Dt->R Dt
 | .join,.str z,[.lst ds]=>match strsOf ds with
  | some ys=>ah (decide ((ys.map (·.length)).sum + ys.length * z.length<=lim)) (.ok (.str (PySem.Txt.join z ys)))
  | none=> .bad
 | _,_,_=> .bad
inductive Tg where
 | nm (i:Nat) | tp (is:List Nat)
 deriving DecidableEq
mutual
inductive C where
 | con (d:Dt) | var (i:Nat) | mvr (i:Nat)
 | bin (o:Operator) (a b:C) | cmp (o:CmpOp) (a b:C) | ch (o p:CmpOp) (a b c:C)
 | neg (a:C) | nt (a:C) | and (a b:C) | or (a b:C) | ite (t a b:C)
 | idx (a b:C) | sliL (a lo:C) | sliH (a hi:C) | sliB (a lo hi:C)
 | tup (es:Cs) | lst (es:Cs)
 | call (f:Nat) (es:Cs) (ds:List Dt) | callD (f:Nat) (es:Cs) | popD | lenD
 | bi (b:BI) (es:Cs) | mt (m:MT) (o:C) (es:Cs)
 | comp (cap:List (Option Nat)) (it:jV) (tg:Tg) (ts:Cs) (e:C)
 | gH (cap:List (Option Nat)) (it:jV) (tg:Tg) (ts:Cs) (eK:jV) (fY:Tg) (AY:Cs) (e:C)
inductive Cs where
 | nil | cons (c:C) (cs:Cs)
inductive jV where
 | seq (c:C) | rng1 (c:C) | rng2 (a b:C) | zip (a b:C) | enum (c:C)
end
noncomputable def Cs.all (p:C->Bool):Cs->Bool
 | .nil=>true
 | .cons c cs=>p c&&cs.all p
mutual
noncomputable def lk:C->Nat
 | .mvr _=>1
 | .and _ _=>0
 | .or _ _=>0
 | .ite _ a b=>max (lk a) (lk b)
 | .idx a _=>if lk a<=1 then 0 else 2
 | .sliL a _=>if lk a<=1 then 0 else 2
 | .sliH a _=>if lk a<=1 then 0 else 2
 | .sliB a _ _=>if lk a<=1 then 0 else 2
 | .bin _ a b=>if lk a<=1/\lk b<=1 then 0 else 2
 | .tup es=>if mw es=0 then 0 else 2
 | .lst es=>if mw es=0 then 0 else 2
 | .call _ es _=>if mw es=0 then 0 else 2
 | .callD _ es=>if mw es=0 then 0 else 2
 | .bi _ es=>if mw es<=1 then 0 else 2
 | _=>0
noncomputable def mw:Cs->Nat
 | .nil=>0
 | .cons c cs=>max (lk c) (mw cs)
end
noncomputable def nu:jV->Nat
 | .seq c=>lk c
 | .zip a b=>max (lk a) (lk b)
 | .enum c=>lk c
 | _=>0
noncomputable def fresh (fr:Nat->Bool):C->Bool
 | .lst _=>true
 | .comp ..=>true
 | .gH ..=>true
 | .bi .sorted _=>true
 | .bi .list _=>true
 | .bin ..=>true
 | .call f _ _=>fr f
 | .callD f _=>fr f
 | _=>false
noncomputable def b5 (c:C) (d:Dt):Bool:=decide (lk c=0)||jy d
noncomputable def gN (c:C) (d:Dt):Bool:=decide (lk c=0)||match d with | .lst ds=>eU ds | d=>jy d
noncomputable def d5 (ρ:ai) (i:Nat):R Dt:=match ρ[i]? with
 | some (some d)=> .ok d
 | _=> .bad
noncomputable def gS (cap:List (Option Nat)) (ρ:ai):ai:=cap.map λo=>o.bind λi=>(ρ[i]?).join
noncomputable def fR:List Nat->List Dt->ai->R ai
 | [],[],ρ=> .ok ρ
 | i::is,d::ds,ρ=>fR is ds (ρ.set i (some d))
 | _,_,_=> .bad
noncomputable def cm:Tg->Dt->ai->R ai
 | .nm i,d,ρ=> .ok (ρ.set i (some d))
 | .tp is,.tup ds,ρ=>fR is ds ρ
 | _,_,_=> .bad
noncomputable def bb (f:Dt->Sx->R (List Dt×Sx)):List Dt->Sx->R (List Dt×Sx)
 | [],S=> .ok ([],S)
 | x::xs,S=>(f x S).bind λp=>(bb f xs p.2).bind λq=> .ok (p.1++q.1,q.2)
noncomputable def bu (tg:Tg) (AU:ai->Sx->R (Bool×Sx)) (body:ai->Sx->R (List Dt×Sx)) (ρ:ai) (d:Dt) (S:Sx):R (List Dt×Sx):=
 (cm tg d ρ).bind λρ1=>(AU ρ1 S).bind λb=>if b.1 then body ρ1 b.2 else .ok ([],b.2)
noncomputable def bc (lo:Int) (n:Nat):List Dt:=(List.range n).map λ(i:Nat)=>Dt.int (lo + (i:Int))
noncomputable abbrev FT:=Nat->List Dt->Sx->R (Dt×Sx)
mutual
noncomputable def ev (F:FT):C->ai->Sx->R (Dt×Sx)
 | .con d,_,S=> .ok (d,S)
 | .var i,ρ,S=>(d5 ρ i).bind λd=> .ok (d,S)
 | .mvr i,ρ,S=>(d5 ρ i).bind λd=> .ok (d,S)
 | .bin o a b,ρ,S=>(ev F a ρ S).bind λx=>(ev F b ρ x.2).bind λy=>(mC o x.1 y.1).bind λd=> .ok (d,y.2)
 | .cmp o a b,ρ,S=>(ev F a ρ S).bind λx=>(ev F b ρ x.2).bind λy=>(cH o x.1 y.1).bind λd=> .ok (.bl d,y.2)
 | .ch o p a b c,ρ,S=>(ev F a ρ S).bind λx=>(ev F b ρ x.2).bind λy=>(cH o x.1 y.1).bind λd=>
   if d then(ev F c ρ y.2).bind λz=>(cH p y.1 z.1).bind λe=> .ok (.bl e,z.2) else .ok (.bl false,y.2)
 | .neg a,ρ,S=>(ev F a ρ S).bind λx=>match x.1 with | .int i=> .ok (.int (-i),x.2) | _=> .bad
 | .nt a,ρ,S=>(ev F a ρ S).bind λx=>match x.1 with | .bl b=> .ok (.bl !b,x.2) | _=> .bad
 | .and a b,ρ,S=>(ev F a ρ S).bind λx=>match x.1 with | .bl true=>(ev F b ρ x.2).bind λy=>(match y.1 with | .bl c=> .ok (.bl c,y.2) | _=> .bad) | .bl false=> .ok (.bl false,x.2) | _=> .bad
 | .or a b,ρ,S=>(ev F a ρ S).bind λx=>match x.1 with | .bl false=>(ev F b ρ x.2).bind λy=>(match y.1 with | .bl c=> .ok (.bl c,y.2) | _=> .bad) | .bl true=> .ok (.bl true,x.2) | _=> .bad
 | .ite t a b,ρ,S=>(cg F t ρ S).bind λx=>if x.1 then ev F a ρ x.2 else ev F b ρ x.2
 | .idx a b,ρ,S=>(ev F a ρ S).bind λx=>(ev F b ρ x.2).bind λy=>(bj x.1 y.1).bind λd=> .ok (d,y.2)
 | .sliL a l,ρ,S=>(ev F a ρ S).bind λx=>(ev F l ρ x.2).bind λy=>match y.1 with | .int i=>(eF x.1 (some i) none).bind λd=> .ok (d,y.2) | _=> .bad
 | .sliH a h,ρ,S=>(ev F a ρ S).bind λx=>(ev F h ρ x.2).bind λy=>match y.1 with | .int i=>(eF x.1 none (some i)).bind λd=> .ok (d,y.2) | _=> .bad
 | .sliB a l h,ρ,S=>(ev F a ρ S).bind λx=>(ev F l ρ x.2).bind λy=>match y.1 with | .int i=>(ev F h ρ y.2).bind λz=>(match z.1 with | .int j=>(eF x.1 (some i) (some j)).bind λd=> .ok (d,z.2) | _=> .bad) | _=> .bad
 | .tup es,ρ,S=>(fj F es ρ S).bind λx=>ah (decide (x.1.length<=lim)) (.ok (.tup x.1,x.2))
 | .lst es,ρ,S=>(fj F es ρ S).bind λx=>ah (decide (x.1.length<=lim)) (.ok (.lst x.1,x.2))
 | .call f es ds,ρ,S=>(fj F es ρ S).bind λx=>(F f (x.1++ds) none).bind λy=> .ok (y.1,x.2)
 | .callD f es,ρ,S=>ah S.isSome ((fj F es ρ S).bind λx=>match x.2 with | some s=>F f x.1 (some s) | none=> .bad)
 | .popD,_,S=>match S with | some ns=>ah (!ns.isEmpty) (.ok (.int (ns.getLastD 0),some ns.dropLast)) | none=> .bad
 | .lenD,_,S=>match S with | some ns=> .ok (.int ns.length,S) | none=> .bad
 | .bi b es,ρ,S=>(fj F es ρ S).bind λx=>(ez b x.1).bind λd=> .ok (d,x.2)
 | .mt m o es,ρ,S=>(ev F o ρ S).bind λy=>ah (isStr y.1) ((fj F es ρ y.2).bind λx=>(IT m y.1 x.1).bind λd=> .ok (d,x.2))
 | .comp cap it tg ts e,ρ,S=>(cw F it ρ S).bind λx=>ah (decide (x.1.length<=lim)&&(decide (nu it<=1)||iK F it ρ S))
   ((bb (bu tg (bY F ts) (λρ1 S1=>(ev F e ρ1 S1).bind λy=>ah (b5 e y.1) (.ok ([y.1],y.2))) (gS cap ρ)) x.1 x.2).bind λq=> .ok (.lst q.1,q.2))
 | .gH cap it tg ts eK fY AY e,ρ,S=>(cw F it ρ S).bind λx=>ah (decide (x.1.length<=lim)&&(decide (nu it<=1)||iK F it ρ S))
   ((bb (bu tg (bY F ts) (λρ1 S1=>(cw F eK ρ1 S1).bind λx2=>ah (decide (x.1.length * x2.1.length<=lim)&&decide (nu eK=0))
    (bb (bu fY (bY F AY) (λρ2 S2=>(ev F e ρ2 S2).bind λy=>ah (b5 e y.1) (.ok ([y.1],y.2))) ρ1) x2.1 x2.2)) (gS cap ρ)) x.1 x.2).bind λq=> .ok (.lst q.1,q.2))
noncomputable def cg (F:FT):C->ai->Sx->R (Bool×Sx)
 | .nt a,ρ,S=>(cg F a ρ S).bind λx=> .ok (!x.1,x.2)
 | .and a b,ρ,S=>(cg F a ρ S).bind λx=>if x.1 then cg F b ρ x.2 else .ok (false,x.2)
 | .or a b,ρ,S=>(cg F a ρ S).bind λx=>if x.1 then .ok (true,x.2) else cg F b ρ x.2
 | .cmp o a b,ρ,S=>(ev F a ρ S).bind λx=>(ev F b ρ x.2).bind λy=>(cH o x.1 y.1).bind λd=> .ok (d,y.2)
 | .ch o p a b c,ρ,S=>(ev F a ρ S).bind λx=>(ev F b ρ x.2).bind λy=>(cH o x.1 y.1).bind λd=>
   if d then(ev F c ρ y.2).bind λz=>(cH p y.1 z.1).bind λe=> .ok (e,z.2) else .ok (false,y.2)
 | .var i,ρ,S=>(d5 ρ i).bind λd=>(cK d).bind λb=> .ok (b,S)
 | .mvr i,ρ,S=>(d5 ρ i).bind λd=>(cK d).bind λb=> .ok (b,S)
 | .call f es ds,ρ,S=>(fj F es ρ S).bind λx=>(F f (x.1++ds) none).bind λy=>(cK y.1).bind λb=> .ok (b,x.2)
 | .callD f es,ρ,S=>ah S.isSome ((fj F es ρ S).bind λx=>match x.2 with | some s=>(F f x.1 (some s)).bind λy=>(cK y.1).bind λb=> .ok (b,y.2) | none=> .bad)
 | .bi b es,ρ,S=>(fj F es ρ S).bind λx=>(ez b x.1).bind λd=>(cK d).bind λb=> .ok (b,x.2)
 | .idx a b,ρ,S=>(ev F a ρ S).bind λx=>(ev F b ρ x.2).bind λy=>(bj x.1 y.1).bind λd=>(cK d).bind λb=> .ok (b,y.2)
 | _,_,_=> .bad
noncomputable def fj (F:FT):Cs->ai->Sx->R (List Dt×Sx)
 | .nil,_,S=> .ok ([],S)
 | .cons c cs,ρ,S=>(ev F c ρ S).bind λx=>(fj F cs ρ x.2).bind λy=> .ok (x.1::y.1,y.2)
noncomputable def bY (F:FT):Cs->ai->Sx->R (Bool×Sx)
 | .nil,_,S=> .ok (true,S)
 | .cons c .nil,ρ,S=>cg F c ρ S
 | _,_,_=> .bad
noncomputable def cw (F:FT):jV->ai->Sx->R (List Dt×Sx)
 | .seq c,ρ,S=>(ev F c ρ S).bind λx=>match itemsOf x.1 with | some ds=> .ok (ds,x.2) | none=> .bad
 | .rng1 c,ρ,S=>(ev F c ρ S).bind λx=>match x.1 with | .int j=>ah (decide (j<=lim)&&decide (-lim<=j)) (.ok (bc 0 j.toNat,x.2)) | _=> .bad
 | .rng2 a b,ρ,S=>(ev F a ρ S).bind λx=>(ev F b ρ x.2).bind λy=>match x.1,y.1 with
   | .int i,.int j=>ah (decide (i.natAbs<=lim)&&decide (j.natAbs<=lim)) (.ok (bc i (j - i).toNat,y.2)) | _,_=> .bad
 | .zip a b,ρ,S=>(ev F a ρ S).bind λx=>(ev F b ρ x.2).bind λy=>match c6 x.1,c6 y.1 with
   | some xs,some ys=> .ok (gO xs ys,y.2) | _,_=> .bad
 | .enum c,ρ,S=>(ev F c ρ S).bind λx=>match c6 x.1 with | some ds=> .ok (bP 0 ds,x.2) | none=> .bad
noncomputable def iK (F:FT):jV->ai->Sx->Bool
 | .seq c,ρ,S=>match ev F c ρ S with | .ok x=>jy x.1 | _=>false
 | _,_,_=>false
end
inductive Fl where
 | next | brk | cnt | ret (d:Dt)
mutual
inductive T where
 | asg (i:Nat) (c:C) | asgM (i:Nat) (c:C) | asgD (i:Nat) (c:C) | mov (i j:Nat) | asgT (is:List Nat) (c:C)
 | aug (i:Nat) (o:Operator) (c:C)
 | tG (i:Nat) (k v:C) | app (i:Nat) (c:C) | xtd (i:Nat) (c:C) | clr (i:Nat)
 | Bv (c:C) | ret (c:C) | retN | ifs (t:C) (a b:Ts) | fr (tg:Tg) (it:jV) (b:Ts) | wh (t:C) (b:Ts)
 | rs (k:Nat) (vs:List Nat) | tr (b:Ts) (rH:List (Option Bool)) | brk | cnt | pas
inductive Ts where
 | nil | cons (t:T) (ts:Ts)
end
noncomputable abbrev RS:=R (Fl×ai×Sx)
noncomputable def C2 (ρ:ai) (i:Nat):Bool:=match ρ[i]? with
 | some (some (.int n))=>decide (0<=n)&&decide (n < 10 ^ 19)
 | _=>false
noncomputable def forL (tg:Tg) (body:ai->Sx->RS):List Dt->ai->Sx->RS
 | [],ρ,S=> .ok (.next,ρ,S)
 | x::xs,ρ,S=>(cm tg x ρ).bind λρ1=>(body ρ1 S).bind λp=>match p.1 with
  | .next=>forL tg body xs p.2.1 p.2.2
  | .cnt=>forL tg body xs p.2.1 p.2.2
  | .brk=> .ok (.next,p.2)
  | .ret d=> .ok (.ret d,p.2)
noncomputable def E5 (test:ai->Sx->R (Bool×Sx)) (body:ai->Sx->RS):Nat->ai->Sx->RS
 | 0,_,_=> .bad
 | n + 1,ρ,S=>(test ρ S).bind λb=>if b.1 then(body ρ b.2).bind λp=>match p.1 with
   | .next=>E5 test body n p.2.1 p.2.2
   | .cnt=>E5 test body n p.2.1 p.2.2
   | .brk=> .ok (.next,p.2)
   | .ret d=> .ok (.ret d,p.2)
  else .ok (.next,ρ,b.2)
noncomputable def BK:Nat:=100000
noncomputable def isLE (ρ:ai) (i:Nat):Bool:=match ρ[i]? with
 | some (some (.lst _))=>true
 | _=>false
noncomputable def mH (ρ:ai) (i:Nat):R (List Dt):=match ρ[i]? with
 | some (some (.lst ds))=> .ok ds
 | _=> .bad
mutual
noncomputable def ex (F:FT):T->ai->Sx->RS
 | .asg i c,ρ,S=>(ev F c ρ S).bind λx=>ah (b5 c x.1) (.ok (.next,ρ.set i (some x.1),x.2))
 | .asgM i c,ρ,S=>(ev F c ρ S).bind λx=>ah (gN c x.1) (.ok (.next,ρ.set i (some x.1),x.2))
 | .asgD i c,ρ,S=>(ev F c ρ S).bind λx=>match x.1 with | .lst ds=>(match intsOf ds with | some ns=>ah (decide (lk c=0)&&decide (i < ρ.length)) (.ok (.next,ρ.set i none,some ns)) | none=> .bad) | _=> .bad
 | .mov i j,ρ,S=>(d5 ρ j).bind λd=> .ok (.next,(ρ.set j none).set i (some d),S)
 | .asgT is c,ρ,S=>(ev F c ρ S).bind λx=>ah (b5 c x.1) ((cm (.tp is) x.1 ρ).bind λρ1=> .ok (.next,ρ1,x.2))
 | .aug i o c,ρ,S=>(d5 ρ i).bind λd=>(ev F c ρ S).bind λx=>match d,x.1 with
   | .int _,.int _=>(mC o d x.1).bind λz=> .ok (.next,ρ.set i (some z),x.2)
   | .str _,.str _=>(mC o d x.1).bind λz=> .ok (.next,ρ.set i (some z),x.2)
   | _,_=> .bad
 | .tG i k v,ρ,S=>ah (isLE ρ i) ((ev F v ρ S).bind λx=>(ev F k ρ x.2).bind λy=>ah (b5 v x.1) ((mH ρ i).bind λds=>match y.1 with
   | .int n=>(match rO ds.length n with | some j=> .ok (.next,ρ.set i (some (.lst (ds.set j x.1))),y.2) | none=> .bad) | _=> .bad))
 | .app i c,ρ,S=>ah (isLE ρ i) ((ev F c ρ S).bind λx=>ah (b5 c x.1) ((mH ρ i).bind λds=>ah (decide (ds.length<=lim)) (.ok (.next,ρ.set i (some (.lst (ds++[x.1]))),x.2))))
 | .xtd i c,ρ,S=>ah (isLE ρ i) ((ev F c ρ S).bind λx=>ah (decide (lk c<=1)) ((mH ρ i).bind λds=>match x.1 with
   | .lst es=>ah (decide (ds.length + es.length<=lim)) (.ok (.next,ρ.set i (some (.lst (ds++es))),x.2)) | _=> .bad))
 | .clr i,ρ,S=>(mH ρ i).bind λ_=> .ok (.next,ρ.set i (some (.lst [])),S)
 | .Bv c,ρ,S=>(ev F c ρ S).bind λx=> .ok (.next,ρ,x.2)
 | .ret c,ρ,S=>(ev F c ρ S).bind λx=> .ok (.ret x.1,ρ,x.2)
 | .retN,ρ,S=> .ok (.ret .a6,ρ,S)
 | .ifs t a b,ρ,S=>(cg F t ρ S).bind λx=>if x.1 then aQ F a ρ x.2 else aQ F b ρ x.2
 | .fr tg it b,ρ,S=>(cw F it ρ S).bind λx=>ah (decide (nu it=0)||iK F it ρ S) (forL tg (aQ F b) x.1 ρ x.2)
 | .wh t b,ρ,S=>E5 (cg F t) (aQ F b) BK ρ S
 | .rs k vs,ρ,S=>ah (vs.all (C2 ρ)) (.ex k)
 | .tr b rH,ρ,S=>ah S.isNone (match aQ F b ρ S with | .ex k=>(match rH[k]? with | some (some v)=> .ok (.ret (.bl v),ρ,S) | _=> .bad) | r=>r)
 | .brk,ρ,S=> .ok (.brk,ρ,S)
 | .cnt,ρ,S=> .ok (.cnt,ρ,S)
 | .pas,ρ,S=> .ok (.next,ρ,S)
noncomputable def aQ (F:FT):Ts->ai->Sx->RS
 | .nil,ρ,S=> .ok (.next,ρ,S)
 | .cons t ts,ρ,S=>(ex F t ρ S).bind λp=>match p.1 with
  | .next=>aQ F ts p.2.1 p.2.2
  | f=> .ok (f,p.2)
end
structure Fn where
 ps:Nat
 n:Nat
 aT:Bool
 body:Ts
noncomputable def eP (F:FT) (f:Fn) (args:List Dt) (S:Sx):R (Dt×Sx):=
 if args.length + (if f.aT then 1 else 0)=f.ps then
  (aQ F f.body ((if f.aT then[none] else[])++args.map some++List.replicate (f.n - f.ps) none) S).bind λp=>match p.1 with
   | .next=> .ok (.a6,p.2.2)
   | .ret d=> .ok (d,p.2.2)
   | _=> .bad
 else .bad
noncomputable def a9 (fs:List Fn):Nat->FT
 | 0,_,_,_=> .bad
 | n + 1,f,args,S=>match fs[f]? with
  | some g=>eP (a9 fs n) g args S
  | none=> .bad
structure G where
 fns:List (Str×Nat×List Dt×Bool)
 cons:List (Str×Dt)
 bls:List Str
 fr:Nat->Bool
 xs:List (Str×List (Str×Bool))
structure Gm where
 names:List (Str×NameKind)
 N:List Str
 M:List Bool
 δ:Option Nat
noncomputable def sk:Option NameKind->Bool
 | some .local=>true
 | some .cell=>true
 | some .free=>true
 | _=>false
noncomputable def sR:Option NameKind->Bool
 | some .local=>true
 | some .cell=>true
 | _=>false
noncomputable def qk:Option NameKind->Bool
 | some .globalImplicit=>true
 | _=>false
noncomputable def vj (x:Str):List Str->Option Nat
 | []=>none
 | y::r=>if x==y then some 0 else(vj x r).map (· + 1)
theorem il {x:Str}:∀{l:List Str} {i:Nat},vj x l=some i->l[i]?=some x
 | [],i,h=>by simp[vj] at h
 | y::r,i,h=>by
  unfold vj at h;by_cases e:(x==y)=true
  ·rw[if_pos e] at h;cases h;have:x=y:=by simpa using e
   simp[this]
  ·rw[if_neg e] at h;obtain⟨j,h1,rfl⟩:=JN.mp h;simp[il h1]
noncomputable def bS (x:Str):Bool:= !(x==("__debug__":Str))&& !(x==("__classdict__":Str))&& !(x==("__name__":Str))
noncomputable def slot (Γ:Gm) (x:Str):Option Nat:=if sk (Γ.names.lookup x)&&bS x then vj x Γ.N else none
noncomputable def dM (Γ:Gm) (x:Str):Option Nat:=if sR (Γ.names.lookup x)&&bS x then vj x Γ.N else none
noncomputable def dg (Γ:Gm) (i:Nat):Bool:=Γ.M[i]?==some true
noncomputable def plainS (Γ:Gm) (i:Nat):Bool:= !dg Γ i&& !(Γ.δ==some i)
noncomputable def oQ (x:Str):List (Str×Nat×List Dt×Bool)->Option (Nat×Nat×List Dt×Bool)
 | []=>none
 | y::r=>if x==y.1 then some (0,y.2) else(oQ x r).map λp=>(p.1 + 1,p.2)
noncomputable def uf:List (Str×Nat×BI):=[("len",1,.len),("sorted",1,.sorted),("tuple",1,.tuple),("list",1,.list)]
noncomputable def nI (x:Str) (n:Nat):Option BI:=(uf.find? λt=>t.1==x&&t.2.1==n).map (·.2.2)
noncomputable def oP (x:Str):Option String:=
 if x==("str":Str) then some "str" else if x==("int":Str) then some "int" else if x==("bool":Str) then some "bool"
 else if x==("list":Str) then some "list" else if x==("tuple":Str) then some "tuple" else none
noncomputable def jL (Γ:Gm):Expr->Option Nat
 | .Name x _=>(dM Γ x).bind λi=>if plainS Γ i then some i else none
 | _=>none
noncomputable def gy (Γ:Gm):List Expr->Option (List Nat)
 | []=>some []
 | e::es=>(jL Γ e).bind λi=>(gy Γ es).map (i:: ·)
noncomputable def ot (Γ:Gm):Expr->Option Tg
 | .Name x p=>(jL Γ (.Name x p)).map .nm
 | .Tuple es _ _=>(gy Γ es).map .tp
 | _=>none
noncomputable def Eh (names:List (Str×NameKind)):List Str:=names.filterMap λp=>if sk (some p.2) then some p.1 else none
noncomputable def Ax (names:List (Str×NameKind)) (N:List Str):List (Option Nat):=names.filterMap λp=>match p.2 with
 | .local=>some none
 | .free=>some (vj p.1 N)
 | .cell=>some none
 | _=>none
noncomputable def C8 (cap:List (Option Nat)) (M:List Bool):List Bool:=cap.map λo=>o.elim false λi=>M[i]?==some true
noncomputable def AS (δ:Option Nat):List (Option Nat)->Option Nat
 | []=>none
 | o::r=>if δ.isSome&&o==δ then some 0 else(AS δ r).map (· + 1)
noncomputable def aN (Γ:Gm) (sc:Scope):Gm×List (Option Nat):=
 let cap:=Ax sc.names Γ.N
 (⟨sc.names,Eh sc.names,C8 cap Γ.M,AS Γ.δ cap⟩,cap)
noncomputable def aJ:Tg->List Nat
 | .nm i=>[i]
 | .tp is=>is
noncomputable def tE (names on:List (Str×NameKind)) (N' Nn:List Str) (cap:List (Option Nat)):Bool:=
 names.all (λy=>names.lookup y.1==some y.2&&(y.2 != .free||(on.lookup y.1==some .cell||on.lookup y.1==some .free)))&&
 (cap.length==N'.length)&&(List.range cap.length).all (λj=>match cap[j]? with
  | some (some i)=>(match N'[j]? with
   | some x=>Nn[i]?==some x&&names.lookup x==some .free
   | none=>false)
  | _=>true)
noncomputable def F3 (Γ:Gm):Expr->Bool
 | .Name x _=>match slot Γ x with
  | some i=>Γ.δ==some i
  | none=>false
 | _=>false
mutual
noncomputable def cE:Nat->G->Gm->Expr->Option C
 | 0,_,_,_=>none
 | n + 1,g,Γ,e=>match e with
  | .Constant k _ _=>match k with
   | .int i=>some (.con (.int i))
   | .str x=>some (.con (.str x))
   | .bool x=>some (.con (.bl x))
   | .none=>some (.con .a6)
   | _=>none
  | .Name x _=>match slot Γ x with
   | some i=>if Γ.δ==some i then none else if dg Γ i then some (.mvr i) else some (.var i)
   | none=>if qk (Γ.names.lookup x)&&bS x then(g.cons.lookup x).map .con else none
  | .BinOp a o b _=>(cE n g Γ a).bind λa'=>(cE n g Γ b).bind λb'=>some (.bin o a' b')
  | .UnaryOp o a _=>(cE n g Γ a).bind λa'=>match o with
   | .USub=>some (.neg a')
   | .Not=>some (.nt a')
   | _=>none
  | .BoolOp o vs _=>cB n g Γ o vs
  | .Compare a os bs _=>match os,bs with
   | [o],[b]=>(cE n g Γ a).bind λa'=>(cE n g Γ b).bind λb'=>some (.cmp o a' b')
   | _,_=>none
  | .Subscript a b _=>match b with
   | .Slice (some l) none none _=>(cE n g Γ a).bind λa'=>(cE n g Γ l).bind λl'=>some (.sliL a' l')
   | .Slice none (some h) none _=>(cE n g Γ a).bind λa'=>(cE n g Γ h).bind λh'=>some (.sliH a' h')
   | b=>(cE n g Γ a).bind λa'=>(cE n g Γ b).bind λb'=>some (.idx a' b')
  | .Tuple es _ _=>(uJ n g Γ es).bind λdR=>some (.tup dR)
  | .List es _=>(uJ n g Γ es).bind λdR=>some (.lst dR)
  | .Call f as ks pos=>match f,as,ks with
   | .Name f _,a::as,[]=>pf n g Γ f a as
   | _,_,_=>none
  | .ListComp elt gens sc _=>
   let b:=aN Γ sc
   if sc.kind== .function then(match gens with
   | [⟨tg,it,ifs,0⟩]=>(cI n g Γ tg it).bind λhV=>(ot b.1 tg).bind λi5=>(vB n g b.1 ifs).bind λlg=>(cE n g b.1 elt).bind λe'=>
    if tE sc.names Γ.names b.1.N Γ.N b.2&&decide b.1.N.Nodup then some (.comp b.2 hV i5 lg e') else none
   | [⟨tg,it,ifs,0⟩,⟨fY,eK,bJ,0⟩]=>(cI n g Γ tg it).bind λhV=>(ot b.1 tg).bind λi5=>(vB n g b.1 ifs).bind λlg=>(cI n g b.1 fY eK).bind λmG=>(ot b.1 fY).bind λjl=>(vB n g b.1 bJ).bind λmV=>(cE n g b.1 elt).bind λe'=>
    if tE sc.names Γ.names b.1.N Γ.N b.2&&decide b.1.N.Nodup&&(aJ jl).all (λi=> !(aJ i5).contains i) then some (.gH b.2 hV i5 lg mG jl mV e') else none
   | _=>none) else none
  | _=>none
noncomputable def uJ:Nat->G->Gm->List Expr->Option Cs
 | 0,_,_,_=>none
 | n + 1,g,Γ,es=>match es with
  | []=>some .nil
  | e::es=>(cE n g Γ e).bind λe'=>(uJ n g Γ es).bind λdR=>some (.cons e' dR)
noncomputable def vB:Nat->G->Gm->List Expr->Option Cs
 | 0,_,_,_=>none
 | n + 1,g,Γ,es=>match es with
  | []=>some .nil
  | [e]=>(cE n g Γ e).bind λe'=>some (.cons e' .nil)
  | _=>none
noncomputable def cB:Nat->G->Gm->BoolOp->List Expr->Option C
 | 0,_,_,_,_=>none
 | n + 1,g,Γ,o,es=>match es with
  | [e]=>cE n g Γ e
  | e::es=>(cE n g Γ e).bind λe'=>(cB n g Γ o es).bind λdR=>some (match o with | .And=> .and e' dR | .Or=> .or e' dR)
  | []=>none
noncomputable def cI:Nat->G->Gm->Expr->Expr->Option jV
 | 0,_,_,_,_=>none
 | n + 1,g,Γ,tg,e=>match e with
  | .Call (.Name f p) [a] [] q=>if f==("range":Str) then(if qk (Γ.names.lookup f)&&g.bls.contains f then(cE n g Γ a).bind λa'=>some (.rng1 a') else none)
   else if f==("enumerate":Str) then(match tg with
    | .Tuple ..=>if qk (Γ.names.lookup f)&&g.bls.contains f then(cE n g Γ a).bind λa'=>some (.enum a') else none
    | _=>none)
   else(cE n g Γ (.Call (.Name f p) [a] [] q)).bind λc=>some (.seq c)
  | .Call (.Name f p) [a,b] [] q=>if f==("range":Str) then(if qk (Γ.names.lookup f)&&g.bls.contains f then none else none)
   else if f==("zip":Str) then(match tg with
    | .Tuple ..=>if qk (Γ.names.lookup f)&&g.bls.contains f then(cE n g Γ a).bind λa'=>(cE n g Γ b).bind λb'=>some (.zip a' b') else none
    | _=>none)
   else(cE n g Γ (.Call (.Name f p) [a,b] [] q)).bind λc=>some (.seq c)
  | e=>(cE n g Γ e).bind λc=>some (.seq c)
noncomputable def pf:Nat->G->Gm->Str->Expr->List Expr->Option C
 | 0,_,_,_,_,_=>none
 | n + 1,g,Γ,f,a,as=>if qk (Γ.names.lookup f)&&bS f then(match oQ f g.fns with
  | some (k,np,ec,aT)=>if aT then(match a with
    | .Name x _=>match slot Γ x with
     | some i=>if Γ.δ==some i&&as.length + 1==np then none else none
     | none=>none
    | _=>none)
   else if as.length + 1<=np&&np - (as.length + 1)<=ec.length then(uJ n g Γ (a::as)).bind λes=>some (.call k es (ec.drop (ec.length - (np - (as.length + 1))))) else none
  | none=>if g.bls.contains f then
    (if f==("len":Str)&&F3 Γ a&&as.isEmpty then none
    else if f==("isinstance":Str) then(match as with
     | [.Name t _]=>if qk (Γ.names.lookup t)&&g.bls.contains t then(oP t).bind λT=>(cE n g Γ a).bind λa'=>some (.bi (.isi T) (.cons a' .nil)) else none
     | _=>none)
    else match a,as with
     | .Call (.Name r _) [b] [] _,[]=>if r==("reversed":Str) then none
       else if r==("set":Str) then none
       else(nI f (as.length + 1)).bind λi=>(uJ n g Γ (a::as)).bind λes=>some (.bi i es)
     | .Call (.Name r _) [b,c] [] _,[]=>if r==("zip":Str) then none
       else(nI f (as.length + 1)).bind λi=>(uJ n g Γ (a::as)).bind λes=>some (.bi i es)
     | _,_=>(nI f (as.length + 1)).bind λi=>(uJ n g Γ (a::as)).bind λes=>some (.bi i es))
    else none)
  else none
end
section
variable {P:Program} {w:World} {K:Frag} {A B:Addr->Prop} {H:Hp} {s:Shared}
theorem elts (hok:dm P w H s.heap) {vf fk:List V} {i1 i2:List Dt} {cu aE:List Value} {R:Around} {n:Nat} (g1:aj K A H vf i1) (g2:aj K B H fk i2) (r1:au vf cu) (r2:au fk aE) (l1:cu.toArray.size=i1.length) (l2:aE.toArray.size=i2.length)
  (p1:nr i1=true) (p2:nr i2=true) (hd:qD i1<=n) (hu:R.in1.units + n < cLine) (j:Nat) (h1:j < cu.toArray.size) (h2:j < aE.toArray.size):EqAt R.in1 s cu.toArray[j] aE.toArray[j] (pq i1 i2 j):=by
 have jZ:j < vf.length:=by rw[g1.length,<-l1];exact h1
 have jC:j < fk.length:=by rw[g2.length,<-l2];exact h2
 obtain⟨d,c1,c2⟩:=g1.get (i:=j) (x:=vf[j]) (by simp[jZ]);obtain⟨e,k1,k2⟩:=g2.get (i:=j) (x:=fk[j]) (by simp[jC]);obtain⟨u,rQ,ru⟩:=r1.get (i:=j) (x:=vf[j]) (by simp[jZ]);obtain⟨v,yB,rv⟩:=r2.get (i:=j) (x:=fk[j]) (by simp[jC]);have eu:cu.toArray[j]=u:=by simp only[List.getElem_toArray];exact(JC.mp rQ).2
 have ev:aE.toArray[j]=v:=by simp only[List.getElem_toArray];exact(JC.mp yB).2
 rw[eu,ev,show pq i1 i2 j=bM d e by unfold pq;rw[c1,k1]];exact B4 hok n d e vf[j] fk[j] u v R.in1 (JJ (kh c1) hd) (e9 p1 c1) (e9 p2 k1) hu c2 k2 ru rv
theorem Cb (hok:dm P w H s.heap) (n:Nat) (d e:Dt) (x y:V) (u v:Value) (R:Around) (hd:dp d<=n + 1) (iX:pl d=true) (dX:pl e=true) (hu:R.units + n + 1 < cLine) (hx:RV K A H x d) (hy:RV K B H y e) (rx:RelV x u) (ry:RelV y v):RcAt R s u v (bM d e):=by
 cases d with
 | a6=>
  have:=hx.ay;subst this;cases rx;cases e with
  | a6=>have:=hy.ay;subst this;cases ry;exact RcAt.none_none
  | bl i2=>have:=hy.aw;subst this;cases ry;exact RcAt.none_bool i2
  | int i2=>have:=hy.int_inv;subst this;obtain⟨t2,rfl⟩:=ry;exact RcAt.none_int i2 t2
  | str i2=>have:=hy.str_inv;subst this;obtain⟨t2,rfl⟩:=ry;exact RcAt.none_str i2 t2
  | tup i2=>obtain⟨a2,fk,q2,f2,g2⟩:=hy.ag;subst q2;cases ry;obtain⟨aE,r2,bD⟩:=Mx.aq hok f2;exact RcAt.none_tuple bD (by lia)
  | lst i2=>obtain⟨a2,fk,q2,f2,_,g2⟩:=hy.lst_inv;subst q2;cases ry;obtain⟨aE,r2,bD⟩:=aF hok f2;exact RcAt.none_list bD (by lia)
  | _=>simp[pl] at dX
 | bl i1=>
  have:=hx.aw;subst this;cases rx;cases e with
  | a6=>have:=hy.ay;subst this;cases ry;exact RcAt.bool_none i1
  | bl i2=>have:=hy.aw;subst this;cases ry;exact RcAt.bool_bool i1 i2
  | int i2=>have:=hy.int_inv;subst this;obtain⟨t2,rfl⟩:=ry;exact RcAt.bool_int i1 i2 t2
  | str i2=>have:=hy.str_inv;subst this;obtain⟨t2,rfl⟩:=ry;exact RcAt.bool_str i1 i2 t2
  | tup i2=>obtain⟨a2,fk,q2,f2,g2⟩:=hy.ag;subst q2;cases ry;obtain⟨aE,r2,bD⟩:=Mx.aq hok f2;exact RcAt.bool_tuple i1 bD (by lia)
  | lst i2=>obtain⟨a2,fk,q2,f2,_,g2⟩:=hy.lst_inv;subst q2;cases ry;obtain⟨aE,r2,bD⟩:=aF hok f2;exact RcAt.bool_list i1 bD (by lia)
  | _=>simp[pl] at dX
 | int i1=>
  have:=hx.int_inv;subst this;obtain⟨t1,rfl⟩:=rx;cases e with
  | a6=>have:=hy.ay;subst this;cases ry;exact RcAt.int_none i1 t1
  | bl i2=>have:=hy.aw;subst this;cases ry;exact RcAt.int_bool i1 t1 i2
  | int i2=>have:=hy.int_inv;subst this;obtain⟨t2,rfl⟩:=ry;exact RcAt.int_int i1 t1 i2 t2
  | str i2=>have:=hy.str_inv;subst this;obtain⟨t2,rfl⟩:=ry;exact RcAt.int_str i1 t1 i2 t2
  | tup i2=>obtain⟨a2,fk,q2,f2,g2⟩:=hy.ag;subst q2;cases ry;obtain⟨aE,r2,bD⟩:=Mx.aq hok f2;exact RcAt.int_tuple i1 t1 bD (by lia)
  | lst i2=>obtain⟨a2,fk,q2,f2,_,g2⟩:=hy.lst_inv;subst q2;cases ry;obtain⟨aE,r2,bD⟩:=aF hok f2;exact RcAt.int_list i1 t1 bD (by lia)
  | _=>simp[pl] at dX
 | str i1=>
  have:=hx.str_inv;subst this;obtain⟨t1,rfl⟩:=rx;cases e with
  | a6=>have:=hy.ay;subst this;cases ry;exact RcAt.str_none i1 t1
  | bl i2=>have:=hy.aw;subst this;cases ry;exact RcAt.str_bool i1 t1 i2
  | int i2=>have:=hy.int_inv;subst this;obtain⟨t2,rfl⟩:=ry;exact RcAt.str_int i1 t1 i2 t2
  | str i2=>have:=hy.str_inv;subst this;obtain⟨t2,rfl⟩:=ry;exact RcAt.str_str i1 t1 i2 t2
  | tup i2=>obtain⟨a2,fk,q2,f2,g2⟩:=hy.ag;subst q2;cases ry;obtain⟨aE,r2,bD⟩:=Mx.aq hok f2;exact RcAt.str_tuple i1 t1 bD (by lia)
  | lst i2=>obtain⟨a2,fk,q2,f2,_,g2⟩:=hy.lst_inv;subst q2;cases ry;obtain⟨aE,r2,bD⟩:=aF hok f2;exact RcAt.str_list i1 t1 bD (by lia)
  | _=>simp[pl] at dX
 | tup i1=>
  obtain⟨a1,vf,q1,f1,g1⟩:=hx.ag;subst q1;cases rx;obtain⟨cu,r1,fu⟩:=Mx.aq hok f1;cases e with
  | a6=>have:=hy.ay;subst this;cases ry;exact RcAt.tuple_none fu (by lia)
  | bl i2=>have:=hy.aw;subst this;cases ry;exact RcAt.tuple_bool i2 fu (by lia)
  | int i2=>have:=hy.int_inv;subst this;obtain⟨t2,rfl⟩:=ry;exact RcAt.tuple_int i2 t2 fu (by lia)
  | str i2=>have:=hy.str_inv;subst this;obtain⟨t2,rfl⟩:=ry;exact RcAt.tuple_str i2 t2 fu (by lia)
  | tup i2=>
   obtain⟨a2,fk,q2,f2,g2⟩:=hy.ag;subst q2;cases ry;obtain⟨aE,r2,bD⟩:=Mx.aq hok f2;have l1:cu.toArray.size=i1.length:=by rw[JA,<-r1.length,g1.length]
   have l2:aE.toArray.size=i2.length:=by rw[JA,<-r2.length,g2.length]
   have key:=RcAt.tuples (A:=R) (e:=pq i1 i2) fu bD (by lia) (elts hok g1 g2 r1 r2 l1 l2 (by simpa [pl] using iX) (by simpa [pl] using dX) (n:=n) (by unfold dp at hd;lia) (by show R.units + 1 + n < cLine;lia));have q:=bT i1 i2;rw[<-l1,<-l2] at q;rw[q] at key;exact key
  | lst i2=>obtain⟨a2,fk,q2,f2,_,g2⟩:=hy.lst_inv;subst q2;cases ry;obtain⟨aE,r2,bD⟩:=aF hok f2;exact RcAt.tuple_list fu bD (by lia)
  | _=>simp[pl] at dX
 | lst i1=>
  obtain⟨a1,vf,q1,f1,_,g1⟩:=hx.lst_inv;subst q1;cases rx;obtain⟨cu,r1,fu⟩:=aF hok f1;cases e with
  | a6=>have:=hy.ay;subst this;cases ry;exact RcAt.list_none fu (by lia)
  | bl i2=>have:=hy.aw;subst this;cases ry;exact RcAt.list_bool i2 fu (by lia)
  | int i2=>have:=hy.int_inv;subst this;obtain⟨t2,rfl⟩:=ry;exact RcAt.list_int i2 t2 fu (by lia)
  | str i2=>have:=hy.str_inv;subst this;obtain⟨t2,rfl⟩:=ry;exact RcAt.list_str i2 t2 fu (by lia)
  | tup i2=>obtain⟨a2,fk,q2,f2,g2⟩:=hy.ag;subst q2;cases ry;obtain⟨aE,r2,bD⟩:=Mx.aq hok f2;exact RcAt.list_tuple fu bD (by lia)
  | lst i2=>
   obtain⟨a2,fk,q2,f2,_,g2⟩:=hy.lst_inv;subst q2;cases ry;obtain⟨aE,r2,bD⟩:=aF hok f2;have l1:cu.toArray.size=i1.length:=by rw[JA,<-r1.length,g1.length]
   have l2:aE.toArray.size=i2.length:=by rw[JA,<-r2.length,g2.length]
   have q:=bT i1 i2;by_cases hl:i1.length=i2.length
   ·have key:=RcAt.lists (A:=R) (e:=pq i1 i2) fu bD (by lia) (by lia) (elts hok g1 g2 r1 r2 l1 l2 (by simpa [pl] using iX) (by simpa [pl] using dX) (n:=n) (by unfold dp at hd;lia) (by show R.units + 1 + n < cLine;lia));rw[hl,Nat.min_self,beq_self_eq_true,Bool.and_true] at q;rw[l1,hl,q] at key;exact key
   ·have key:=RcAt.lists_lengths (A:=R) fu bD (by rw[l1,l2];simpa using hl) (by lia);have hb:(i1.length==i2.length)=false:=by simpa using hl
    rw[hb,Bool.and_false] at q;show RcAt R s _ _ (bE i1 i2);rw[<-q];exact key
  | _=>simp[pl] at dX
 | _=>simp[pl] at iX
theorem vF (hok:dm P w H s.heap) (n:Nat) (d e:Dt) (x y:V) (u v:Value) (R:Around) (hd:dp d<=n + 1) (iX:pl d=true) (dX:pl e=true) (hu:R.units + n + 1 < cLine) (hx:RV K A H x d) (hy:RV K B H y e) (rx:RelV x u) (ry:RelV y v):RcNeAt R s u v (!bM d e):=by
 cases d with
 | a6=>
  have:=hx.ay;subst this;cases rx;cases e with
  | a6=>have:=hy.ay;subst this;cases ry;exact RcNeAt.none_none
  | bl i2=>have:=hy.aw;subst this;cases ry;exact RcNeAt.none_bool i2
  | int i2=>have:=hy.int_inv;subst this;obtain⟨t2,rfl⟩:=ry;exact RcNeAt.none_int i2 t2
  | str i2=>have:=hy.str_inv;subst this;obtain⟨t2,rfl⟩:=ry;exact RcNeAt.none_str i2 t2
  | tup i2=>obtain⟨a2,fk,q2,f2,g2⟩:=hy.ag;subst q2;cases ry;obtain⟨aE,r2,bD⟩:=Mx.aq hok f2;exact RcNeAt.none_tuple bD (by lia)
  | lst i2=>obtain⟨a2,fk,q2,f2,_,g2⟩:=hy.lst_inv;subst q2;cases ry;obtain⟨aE,r2,bD⟩:=aF hok f2;exact RcNeAt.none_list bD (by lia)
  | _=>simp[pl] at dX
 | bl i1=>
  have:=hx.aw;subst this;cases rx;cases e with
  | a6=>have:=hy.ay;subst this;cases ry;exact RcNeAt.bool_none i1
  | bl i2=>have:=hy.aw;subst this;cases ry;exact RcNeAt.bool_bool i1 i2
  | int i2=>have:=hy.int_inv;subst this;obtain⟨t2,rfl⟩:=ry;exact RcNeAt.bool_int i1 i2 t2
  | str i2=>have:=hy.str_inv;subst this;obtain⟨t2,rfl⟩:=ry;exact RcNeAt.bool_str i1 i2 t2
  | tup i2=>obtain⟨a2,fk,q2,f2,g2⟩:=hy.ag;subst q2;cases ry;obtain⟨aE,r2,bD⟩:=Mx.aq hok f2;exact RcNeAt.bool_tuple i1 bD (by lia)
  | lst i2=>obtain⟨a2,fk,q2,f2,_,g2⟩:=hy.lst_inv;subst q2;cases ry;obtain⟨aE,r2,bD⟩:=aF hok f2;exact RcNeAt.bool_list i1 bD (by lia)
  | _=>simp[pl] at dX
 | int i1=>
  have:=hx.int_inv;subst this;obtain⟨t1,rfl⟩:=rx;cases e with
  | a6=>have:=hy.ay;subst this;cases ry;exact RcNeAt.int_none i1 t1
  | bl i2=>have:=hy.aw;subst this;cases ry;exact RcNeAt.int_bool i1 t1 i2
  | int i2=>have:=hy.int_inv;subst this;obtain⟨t2,rfl⟩:=ry;exact RcNeAt.int_int i1 t1 i2 t2
  | str i2=>have:=hy.str_inv;subst this;obtain⟨t2,rfl⟩:=ry;exact RcNeAt.int_str i1 t1 i2 t2
  | tup i2=>obtain⟨a2,fk,q2,f2,g2⟩:=hy.ag;subst q2;cases ry;obtain⟨aE,r2,bD⟩:=Mx.aq hok f2;exact RcNeAt.int_tuple i1 t1 bD (by lia)
  | lst i2=>obtain⟨a2,fk,q2,f2,_,g2⟩:=hy.lst_inv;subst q2;cases ry;obtain⟨aE,r2,bD⟩:=aF hok f2;exact RcNeAt.int_list i1 t1 bD (by lia)
  | _=>simp[pl] at dX
 | str i1=>
  have:=hx.str_inv;subst this;obtain⟨t1,rfl⟩:=rx;cases e with
  | a6=>have:=hy.ay;subst this;cases ry;exact RcNeAt.str_none i1 t1
  | bl i2=>have:=hy.aw;subst this;cases ry;exact RcNeAt.str_bool i1 t1 i2
  | int i2=>have:=hy.int_inv;subst this;obtain⟨t2,rfl⟩:=ry;exact RcNeAt.str_int i1 t1 i2 t2
  | str i2=>have:=hy.str_inv;subst this;obtain⟨t2,rfl⟩:=ry;exact RcNeAt.str_str i1 t1 i2 t2
  | tup i2=>obtain⟨a2,fk,q2,f2,g2⟩:=hy.ag;subst q2;cases ry;obtain⟨aE,r2,bD⟩:=Mx.aq hok f2;exact RcNeAt.str_tuple i1 t1 bD (by lia)
  | lst i2=>obtain⟨a2,fk,q2,f2,_,g2⟩:=hy.lst_inv;subst q2;cases ry;obtain⟨aE,r2,bD⟩:=aF hok f2;exact RcNeAt.str_list i1 t1 bD (by lia)
  | _=>simp[pl] at dX
 | tup i1=>
  obtain⟨a1,vf,q1,f1,g1⟩:=hx.ag;subst q1;cases rx;obtain⟨cu,r1,fu⟩:=Mx.aq hok f1;cases e with
  | a6=>have:=hy.ay;subst this;cases ry;exact RcNeAt.tuple_none fu (by lia)
  | bl i2=>have:=hy.aw;subst this;cases ry;exact RcNeAt.tuple_bool i2 fu (by lia)
  | int i2=>have:=hy.int_inv;subst this;obtain⟨t2,rfl⟩:=ry;exact RcNeAt.tuple_int i2 t2 fu (by lia)
  | str i2=>have:=hy.str_inv;subst this;obtain⟨t2,rfl⟩:=ry;exact RcNeAt.tuple_str i2 t2 fu (by lia)
  | tup i2=>
   obtain⟨a2,fk,q2,f2,g2⟩:=hy.ag;subst q2;cases ry;obtain⟨aE,r2,bD⟩:=Mx.aq hok f2;have l1:cu.toArray.size=i1.length:=by rw[JA,<-r1.length,g1.length]
   have l2:aE.toArray.size=i2.length:=by rw[JA,<-r2.length,g2.length]
   have key:=RcNeAt.tuples (A:=R) (e:=pq i1 i2) fu bD (by lia) (elts hok g1 g2 r1 r2 l1 l2 (by simpa [pl] using iX) (by simpa [pl] using dX) (n:=n) (by unfold dp at hd;lia) (by show R.units + 1 + n < cLine;lia));have q:=bT i1 i2;rw[<-l1,<-l2] at q;rw[q] at key;exact key
  | lst i2=>obtain⟨a2,fk,q2,f2,_,g2⟩:=hy.lst_inv;subst q2;cases ry;obtain⟨aE,r2,bD⟩:=aF hok f2;exact RcNeAt.tuple_list fu bD (by lia)
  | _=>simp[pl] at dX
 | lst i1=>
  obtain⟨a1,vf,q1,f1,_,g1⟩:=hx.lst_inv;subst q1;cases rx;obtain⟨cu,r1,fu⟩:=aF hok f1;cases e with
  | a6=>have:=hy.ay;subst this;cases ry;exact RcNeAt.list_none fu (by lia)
  | bl i2=>have:=hy.aw;subst this;cases ry;exact RcNeAt.list_bool i2 fu (by lia)
  | int i2=>have:=hy.int_inv;subst this;obtain⟨t2,rfl⟩:=ry;exact RcNeAt.list_int i2 t2 fu (by lia)
  | str i2=>have:=hy.str_inv;subst this;obtain⟨t2,rfl⟩:=ry;exact RcNeAt.list_str i2 t2 fu (by lia)
  | tup i2=>obtain⟨a2,fk,q2,f2,g2⟩:=hy.ag;subst q2;cases ry;obtain⟨aE,r2,bD⟩:=Mx.aq hok f2;exact RcNeAt.list_tuple fu bD (by lia)
  | lst i2=>
   obtain⟨a2,fk,q2,f2,_,g2⟩:=hy.lst_inv;subst q2;cases ry;obtain⟨aE,r2,bD⟩:=aF hok f2;have l1:cu.toArray.size=i1.length:=by rw[JA,<-r1.length,g1.length]
   have l2:aE.toArray.size=i2.length:=by rw[JA,<-r2.length,g2.length]
   have q:=bT i1 i2;by_cases hl:i1.length=i2.length
   ·have key:=RcNeAt.lists (A:=R) (e:=pq i1 i2) fu bD (by lia) (by lia) (elts hok g1 g2 r1 r2 l1 l2 (by simpa [pl] using iX) (by simpa [pl] using dX) (n:=n) (by unfold dp at hd;lia) (by show R.units + 1 + n < cLine;lia));rw[hl,Nat.min_self,beq_self_eq_true,Bool.and_true] at q;rw[l1,hl,q] at key;exact key
   ·have key:=RcNeAt.lists_lengths (A:=R) fu bD (by rw[l1,l2];simpa using hl) (by lia);have hb:(i1.length==i2.length)=false:=by simpa using hl
    rw[hb,Bool.and_false] at q;show RcNeAt R s _ _ (!bE i1 i2);rw[<-q];exact key
  | _=>simp[pl] at dX
 | _=>simp[pl] at iX
end
end Rx
end
section
namespace HT
open PySem PyProof.Rows
section
variable {prog:Program} {w:World} {A:Around} {E:Value->Shared->Prop} {s:Shared}
theorem eI {t sl:Addr} {items:Array Value} {vl vu:Value} {lo hi:Option Int} {Q:Value->Shared->Prop} (ht:IsTup s.heap t items) (hs:s.heap.IsSliceOf sl vl vu .none) (pl:IsPart vl lo) (pu:IsPart vu hi)
  (hw:bt items.size 0 lo=0/\bt items.size items.size hi=items.size) (h:Q (.ref t) s) (ke:items.size<=sizeLine):wpAny (model prog w) A (getItem (.ref t) (.ref sl)) Q E s:=by
 obtain⟨os,zU,rL,Cf⟩:=id hs;have Fg:s.TypeIs (.ref sl) "slice":=⟨os,zU,rL⟩;unfold getItem
 try with_reducible refine wpAny_holding ?_
 first | refine Jv (Jy ?_) | skip
 refine Jv (wpAny_sequenceKey ht.typeIs (by decide) ?_);refine Jv (wpAny_callSpecial?_slot (name:=Str.ofString "__getitem__") ht.typeIs PyProof.Rows.slot_tuple_getitem
  (wpAny_call_entry PyProof.Rows.slot_tuple_getitem ht.typeIs entry_tuple_getitem ?_ (args_tuple_getitem _ _)))
 show wpAny _ _ (Builtin.Tuple.tupleItemsOf (.ref t) >>=_) _ _ s;refine Jv (tupleItemsOf_ ht ?_);refine Jv (wpAny_typeOf Fg ?_);rw[if_pos (by decide)];refine Jv (c8 hs pl pu ?_);show wpAny _ _ (if (((bt items.size 0 lo:Nat):Int)==0&&(1:Int)==1&&(bt items.size items.size hi - bt items.size 0 lo)==items.size)=true then _ else _) _ _ s;rw[if_pos (by rw[hw.1,hw.2];simp)];refine Jv (Jv (wpAny_typeOf ht.typeIs (Jy ?_)));rw[if_pos (by decide)];refine Jv (wpAny_rule ?_);exact Jy ⟨_,rfl,Jy h⟩
end
end HT
namespace Rx
open PySem PySem.W PySem.Spec PyProof.Rows L2 PySem.SeqAt
noncomputable abbrev N0:Addr->Prop:=λ_=>False
noncomputable def dS (K:Frag) (A:Addr->Prop) (H:Hp) (v:V):Dt->Prop
 | .lst ds=>∃a xs,v= .ref a/\H a=some (.lst xs)/\aj K A H xs ds
 | d=>RV K A H v d
noncomputable def lz (K:Frag) (A:Addr->Prop) (H:Hp):List V->List Dt->Prop
 | [],[]=>True
 | x::xs,d::ds=>dS K A H x d/\lz K A H xs ds
 | _,_=>False
section
variable {K:Frag} {A B:Addr->Prop} {H H':Hp}
theorem RV.one {v d} (h:RV K A H v d):dS K A H v d:=by
 cases d with
 | lst ds=>obtain⟨a,xs,h1,h2,_,h3⟩:=h.lst_inv;exact⟨a,xs,h1,h2,h3⟩
 | _=>exact h
theorem dS.ext {X:Addr->Prop} {v d} (h:dS K A H v d) (e:aI X H H') (hX:∀b,X b->A b) (hv:∀ds a,d= .lst ds->v= .ref a->¬X a):dS K A H' v d:=by
 cases d with
 | lst ds=>obtain⟨a,xs,h1,h2,h3⟩:=h;exact⟨a,xs,h1,e.kp _ _ h2 (hv ds a rfl h1),h3.mono e hX λ_ z=>z⟩
 | _=>exact RV.mono e hX (λ_ z=>z) h
theorem aj.ones:∀{vs ds},aj K A H vs ds->lz K A H vs ds
 | [],[],_=>trivial
 | [],_::_,h=>by unfold aj at h;exact h.elim
 | _::_,[],h=>by unfold aj at h;exact h.elim
 | _::_,_::_,h=>by unfold aj at h;exact⟨h.1.one,h.2.ones⟩
end
structure PR (K:Frag) (fr:Bool) (xs:List V) (ds:List Dt) (H:Hp) (d:Dt) (v:V) (H':Hp):Prop where
 same:bw H H'
 val:∀A:Addr->Prop,(∀a,A a->∃o,H a=some o)->lz K A H xs ds->RV K A H' v d
 dh:fr=true->∀es,d= .lst es->∃a ys,v= .ref a/\H a=none/\H' a=some (.lst ys)/\∀A:Addr->Prop,(∀a,A a->∃o,H a=some o)->lz K A H xs ds->aj K (λb=>A b\/b=a) H' ys es
noncomputable def rP (K:Frag) (fr:Bool) (f:List Dt->R Dt):List V->Hp->VK->Prop:=λxs H Q=>∃ds d,aj K N0 H xs ds/\f ds= .ok d/\∀v H',PR K fr xs ds H d v H'->Q v H'
section
variable {K:Frag} {fr:Bool} {xs:List V} {ds:List Dt} {H H':Hp} {d:Dt} {v:V}
noncomputable def lI:Dt->Bool
 | .a6 | .bl _ | .int _ | .str _=>true
 | _=>false
noncomputable def nq:Dt->V
 | .bl b=> .bl b
 | .int b=> .int b
 | .str b=> .str b
 | _=> .a6
theorem lO {A:Addr->Prop} (h:lI d=true):RV K A H (nq d) d:=by
 cases d with
 | a6=>exact RV.eS
 | bl b=>exact RV.jJ
 | int b=>exact RV.cz
 | str b=>exact RV.fZ
 | _=>simp[lI] at h
theorem PR.sc (h:lI d=true):PR K fr xs ds H d (nq d) H:=⟨bw.refl _,λA _ _=>lO h,λ_ es e=>by subst e;simp[lI] at h⟩
theorem PR.oA {p:Addr} {ys:List V} {es:List Dt} (hp:H p=none) (h:∀A:Addr->Prop,lz K A H xs ds->aj K A H ys es):PR K fr xs ds H (.lst es) (.ref p) (upd H p (.lst ys)):=by
 have s:=Mx.b8 hp (.lst ys);refine⟨s,λA hA q=>RV.cR aA (λz=>?_) ((h A q).same s),λ_ dR e=>?_⟩
 ·obtain⟨o,e⟩:=hA p z;rw[hp] at e;cases e
 ·cases e;exact⟨p,ys,rfl,hp,aA,λA hA q=>((h A q).avoid hp).same s⟩
theorem PR.yR {p:Addr} {ys:List V} {es:List Dt} (hp:H p=none) (h:∀A:Addr->Prop,lz K A H xs ds->aj K A H ys es):PR K fr xs ds H (.tup es) (.ref p) (upd H p (.tup ys)):=by have s:=Mx.b8 hp (.tup ys);exact⟨s,λA hA q=>RV.cD aA ((h A q).same s),λ_ dR e=>by cases e⟩
theorem PR.pR {p:Addr} {ys:List V} {es:List Dt} (hp:H p=some (.tup ys)) (h:∀A:Addr->Prop,lz K A H xs ds->aj K A H ys es):PR K fr xs ds H (.tup es) (.ref p) H:=
 ⟨bw.refl _,λA hA q=>RV.cD hp (h A q),λ_ dR e=>by cases e⟩
theorem bK:lim<=sizeLine:=by rw[sizeLine_eq];decide
theorem aV {b:Bool} {α:Type} {r:R α} {a:α} (h:ah b r= .ok a):b=true/\r= .ok a:=by
 cases b with
 | true=>exact⟨rfl,h⟩
 | false=>cases h
theorem dS.aF {A:Addr->Prop} {a:Addr} {xs:List V} {es:List Dt} (h:dS K A H (.ref a) (.lst es)) (e:H a=some (.lst xs)):aj K A H xs es:=by obtain⟨b,ys,q,h1,h2⟩:=h;cases q;rw[e] at h1;cases h1;exact h2
theorem dS.aq {A:Addr->Prop} {a:Addr} {xs:List V} {es:List Dt} (h:dS K A H (.ref a) (.tup es)) (e:H a=some (.tup xs)):aj K A H xs es:=by grind [RV.ag,V,Dt,dS,aj]
end
section
variable {X:Cx}
noncomputable def r2 (K:Frag) (f:Dt->Dt->R Dt):R2:=λx y H Q=>∃d e z,RV K N0 H x d/\RV K N0 H y e/\f d e= .ok z/\∀v H',PR K true [x,y] [d,e] H z v H'->Q v H'
theorem jO {i:Int} (h:i.natAbs < 2 ^ 64): -(2 ^ 64) < i/\i < 2 ^ 64:=by lia
theorem zB:jK X (binaryOp .FloorDiv) (rI (λ_ j=>0 < j/\j.natAbs.log2 < 9000) λi j=> .int (i / j)):=DJ λi j _ _ _ _ _ hc q=>by have h1:(0:Int) < j:=hc.1;exact floordiv_int (by lia) (by rw[Int.fdiv_eq_ediv_of_nonneg i (by lia)];exact q) (.inl (PyProof.noPylong_of_log2 hc.2))
theorem AA (o:Operator):jK X (binaryOp o) (r2 X.K (mC o)):=by
 intro pins s σ H x y v u Q I rx ry h;obtain⟨d,e,z,hx,hy,he,q⟩:=h;have CJ:=bK;unfold mC at he;split at he
 ·split at he
  ·rename_i i j;cases he;exact zR pins s σ H x y v u Q I rx ry ⟨i,j,hx.int_inv,hy.int_inv,q _ _ (PR.sc (d:= .int _) rfl)⟩
  ·rename_i i j;obtain⟨g,he⟩:=aV he;cases he;exact nN pins s σ H x y v u Q I rx ry ⟨i,j,hx.str_inv,hy.str_inv,JJ (JB g) CJ,q _ _ (PR.sc (d:= .str _) rfl)⟩
  ·rename_i i j;obtain⟨g,he⟩:=aV he;cases he;obtain⟨a,xs,rfl,h1,_,h2⟩:=hx.lst_inv;obtain⟨b,ys,rfl,k1,_,k2⟩:=hy.lst_inv;refine dq pins s σ H _ _ v u Q I rx ry ⟨a,b,xs,ys,rfl,rfl,h1,k1,?_,λp hp=>q _ _ (PR.oA hp λA w=>?_)⟩
   ·rw[h2.length,k2.length];exact JJ (JB g) CJ
   ·exact(dS.aF w.1 h1).append (dS.aF w.2.1 k1)
  ·rename_i i j;obtain⟨g,he⟩:=aV he;cases he;obtain⟨a,xs,rfl,h1,h2⟩:=hx.ag;obtain⟨b,ys,rfl,k1,k2⟩:=hy.ag;by_cases hd:xs=[]
   ·subst hd;cases h2.cy;cases rx;cases ry;obtain⟨its,r1,p1,_⟩:=I.tuple (dy.of h1);obtain⟨aE,r2,p2,_⟩:=I.tuple (dy.of k1);cases r1;obtain⟨⟨cls,dd,data,sl⟩,ho,hc,n,vg⟩:=p1;obtain⟨⟨BM,vi,data2,rJ⟩,pe,mK,n2,nD⟩:=p2;simp only at hc vg mK nD;subst hc vg mK nD;exact concat_meets ⟨_,ho,rfl⟩ ⟨_,pe,rfl⟩ noFill_tuple_add seq_tuple_add PySem.F.slot_tuple_add PySem.F.entry_tuple_add (PySem.F.args_tuple_add_2 _ _)
     (Mx.tuple_addW0 a b _ _ n n2 dd vi sl rJ rfl) ⟨ho,pe,⟨.ref b,H,I,rfl,q _ _ (PR.pR k1 λA w=>dS.aq w.2.1 k1)⟩⟩
   ·refine dw pins s σ H (.ref a) (.ref b) v u Q I rx ry ⟨a,b,xs,ys,rfl,rfl,dy.of h1,dy.of k1,hd,?_,λe=>?_,λe p hp=>?_⟩
    ·rw[h2.length,k2.length];exact JJ (JB g) CJ
    ·subst e;cases k2.cy;rw[Kd] at q;exact q _ _ (PR.pR h1 λA w=>dS.aq w.1 h1)
    ·exact q _ _ (PR.yR hp λA w=>(dS.aq w.1 h1).append (dS.aq w.2.1 k1))
  ·cases he
 ·split at he
  ·rename_i i j;obtain⟨g,he⟩:=aV he;cases he;refine zD pins s σ H x y v u Q I rx ry ⟨i,j,hx.int_inv,hy.int_inv,?_,q _ _ (PR.sc (d:= .int _) rfl)⟩;rw[Ke] at g;rcases g with g | g
   ·exact .inl (jO (JB g))
   ·exact .inr (jO (JB g))
  ·cases he
 ·split at he
  ·rename_i i j;obtain⟨g,he⟩:=aV he;cases he;rw[Jz] at g;exact zB pins s σ H x y v u Q I rx ry ⟨i,j,hx.int_inv,hy.int_inv,⟨JB g.1,JB g.2⟩,q _ _ (PR.sc (d:= .int _) rfl)⟩
  ·cases he
 ·split at he
  ·rename_i i j;obtain⟨g,he⟩:=aV he;cases he;exact zX pins s σ H x y v u Q I rx ry ⟨i,j,hx.int_inv,hy.int_inv,JB g,q _ _ (PR.sc (d:= .int _) rfl)⟩
  ·cases he
 ·cases he
noncomputable def rC (K:Frag) (o:CmpOp):R2:=λx y H Q=>∃d e z,RV K N0 H x d/\RV K N0 H y e/\cH o d e= .ok z/\Q (.bl z) H
theorem sJ (o:CmpOp) (hu:X.A.units + 150 < cLine):jK X (compareOp o) (rC X.K o):=by
 intro pins s σ H x y v u Q I rx ry h;obtain⟨d,e,z,hx,hy,he,q⟩:=h;unfold cH at he;split at he
 ·obtain⟨g,he⟩:=aV he;cases he;unfold oW at g;rw[Jz,Jz] at g;exact Cb I.hok 100 d e x y v u X.A (Nat.le_succ_of_le (JB g.2)) g.1.1 g.1.2 (by lia) hx hy rx ry X.prog X.w X.xe (EP X pins σ Q) ⟨.bl _,H,I,rfl,q⟩
 ·obtain⟨g,he⟩:=aV he;cases he;unfold oW at g;rw[Jz,Jz] at g;exact vF I.hok 100 d e x y v u X.A (Nat.le_succ_of_le (JB g.2)) g.1.1 g.1.2 (by lia) hx hy rx ry X.prog X.w X.xe (EP X pins σ Q) ⟨.bl _,H,I,rfl,q⟩
 ·rename_i i j;cases he;exact CU pins s σ H x y v u Q I rx ry ⟨i,j,hx.int_inv,hy.int_inv,q⟩
 ·rename_i i j;cases he;exact Ck pins s σ H x y v u Q I rx ry ⟨i,j,hx.int_inv,hy.int_inv,q⟩
 ·rename_i i j;cases he;exact Bo pins s σ H x y v u Q I rx ry ⟨i,j,hx.int_inv,hy.int_inv,q⟩
 ·rename_i i j;cases he;exact Cc pins s σ H x y v u Q I rx ry ⟨i,j,hx.int_inv,hy.int_inv,q⟩
 ·cases he
theorem n8 {ds:List Dt} {i:Int} {d:Dt} (h:u5 ds i= .ok d):mB ds i=some d:=by
 unfold u5 at h;split at h
 ·cases h;assumption
 ·cases h
theorem gX {K:Frag} {A:Addr->Prop} {H:Hp} {xs:List V} {ds:List Dt} {i:Int} {d:Dt} (g:aj K A H xs ds) (h:mB ds i=some d):∃v,mB xs i=some v/\RV K A H v d:=by
 unfold mB at h ⊢;rw[g.length];cases e:rO ds.length i with
 | none=>rw[e] at h;cases h
 | some j=>rw[e] at h;obtain⟨v,h1,h2⟩:=g.getD (i:=j) h;exact⟨v,h1,h2⟩
noncomputable def rX (K:Frag):R2:=λx y H Q=>∃d e z,RV K N0 H x d/\RV K N0 H y e/\bj d e= .ok z/\∀v,PR K false [x,y] [d,e] H z v H->Q v H
theorem yu:A5 X (rX X.K):=by
 intro value slice pins s σ H x y v u Q I rx ry h hs;obtain⟨d,e,z,hx,hy,he,q⟩:=h;unfold bj at he;split at he
 ·rename_i ds i;obtain⟨a,xs,rfl,h1,_,h2⟩:=hx.lst_inv;have mq:=n8 he;obtain⟨w,k1,k2⟩:=gX h2 mq;refine pk value slice pins s σ H _ y v u Q I rx ry ⟨a,xs,i,w,rfl,hy.int_inv,cW.of h1,k1,q w ⟨bw.refl _,λA _ q'=>?_,λz=>by cases z⟩⟩ hs;obtain⟨w',m1,m2⟩:=gX (dS.aF q'.1 h1) mq;rw[k1] at m1;cases m1;exact m2
 ·rename_i ds i;obtain⟨a,xs,rfl,h1,h2⟩:=hx.ag;have mq:=n8 he;obtain⟨w,k1,k2⟩:=gX h2 mq;refine Ai value slice pins s σ H _ y v u Q I rx ry ⟨a,xs,i,w,rfl,hy.int_inv,dy.of h1,k1,q w ⟨bw.refl _,λA _ q'=>?_,λz=>by cases z⟩⟩ hs;obtain⟨w',m1,m2⟩:=gX (dS.aq q'.1 h1) mq;rw[k1] at m1;cases m1;exact m2
 ·rename_i ns i;obtain⟨a,rfl,h1⟩:=hx.gc;have mq:=n8 he;have e1:mB ((ns.map V.int)) i=some (nq z)/\lI z=true:=by
   unfold mB at mq ⊢;rw[JH] at mq ⊢;cases e:rO ns.length i with
   | none=>rw[e] at mq;cases mq
   | some j=>
    rw[e] at mq;simp only[Option.bind_some,JR] at mq ⊢;cases en:ns[j]? with
    | none=>rw[en] at mq;cases mq
    | some k=>rw[en] at mq;simp at mq;subst mq;exact⟨rfl,rfl⟩
  exact pk value slice pins s σ H _ y v u Q I rx ry ⟨a,_,i,_,rfl,hy.int_inv,h1,e1.1,q _ (PR.sc e1.2)⟩ hs
 ·rename_i w i;obtain⟨g,he⟩:=aV he;split at he
  ·rename_i c hc;cases he;exact zh value slice pins s σ H _ y v u Q I rx ry ⟨w,i,c,hx.str_inv,hy.int_inv,JJ (JB g) bK,hc,q _ (PR.sc (d:= .str _) rfl)⟩ hs
  ·cases he
 ·cases he
noncomputable def rS (K:Frag):V->Option Int->Option Int->Hp->VK->Prop:=λx lo hi H Q=>∃d z,RV K N0 H x d/\eF d lo hi= .ok z/\∀v H',PR K true [x] [d] H z v H'->Q v H'
theorem aj.cut {K:Frag} {A:Addr->Prop} {H:Hp} {xs:List V} {ds:List Dt} {lo hi:Option Int} (g:aj K A H xs ds):aj K A H (jx xs lo hi) (cutD ds lo hi):=by unfold jx cutD;rw[g.length];exact(g.drop _).take _
theorem oB {xs:List V} {lo hi:Option Int} (h:HT.bt xs.length 0 lo=0/\HT.bt xs.length xs.length hi=xs.length):jx xs lo hi=xs:=by unfold jx;rw[h.1,h.2];simp
theorem lE:AL X (λx lo hi H Q=>∃a xs,x= .ref a/\H a=some (.tup xs)/\(HT.bt xs.length 0 lo=0/\HT.bt xs.length xs.length hi=xs.length)/\Q (.ref a) H):=by
 intro pins s σ H x v vl vu lo hi sl Q I rx hs pl pu h;obtain⟨a,xs,rfl,hx,hw,q⟩:=h;cases rx;obtain⟨its,r,ht,hz⟩:=I.tuple (dy.of hx);have hlen:its.toArray.size=xs.length:=by rw[JA];exact r.length.symm
 refine⟨"tuple",_,PyProof.Rows.slot_tuple_getitem.lookup,ht.typeIs,?_⟩;refine HT.eI ht hs pl pu (by rw[hlen];exact hw) ⟨.ref a,H,I,rfl,q⟩ (by rw[hlen];exact hz)
theorem fD {K:Frag} {A:Addr->Prop} {H:Hp}:∀{ns:List Int},aj K A H (ns.map V.int) (ns.map Dt.int)
 | []=>aj.nil
 | _::_=>aj.cons RV.cz fD
theorem sT:AL X (rS X.K):=by
 intro pins s σ H x v vl vu lo hi sl Q I rx hs pl pu h;obtain⟨d,z,hx,he,q⟩:=h;unfold eF at he;split at he
 ·cases he;obtain⟨a,xs,rfl,h1,_,h2⟩:=hx.lst_inv;exact qo pins s σ H _ v vl vu lo hi sl Q I rx hs pl pu ⟨a,xs,rfl,cW.of h1,λp hp=>q _ _ (PR.oA hp λA w=>(dS.aF w.1 h1).cut)⟩
 ·cases he;obtain⟨a,rfl,h1⟩:=hx.gc;exact qo pins s σ H _ v vl vu lo hi sl Q I rx hs pl pu ⟨a,_,rfl,h1,λp hp=>q _ _ (PR.oA hp λA w=>aj.cut fD)⟩
 ·cases he;obtain⟨a,xs,rfl,h1,h2⟩:=hx.ag;by_cases hw:HT.bt xs.length 0 lo=0/\HT.bt xs.length xs.length hi=xs.length
  ·refine lE pins s σ H _ v vl vu lo hi sl Q I rx hs pl pu ⟨a,xs,rfl,h1,hw,q _ _ (PR.pR h1 λA w=>?_)⟩;have:=(dS.aq w.1 h1).cut (lo:=lo) (hi:=hi);rw[oB hw] at this;exact this
  ·exact zp pins s σ H _ v vl vu lo hi sl Q I rx hs pl pu ⟨a,xs,rfl,dy.of h1,hw,λp hp=>q _ _ (PR.yR hp λA w=>(dS.aq w.1 h1).cut)⟩
 ·obtain⟨g,he⟩:=aV he;cases he;exact Mx.Av pins s σ H _ v vl vu lo hi sl Q I rx hs pl pu ⟨_,hx.str_inv,JJ (JB g) bK,q _ _ (PR.sc (d:= .str _) rfl)⟩
 ·cases he
theorem eM:∀{l l':List Mx.D},l.Perm l'->(l.Pairwise λa b=>Mx.D.lt b a=false)->(l'.Pairwise λa b=>Mx.D.lt b a=false)->l=l'
 | [],l',p,_,_=>(List.nil_perm.mp p).symm
 | a::t,l',p,h1,h2=>by
  cases l' with
  | nil=>exact absurd p.length_eq (by simp)
  | cons b t'=>
   rw[List.pairwise_cons] at h1 h2;have gP:a=b:=by
    have ha:a∈b::t':=p.mem_iff.mp JF;have hb:b∈a::t:=p.mem_iff.mpr JF;rcases JK.mp ha with e | ha
    ·exact e
    rcases JK.mp hb with e | hb
    ·exact e.symm
    exact Mx.D.cY a b (h2.1 a ha) (h1.1 b hb)
   subst gP;rw[eM (List.perm_cons a |>.mp p) h1.2 h2.2]
theorem jg (ms:List Mx.D):(aW ms).Perm ms/\(aW ms).Pairwise λa b=>Mx.D.lt b a=false:=by
 unfold aW;refine⟨List.mergeSort_perm ms nv,?_⟩;have h:=List.pairwise_mergeSort (le:=nv) (λa b c h1 h2=>by
  unfold nv at *;simp only[Bool.not_eq_true'] at *;cases h3:Mx.D.lt c a with
  | false=>rfl
  | true=>
   rcases Mx.BX.negTrans c b a h3 with h | h
   ·have h:Mx.D.lt c b=true:=h;rw[h2] at h;cases h
   ·have h:Mx.D.lt b a=true:=h;rw[h1] at h;cases h) (λa b=>by
  unfold nv;cases h:Mx.D.lt b a with
  | false=>rfl
  | true=>
   cases h':Mx.D.lt a b with
   | false=>rfl
   | true=>have:=Mx.D.lt_trans a b a h' h;rw[Mx.D.lt_irrefl] at this;cases this) ms
 exact h.imp λq=>by unfold nv at q;simpa using q
theorem tq {ms es:List Mx.D} (h:Mx.i6 ms es):es=aW ms:=eM (h.1.trans (jg ms).1.symm) h.2 (jg ms).2
mutual
theorem qv:∀{d e:Mx.D},gh d e=true->Mx.D.dP d e
 | .int _,.int _,_=>by unfold Mx.D.dP;trivial
 | .str _,.str _,_=>by unfold Mx.D.dP;trivial
 | .tup a,.tup b,h=>by unfold Mx.D.dP;exact jD (by simpa [gh] using h)
 | .int _,.str _,h=>by simp[gh] at h
 | .int _,.tup _,h=>by simp[gh] at h
 | .str _,.int _,h=>by simp[gh] at h
 | .str _,.tup _,h=>by simp[gh] at h
 | .tup _,.int _,h=>by simp[gh] at h
 | .tup _,.str _,h=>by simp[gh] at h
theorem jD:∀{d e:List Mx.D},f6 d e=true->Mx.D.eO d e
 | [],_,_=>by unfold Mx.D.eO;trivial
 | _::_,[],_=>by unfold Mx.D.eO;trivial
 | x::xs,y::ys,h=>by simp only[f6,Jz] at h;unfold Mx.D.eO;exact⟨qv h.1,jD h.2⟩
end
theorem yD {k:Mx.SK} {d:Mx.D} (h:Bq k d=true):k.ok d:=by
 unfold Bq at h;split at h
 ·have e:=JV h;subst e;exact⟨_,_,rfl⟩
 ·have e:=JV h;subst e;exact⟨_,_,rfl⟩
 ·have e:=JV h;subst e;exact⟨_,_,rfl⟩
 ·have e:=JV h;subst e;exact⟨_,rfl⟩
 ·have e:=JV h;subst e;exact⟨_,rfl⟩
 ·cases h
theorem vL {ms:List Mx.D} (h:gu ms=true):Mx.iI ms:=by
 unfold gu at h;rw[Jz,Ke] at h;obtain⟨h1,h2⟩:=h;refine⟨JB h1,λh3=>?_⟩;rcases h2 with h2 | h2
 ·have:=JB h2
  lia
 ·rw[Jz,Jz] at h2;obtain⟨⟨h4,h5⟩,h6⟩:=h2;refine⟨JB h4,?_,λd hd e he=>qv (J9.mp (J9.mp h6 d hd) e he)⟩;obtain⟨k,_,hk⟩:=Ka.mp h5;exact⟨k,λd hd=>yD (J9.mp hk d hd)⟩
end
end Rx
end
section
namespace Rx
open PySem PySem.W PySem.Spec PyProof.Rows L2 PySem.SeqAt
section
variable {X:Cx}
noncomputable def AQ:BI->Value
 | .len=> .builtin "len"
 | .sorted=> .builtin "sorted" | .tuple=> .type "tuple" | .list=> .type "list" | _=> .none
noncomputable def Ao:BI->Bool
 | .isi _=>false | _=>true
theorem bW {K:Frag} {A:Addr->Prop} {H:Hp} {xs:List V} {d:Dt} (h:aj K A H xs [d]):∃x,xs=[x]/\RV K A H x d:=by obtain⟨x,r,rfl,h1,h2⟩:=h.cons_inv;rw[h2.nil_inv];exact⟨x,rfl,h1⟩
theorem vA (b:BI) (hr:Ao b=true) (hc:X.calm=true) (hu:X.A.units + 150 < cLine):fI X (AQ b) (rP X.K true (ez b)):=by
 intro pins s σ H xs us Q I r h;obtain⟨ds,d,hx,he,q⟩:=h;have CJ:=bK;unfold ez at he;split at he
 ·split at he
  ·obtain⟨g,he⟩:=aV he;cases he;obtain⟨x,rfl,h1⟩:=bW hx;exact fz pins s σ H _ us Q I r ⟨x,_,rfl,by rw[h1.str_inv];exact⟨JJ (JB g) CJ,rfl⟩,q _ _ (PR.sc (d:= .int _) rfl)⟩
  ·cases he;obtain⟨x,rfl,h1⟩:=bW hx;obtain⟨a,ys,rfl,h2,_,h3⟩:=h1.lst_inv;exact fz pins s σ H _ us Q I r ⟨_,_,rfl,.inl ⟨ys,cW.of h2,rfl⟩,by rw[h3.length];exact q _ _ (PR.sc (d:= .int _) rfl)⟩
  ·cases he;obtain⟨x,rfl,h1⟩:=bW hx;obtain⟨a,ys,rfl,h2,h3⟩:=h1.ag;exact fz pins s σ H _ us Q I r ⟨_,_,rfl,.inr ⟨ys,dy.of h2,rfl⟩,by rw[h3.length];exact q _ _ (PR.sc (d:= .int _) rfl)⟩
  ·cases he;obtain⟨x,rfl,h1⟩:=bW hx;obtain⟨a,rfl,h2⟩:=h1.gc;exact fz pins s σ H _ us Q I r ⟨_,_,rfl,.inl ⟨_,h2,rfl⟩,by rw[JH];exact q _ _ (PR.sc (d:= .int _) rfl)⟩
  ·cases he
 ·split at he
  ·rename_i d0;split at he
   ·rename_i es hes;split at he
    ·rename_i ms hms;obtain⟨g,he⟩:=aV he;cases he;have cs:=vL g;obtain⟨x,rfl,h1⟩:=bW hx;have Ib:=kq hms;have go:∀{a:Addr} {ys:List V},x= .ref a->(cW X.K H a ys\/dy X.K H a ys)->aj X.K N0 H ys es->wpAny (model X.prog X.w) X.A (call (AQ .sorted) us) (EP X pins σ Q) X.xe s:=by intro a ys ex hs g;subst ex;rw[Ib] at g;refine Mx.kl hu pins s σ H _ us Q I r ⟨a,ys,ms,rfl,hs,g.rl,cs,λm zs qs hm hz hso=>q _ _ ?_⟩;have e:=tq hso;subst e;exact PR.oA hm λA _=>aj.oN hz
     unfold itemsOf at hes;split at hes
     ·cases hes;obtain⟨a,ys,e1,h2,_,h3⟩:=h1.lst_inv;exact go e1 (.inl (cW.of h2)) h3
     ·cases hes;obtain⟨a,ys,e1,h2,h3⟩:=h1.ag;exact go e1 (.inr (dy.of h2)) h3
     ·cases hes;obtain⟨a,e1,h2⟩:=h1.gc;exact go e1 (.inl h2) fD
     ·cases hes
    ·cases he
   ·cases he
  ·cases he
 ·split at he
  ·cases he;obtain⟨x,rfl,h1⟩:=bW hx;obtain⟨a,ys,rfl,h2,_,h3⟩:=h1.lst_inv;exact eN pins s σ H _ us Q I r ⟨a,ys,rfl,.inl ⟨cW.of h2,λl hl=>q _ _ (PR.yR hl λA w=>dS.aF w.1 h2)⟩⟩
  ·cases he;obtain⟨x,rfl,h1⟩:=bW hx;obtain⟨a,ys,rfl,h2,h3⟩:=h1.ag;exact eN pins s σ H _ us Q I r ⟨a,ys,rfl,.inr ⟨dy.of h2,q _ _ (PR.pR h2 λA w=>dS.aq w.1 h2)⟩⟩
  ·cases he
 ·split at he
  ·cases he;obtain⟨x,rfl,h1⟩:=bW hx;obtain⟨a,ys,rfl,h2,_,h3⟩:=h1.lst_inv;exact du pins s σ H _ us Q I r ⟨a,ys,rfl,.inl (cW.of h2),λl hl=>q _ _ (PR.oA hl λA w=>dS.aF w.1 h2)⟩
  ·cases he;obtain⟨x,rfl,h1⟩:=bW hx;obtain⟨a,ys,rfl,h2,h3⟩:=h1.ag;exact du pins s σ H _ us Q I r ⟨a,ys,rfl,.inr (dy.of h2),λl hl=>q _ _ (PR.oA hl λA w=>dS.aq w.1 h2)⟩
  ·cases he;obtain⟨x,rfl,h1⟩:=bW hx;obtain⟨a,rfl,h2⟩:=h1.gc;exact du pins s σ H _ us Q I r ⟨a,_,rfl,.inl h2,λl hl=>q _ _ (PR.oA hl λA w=>fD)⟩
  ·cases he
 ·cases hr
end
structure Fm where
 K:Frag
 H0:Hp
 d0:Option Addr
 Ek:Nat->Prop
structure Ow where
 W:Addr->Prop
 A:Addr->Prop
 dr:Option Addr
noncomputable def Ow.wd (o:Ow):Addr->Prop:=λa=>o.W a\/o.dr=some a
noncomputable def Ow.d (o:Ow):Addr->Prop:=λa=>o.dr=some a
noncomputable def OV (K:Frag) (H0:Hp) (o:Ow) (H:Hp) (v:V):Dt->Prop
 | .lst ds=>∃a xs,v= .ref a/\H a=some (.lst xs)/\o.A a/\¬o.W a/\o.dr≠some a/\H0 a=none/\aj K o.A H xs ds
 | d=>RV K o.A H v d
structure ER (Φ:Fm) (Γ:Gm) (o:Ow) (ρ:ai) (S:Sx) (σ:L2.St) (H:Hp):Prop where
 len:σ.length=ρ.length
 wa:∀a,o.W a->o.A a
 da:∀a,o.dr=some a->o.A a
 al:∀a,o.A a->∃x,H a=some x
 val:∀(i:Nat) (d:Dt),ρ[i]?=some (some d)->∃v,σ[i]?=some (some v)/\(if dg Γ i=true then OV Φ.K Φ.H0 o H v d else RV Φ.K o.A H v d)
 inj:∀(i j:Nat) (a:Addr) (d e:List Dt),dg Γ i=true->dg Γ j=true->ρ[i]?=some (some (.lst d))->ρ[j]?=some (some (.lst e))->σ[i]?=some (some (.ref a))->σ[j]?=some (some (.ref a))->i=j
 drw:∀a,o.dr=some a->∃ns:List Int,S=some ns/\H a=some (.lst (ns.map V.int))
 drn:o.dr=none->S=none
 drs:∀(i:Nat) (a:Addr),Γ.δ=some i->o.dr=some a->σ[i]?=some (some (.ref a))
 dr0:∀a,o.dr=some a->Φ.d0=some a\/Φ.H0 a=none
 ent:aI (λb=>Φ.d0=some b) Φ.H0 H
section
variable {Φ:Fm} {Γ:Gm} {o:Ow} {ρ:ai} {S S':Sx} {σ:L2.St} {H H':Hp}
theorem OV.val {K:Frag} {H0:Hp} {v:V} {d:Dt} (h:OV K H0 o H v d) (wa:∀a,o.W a->o.A a) (da:∀a,o.dr=some a->o.A a):RV K o.wd H v d:=by
 have hw:∀b,o.wd b->o.A b:=λb z=>z.elim (wa b) (da b)
 cases d with
 | lst ds=>obtain⟨a,xs,rfl,h1,h2,h3,h4,_,h5⟩:=h;exact RV.cR h1 (λz=>z.elim h3 h4) (h5.weak hw)
 | _=>exact RV.weak h hw
theorem OV.one {K:Frag} {H0:Hp} {v:V} {d:Dt} (h:OV K H0 o H v d):dS K o.A H v d:=by
 cases d with
 | lst ds=>obtain⟨a,xs,rfl,h1,h2,h3,h4,_,h5⟩:=h;exact⟨a,xs,rfl,h1,h5⟩
 | _=>exact h
theorem OV.ext {K:Frag} {H0:Hp} {v:V} {d:Dt} (h:OV K H0 o H v d) (da:∀a,o.dr=some a->o.A a) (e:aI o.d H H'):OV K H0 o H' v d:=by
 cases d with
 | lst ds=>obtain⟨a,xs,rfl,h1,h2,h3,h4,h6,h5⟩:=h;exact⟨a,xs,rfl,e.kp _ _ h1 h4,h2,h3,h4,h6,h5.mono e da λ_ z=>z⟩
 | _=>exact RV.mono e da (λ_ z=>z) h
theorem ER.fh (er:ER Φ Γ o ρ S σ H):∀b,o.wd b->o.A b:=λb z=>z.elim (er.wa b) (er.da b)
theorem ER.sU (er:ER Φ Γ o ρ S σ H):∀b,o.wd b->∃x,H b=some x:=λb z=>er.al b (er.fh b z)
theorem aI.al {X:Addr->Prop} (e:aI X H H') {b:Addr} {x:HO} (h:H b=some x) (hx:X b->∃y,H' b=some y):∃y,H' b=some y:=by
 by_cases z:X b
 ·exact hx z
 ·exact⟨x,e.kp _ _ h z⟩
theorem ER.step (er:ER Φ Γ o ρ S σ H) (e:aI o.d H H') (hd:∀a,o.dr=some a->∃ns:List Int,S'=some ns/\H' a=some (.lst (ns.map V.int))) (hn:o.dr=none->S'=none):ER Φ Γ o ρ S' σ H' where
 len:=er.len
 wa:=er.wa
 da:=er.da
 al:=λa ha=>by obtain⟨x,hx⟩:=er.al a ha;exact e.al hx λz=>by obtain⟨ns,_,h⟩:=hd a z;exact⟨_,h⟩
 val:=λi d h=>by
  obtain⟨v,h1,h2⟩:=er.val i d h;refine⟨v,h1,?_⟩;by_cases m:dg Γ i=true
  ·rw[if_pos m] at h2 ⊢;exact h2.ext er.da e
  ·rw[if_neg m] at h2 ⊢;exact h2.mono e er.da λ_ z=>z
 inj:=er.inj
 drw:=hd
 drn:=hn
 drs:=er.drs
 dr0:=er.dr0
 ent:=⟨λb x h n=>by
   refine e.kp _ _ (er.ent.kp b x h n) λz=>?_
   rcases er.dr0 b z with q | q
   ·exact n q
   ·(rw[h] at q;cases q),λb xs h=>e.tp _ _ (er.ent.tp b xs h)⟩
theorem ER.grow (er:ER Φ Γ o ρ S σ H) (s:bw H H'):ER Φ Γ o ρ S σ H':=er.step (aI.of_same s) (λa h=>by
 obtain⟨ns,h1,h2⟩:=er.drw a h;exact⟨ns,h1,s _ _ h2⟩) er.drn
end
noncomputable def mR (Ek:Nat->Prop) {α:Type} (r:R α) (P:α->Prop):Prop:=match r with
 | .ok a=>P a
 | .ex k=>Ek k
 | .bad=>False
section
variable {Ek:Nat->Prop} {α β:Type}
theorem ae {r:R α} {f:α->R β} {P:β->Prop}:mR Ek (r.bind f) P↔mR Ek r λa=>mR Ek (f a) P:=by cases r <;> rfl
theorem af {r:R α} {P Q:α->Prop} (h:mR Ek r P) (hq:∀a,r= .ok a->P a->Q a):mR Ek r Q:=by
 cases r with
 | ok a=>exact hq a rfl h
 | ex k=>exact h
 | bad=>exact h
theorem aC {b:Bool} {r:R α} {P:α->Prop} (h:mR Ek (ah b r) P):b=true/\mR Ek r P:=by
 cases b with
 | true=>exact⟨rfl,h⟩
 | false=>exact h.elim
end
structure EO (K:Frag) (fr:Nat->Bool) (o:Ow) (c:C) (H:Hp) (d:Dt) (v:V) (H':Hp):Prop where
 ext:aI o.d H H'
 val:RV K o.wd H' v d
 jX:lk c=0->RV K o.A H' v d
 tP:lk c<=1->dS K o.A H' v d
 dh:fresh fr c=true->∀ds,d= .lst ds->∃a xs,v= .ref a/\H a=none/\H' a=some (.lst xs)/\aj K (λb=>o.wd b\/b=a) H' xs ds/\(lk c=0->aj K (λb=>o.A b\/b=a) H' xs ds)
structure HU (K:Frag) (o:Ow) (cs:Cs) (H:Hp) (ds:List Dt) (vs:List V) (H':Hp):Prop where
 ext:aI o.d H H'
 val:aj K o.wd H' vs ds
 jX:mw cs=0->aj K o.A H' vs ds
 tP:mw cs<=1->lz K o.A H' vs ds
section
variable (Φ:Fm) (Γ:Gm) (F:FT) (fr:Nat->Bool)
noncomputable def bz (c:C):TE:=λσ H Q=>∃o ρ S,ER Φ Γ o ρ S σ H/\mR Φ.Ek (ev F c ρ S) λp=>∀v H',EO Φ.K fr o c H p.1 v H'->ER Φ Γ o ρ p.2 σ H'->Q v H'
noncomputable def ej (c:C):TT:=λσ H Q=>∃o ρ S,ER Φ Γ o ρ S σ H/\mR Φ.Ek (cg F c ρ S) λp=>∀H',aI o.d H H'->ER Φ Γ o ρ p.2 σ H'->Q p.1 H'
noncomputable def kF (cs:Cs):TA:=λσ H Q=>∃o ρ S,ER Φ Γ o ρ S σ H/\mR Φ.Ek (fj F cs ρ S) λp=>∀vs H',HU Φ.K o cs H p.1 vs H'->ER Φ Γ o ρ p.2 σ H'->Q vs H'
noncomputable def mz (cs:Cs):TT:=λσ H Q=>∃o ρ S,ER Φ Γ o ρ S σ H/\mR Φ.Ek (bY F cs ρ S) λp=>∀H',aI o.d H H'->ER Φ Γ o ρ p.2 σ H'->Q p.1 H'
end
structure Wk (K:Frag) (A X:Addr->Prop) (J:It) (H:Hp) (ds:List Dt):Prop where
 go:∀(i:Nat) (H1:Hp),i < ds.length->aI X H H1->J.go i H1
 stop:∀(H1:Hp),aI X H H1->J.stop ds.length H1
 yld:∀(i:Nat) (x:V) (H1 H2:Hp),i < ds.length->aI X H H1->J.yld i H1 x H2->bw H1 H2/\∃d,ds[i]?=some d/\∀B:Addr->Prop,(∀b,B b->A b\/H b=none)->RV K B H2 x d
structure IO (K:Frag) (o:Ow) (it:jV) (nl:Bool) (H:Hp) (ds:List Dt) (J:It) (H':Hp):Prop where
 ext:aI o.d H H'
 w1:nu it<=1->Wk K o.A o.d J H' ds
 w0:nu it=0->Wk K o.A o.A J H' ds
 w2:nl=true->Wk K o.A o.A J H' ds
noncomputable def ll (Φ:Fm) (Γ:Gm) (F:FT) (it:jV):TI:=λσ H Q=>∃o ρ S,ER Φ Γ o ρ S σ H/\mR Φ.Ek (cw F it ρ S) λp=>∀J H',IO Φ.K o it (iK F it ρ S) H p.1 J H'->ER Φ Γ o ρ p.2 σ H'->Q J H'
structure GX (g:G) (Γ:Gm) (X:Cx):Prop where
 N:X.N=Γ.N
 nd:Γ.N.Nodup
 vis:∀x,sk (Γ.names.lookup x)=true->AN X.env.scope x
 loc:∀x,sR (Γ.names.lookup x)=true->Loc X.env.scope x/\(X.fn x=true\/X.env.scope.names.lookup x=some .local)
 gl:∀x,qk (Γ.names.lookup x)=true->Gl X x
 fre:∀x,(Γ.names.lookup x=some .cell\/Γ.names.lookup x=some .free)->(X.env.scope.names.lookup x=some .cell\/X.env.scope.names.lookup x=some .free)
 calm:X.calm=true
 un:X.A.units + 150 < cLine
 con:∀x d,g.cons.lookup x=some d->∃u,lI d=true/\X.mg x=some u/\RelV (nq d) u
 bl:∀x∈g.bls,X.mg x=none
structure FO (K:Frag) (W:Addr->Prop) (dr:Option Addr) (fr:Bool) (H:Hp) (d:Dt) (S':Sx) (v:V) (H':Hp):Prop where
 ext:aI (λb=>dr=some b) H H'
 val:RV K W H' v d
 drw:∀a,dr=some a->∃ns:List Int,S'=some ns/\H' a=some (.lst (ns.map V.int))
 dh:fr=true->∀ds,d= .lst ds->∃a xs,v= .ref a/\H a=none/\H' a=some (.lst xs)/\aj K (λb=>W b\/b=a) H' xs ds
noncomputable def Gh (K:Frag) (xv:Nat->Value) (F:List Dt->Sx->R (Dt×Sx)) (np:Nat) (fr aT:Bool):Sp:=λvs H Q E=>
 vs.length=np/\∃(W:Addr->Prop) (dr:Option Addr) (args:List Dt) (S:Sx) (rT:List V),
  (if aT=true then∃(a:Addr) (ns:List Int),vs= .ref a::rT/\dr=some a/\W a/\S=some ns/\H a=some (.lst (ns.map V.int)) else vs=rT/\dr=none/\S=none)/\
  aj K W H rT args/\(∀a,W a->∃x,H a=some x)/\
  match F args S with
  | .ok p=>∀v H',FO K W dr fr H p.1 p.2 v H'->Q v H'
  | .ex k=>∀H',aI (λb=>dr=some b) H H'->E (xv k) none H'
  | .bad=>False
noncomputable def gM (Φ:Fm) (xv:Nat->Value):XK:=λv _ H'=>∃k,v=xv k/\Φ.Ek k/\aI (λb=>Φ.d0=some b) Φ.H0 H'
structure FX (g:G) (xv:Nat->Value) (CX:ib) (P:Program) (w:World) (K:Frag) (mg:Str->Option Value) (base:Heap) (n k:Nat) (F:FT):Prop where
 fn:∀x f np ec aT,oQ x g.fns=some (f,np,ec,aT)->∃(fa:Addr) (fd:FuncData) (ps:List Str),ps.length=np/\mg x=some (.ref fa)/\PySem.W.keepIn K (.ref fa)=true/\
  gw P w K mg base CX k fa fd ps (Gh K xv (F f) np (g.fr f) aT)/\(∀j,j<=ec.length->∃ds,au ((ec.drop j).map nq) ds/\Binds K fd ps ds)/\ec.all lI=true
end Rx
end
section
namespace L2
open PySem PySem.Spec PyProof.Rows
abbrev yW:List Value:=[.type "ValueError",.type "Exception",.type "BaseException",.type "object"]
theorem td {K:PySem.W.Frag} {h h':Heap} {N:Addr} {m:Str->Option Value} (X:K.In h) (X':K.In h') (ok:PySem.W.nsOkIn K N=true) (G:h.Ns N m):h'.Ns N m:=by
 unfold PySem.W.nsOkIn at ok;split at ok
 ·rename_i lk;obtain⟨ob,es,ep,e1,rest⟩:=G;have e2:=X _ _ lk;rw[e1] at e2;cases e2;exact⟨_,es,ep,X' _ _ lk,rest⟩
 ·cases ok
theorem qG {K:PySem.W.Frag} {C:Addr} {xF:List Value} {newId:String} {h:Heap} (X:K.In h) (q:PySem.W.excIn K C xF newId=true):
  ∃(bm:List Value) (ns:Addr) (nm qn:Str) (bs:List Value) (hd:Bool) (sn:List Str) (sub:List Value) (ab:Bool) (col:Option Bool) (dd:Option Addr) (k0 k1 k2 k3 k5:Option Value) (mN:Str->Option Value),mN "__init__"=none/\
   ∀h':Heap,K.In h'->h'.get? C=some (excClassObj nm qn C ns bs bm hd sn sub ab col dd k0 k1 k2 k3 k5 newId)/\h'.Ns ns mN/\OwnTail h' xF bm:=by
 unfold PySem.W.excIn at q;split at q
 ·rename_i F2 cdt Ey FG;split at q
  ·rename_i D tl s0 s1 s2 s3 idn s5 em es;rw[Jz,Jz,Jz,Jz,Jz] at q;obtain⟨⟨⟨⟨⟨q1,q2⟩,q3⟩,q4⟩,q5⟩,q6⟩:=q;have d1:D=C:=JV q1;have d2:idn=newId:=JV q2;have d3:cdt.hasDel=false:=by simpa using q3
   have d6:=JV q6;subst d1 d2;cases cdt with
   | mk nm bs mro ns qn hd sn sub ab col del=>
    have e1:mro=Value.ref D::tl:=em;have e2:del=false:=d3;subst e1 e2;have e3:Ey=#[s0,s1,s2,s3,some (Value.builtin idn),s5]:=by
     cases Ey with
     | mk l=>have e:l=_:=es;rw[e]
    subst e3;refine⟨tl,ns,nm,qn,bs,hd,sn,sub,ab,col,F2,s0,s1,s2,s3,s5,h.nsMap ns,PySem.W.nsMap_none_of_in X q5 d6,λh' X'=>⟨X' _ _ FG,?_,PySem.W.tail_of_in X' q4⟩⟩;exact td X X' q5 (Heap.Ns.of_isNs (PySem.W.isNs_of_in X q5))
  ·cases q
 ·cases q
noncomputable def PM (X:Cx) (e:Expr) (p:St->Prop):Prop:=∀(pins:List (Addr×Obj)) (s:Shared) (σ:St) (H:Hp) (Q:Value->Shared->Prop),Inv X pins σ H s->p σ->(∀u s',s'.heap=s.heap->Inv X pins σ H s'->Q u s')->wpAny (model X.prog X.w) X.A (eval e X.env) Q X.xe s
noncomputable def BG (X:Cx) (e:Expr) (p:St->Prop):Prop:=∀(pins:List (Addr×Obj)) (s:Shared) (σ:St) (H:Hp) (Q:Value->Shared->Prop),Inv X pins σ H s->p σ->(∀(y:Str) t s',y.length<=1000->s'.heap=s.heap->Inv X pins σ H s'->Q (.str y t) s')->wpAny (model X.prog X.w) X.A (eval e X.env) Q X.xe s
noncomputable def B8 (X:Cx) (es:List Expr) (p:St->Prop):Prop:=∀(out:Str) (pins:List (Addr×Obj)) (s:Shared) (σ:St) (H:Hp) (Q:Value->Shared->Prop),Inv X pins σ H s->p σ->out.length + 1000 * es.length<=sizeLine->(∀u s',s'.heap=s.heap->Inv X pins σ H s'->Q u s')->
 wpAny (model X.prog X.w) X.A (joinParts out (evalEach es X.env)) Q X.xe s
theorem mU {X:Cx} {pins:List (Addr×Obj)} {σ:St} {H:Hp} {s:Shared} (I:Inv X pins σ H s) (k:Nat):Inv X pins σ H {s with toks:=k}:=I.tok k
section
variable {X:Cx}
theorem yq {x:Str} {j pos} {p:St->Prop}:PM X (.Constant (.str x) j pos) p:=λpins s σ H Q I _ q=>Calls.Constant_str (q _ _ rfl (I.tok _))
theorem w6 {x:Str} {j pos} {p:St->Prop} (h:x.length<=1000):BG X (.Constant (.str x) j pos) p:=λpins s σ H Q I _ q=>Calls.Constant_str (q _ _ _ h rfl (I.tok _))
theorem jk (n:Nat) (h:n < 10 ^ 19):(Str.ofString (toString (n:Int))).length<=1000:=by
 have e:=int_text_length_le10 (a:=(n:Int)) (k:=19) (by decide) (by lia);rw[PySem.ofString_length]
 lia
theorem log2_small {n:Nat} (h:n < 10 ^ 19):((n:Int)).natAbs.log2 < 1920:=by
 have e:((n:Int)).natAbs=n:=rfl;rw[e];by_cases hz:n=0
 ·subst hz;decide
 ·have:=(Nat.log2_lt hz (k:=1920)).mpr (JT h (by decide +kernel));exact this
theorem vD {i:Nat} {x:Str} {pos yx:Pos} (hN:X.N[i]?=some x) (hv:AN X.env.scope x) (hd:(x==("__debug__":Str))=false) (rN:(x==("__classdict__":Str))=false):BG X (.FormattedValue (.Name x pos) (-1) none yx) (λσ=>∃n:Nat,σ[i]?=some (some (.int n))/\n < 10 ^ 19):=by
 intro pins s σ H Q I ⟨n,h1,h2⟩ q;obtain⟨m,hn,hl⟩:=I.loc;obtain⟨u,r,l⟩:=hl i x _ hN h1 hv;obtain⟨t,rfl⟩:=r;have fin:wpAny (model X.prog X.w) X.A (formatField (.int n t) Str.empty) Q X.xe s:=formatField_int_small (log2_small h2) (q _ _ _ (jk n h2) rfl (mU I _));rcases l with ⟨hk,hm⟩ | ⟨hk,c,hc,lR⟩
 ·exact FormattedValue_plain (wpAny_Name (wpAny_loadName_local I.ok.kind hk hn hm fin) hd)
 ·rcases hk with hk | hk
  ·exact FormattedValue_plain (wpAny_Name (wpAny_loadName_cell I.ok.kind hk hc lR fin) hd)
  ·exact FormattedValue_plain (wpAny_Name (wpAny_loadName_free I.ok.kind hk hc lR fin rN) hd)
theorem tI {n:Nat} {u:Value} {x:Str} {pos yx:Pos} {p:St->Prop} (hg:Gl X x) (hm:X.mg x=some u) (r:RelV (.int n) u) (h2:n < 10 ^ 19) (hd:(x==("__debug__":Str))=false):BG X (.FormattedValue (.Name x pos) (-1) none yx) p:=by intro pins s σ H Q I _ q;obtain⟨t,rfl⟩:=r;exact FormattedValue_plain (fH I hg hm (formatField_int_small (log2_small h2) (q _ _ _ (jk n h2) rfl (mU I _))) hd)
theorem wg {p:St->Prop}:B8 X [] p:=λout pins s σ H Q I _ hl q=>joinParts_nil (q _ _ rfl (I.tok _)) (by simpa using hl)
theorem tW {e:Expr} {es:List Expr} {p:St->Prop} (he:BG X e p) (ht:B8 X es p) (hs:evalEach (e::es) X.env=eval e X.env::evalEach es X.env):B8 X (e::es) p:=by intro out pins s σ H Q I hp hl q;rw[hs];refine joinParts_cons (he pins s σ H _ I hp λy t s' hy hh I'=>?_);have e1:(out++y).length=out.length + y.length:=strLen_append ..;rw[JQ] at hl;refine⟨by rw[e1];lia,ht (out++y) pins s' σ H Q I' hp (by rw[e1];lia) λu s'' h2 I2=>q u s'' (h2.trans hh) I2⟩
theorem rg {e1 e2:Expr} {es:List Expr} {p:St->Prop} {pos:Pos} (h:B8 X (e1::e2::es) p) (hl:(e1::e2::es).length<=100):PM X (.JoinedStr (e1::e2::es) pos) p:=by intro pins s σ H Q I hp q;have hz:Str.empty.length=0:=rfl;have xx:=sizeLine_eq;exact JoinedStr_many (h Str.empty pins s σ H Q I hp (by lia) q)
end
noncomputable def AC (cls:Value) (E:XK) (p:St->Prop):TS:=λ_ σ H=>p σ/\E cls none H
section
variable {X:Cx} {E:XK} {C:Addr} {c:Str} {arg:Expr} {p:St->Prop} {np cL pos:Pos}
theorem wx {N:Nat} {H:Hp} {h h':Heap} {a:Addr} {cls:Value} {args:List Value} (hN:N<=h.objs.size) (fresh:∀b,h.objs.size<=b->H b=none) (dd:Mx.Dd h h') (m:Heap.MadeExcOf h h' a cls args):fJ N cls a H h':=by
 obtain⟨t,e1,e2,e3⟩:=m.there;have ge:h.objs.size<=a:=by
  rcases Nat.lt_or_ge a h.objs.size with hl | hl
  ·have:=dd.none a hl m.new;rw[e1] at this;cases this
  ·exact hl
 refine⟨JJ hN ge,fresh a ge,⟨_,_,e1,⟨rfl,rfl⟩,rfl,.inl rfl⟩,λT z=>?_⟩;obtain⟨o,vs,z1,z2,z3⟩:=z;rw[e1] at z1;cases z1;cases z2;cases z3
theorem tS (hh:X.A.handled=none) (xA:X.pn=[]) (hg:Gl X c) (hm:X.mg c=some (.ref C)) (hC:PySem.W.excIn X.K C yW "ValueError.__new__"=true) (hx:∀e s',fU X E e s'->X.xe e s') (he:PM X arg p)
  (q9:starEach [arg] X.env=[(false,eval arg X.env)]) (mD:(c==("__debug__":Str))=false):PS X (.Raise (some (.Call (.Name c np) [arg] [] cL)) none pos) (AC (.ref C) E p):=by
 intro pins s σ H D I h;obtain⟨h1,h2⟩:=h;obtain⟨bm,ns,nm,qn,bs,hd,sn,sub,ab,col,dd,k0,k1,k2,k3,k5,mN,IM,F⟩:=qG I.gV hC;have T0:=(F _ I.gV).2.2;have mL:bm.contains (.type "BaseException")=true:=T0.hasType PySem.F.excBase_ValueError.hasBase;have jW:(backTo cL (starEach [arg] X.env)).any (·.1)=false:=by rw[q9];rfl
 refine Mx.jw (wpAny_mono (Q:=λ_ _=>False) (E:=λe s'=>X.xe e s'\/∃s2 a args,e= .ref a/\s2.heap=s.heap/\Inv X pins σ H s2/\s'={s2 with heap:=s'.heap}/\Heap.MadeExcOf s2.heap s'.heap a (.ref C) args) ?_ (λ_ _ z=>z.elim) λe s' z hd=>?_)
 ·refine wpAny_Raise_call_subT (C:=C) (nm:=nm) (q:=qn) (N:=ns) (bs:=bs) (bm:=bm) (hdct:=hd) (sn:=sn) (sub:=sub) (ab:=ab) (col:=col) (dd:=dd) (k0:=k0) (k1:=k1) (k2:=k2) (k3:=k3) (k5:=k5) PySem.F.excBase_ValueError mL hh jW IM (fH I hg hm ⟨rfl,?_⟩ mD);rw[q9];refine Calls.evalArgs_plain ?_;refine Calls.spliced_cons (wpAny_mono (he pins s σ H (λu s'=>s'.heap=s.heap/\Inv X pins σ H s') I h1 λu s' a b=>⟨a,b⟩) (λu s1 ⟨Ih,I1⟩=>?_) λ_ _ z=> .inl z);refine Calls.spliced_nil ⟨rfl,(by show 1<=sizeLine;decide),(F _ I1.gV).1,(F _ I1.gV).2.1,(F _ I1.gV).2.2,λh' e m=> .inr ⟨s1,e,_,rfl,Ih,I1,rfl,m⟩⟩
 ·rcases z with z | ⟨s2,a,args,rfl,HE,I2,hs,m⟩
  ·exact z
  ·rw[hs];refine hx _ _ ⟨σ,H,a,.ref C,rfl,?_,?_,h2⟩
   ·exact(I2.kept (t':=s2.toks) (h':=s'.heap) m.keeps).ey λp hp=>by cases hp
   ·exact wx I2.sz (λb hb=>I2.hok.fresh hb) (by rw[HE];exact hd) m
end
structure sD (K:PySem.W.Frag) (D:Addr):Prop where
 ga:PySem.W.findIn K (.ref D) "__getattribute__"=some (some (.builtin "BaseException.__getattribute__"))
 na:PySem.W.findIn K (.ref D) "__getattr__"=some none
 sb:PySem.W.subIn K (.ref D) (.type "BaseException")=some true
 fi:PySem.W.findIn K (.ref D) "__class__"=some (some (.builtin "object.__class__"))
 sp:PySem.W.specialIn K (.builtin "object.__class__") "__get__"=some (some (.builtin "getset_descriptor.__get__"))
 tk:PySem.W.takesIn K (.builtin "object.__class__")=some true
 mr:PySem.W.mroIn K D (.type "object")=some true
theorem wC {K:PySem.W.Frag} {D:Addr} {xF:List Value} {newId:String} (q:PySem.W.excIn K D xF newId=true):∃c dd cd sl,K.lookup D=some ⟨c,dd,.cls cd,sl⟩:=by
 unfold PySem.W.excIn at q;split at q
 ·rename_i FG;exact⟨_,_,_,_,FG⟩
 ·cases q
theorem CS:(Value.builtin "BaseException.__getattribute__"==Value.builtin "object.__getattribute__")=false:=by decide +kernel
theorem uY {prog:Program} {w:World} {A:Around} {E:Value->Shared->Prop} {s:Shared} {x D:Addr} {pW:Value} {Q:Unit->Shared->Prop} (L:PySem.W.Looks (model prog w) s.heap (isInstance (.ref x) (.type "BaseException")) true) (hq:Q () s):wpAny (model prog w) A (checkBuiltinCall "BaseException.__getattribute__" ⟨[.ref x,pW],[]⟩) Q E s:=by
 have hk:builtinKind "BaseException.__getattribute__"=some .slot:=by decide +kernel
 have yh:splitId "BaseException.__getattribute__"=some ("BaseException","__getattribute__"):=by decide +kernel
 have ha:=F.args_bexc_ga (.ref x) pW;simp only[checkBuiltinCall,hk,yh];refine Jv (L.at ?_);simp only[Bool.not_true,Bool.false_eq_true,if_false];cases hsig:Manifest.signature? "BaseException.__getattribute__" with
 | none=>exact Jy hq
 | some sig=>simp only[argsOk,hsig] at ha;show wpAny _ A (Bind.checkArgs "BaseException.__getattribute__" sig ⟨[.ref x,pW],[]⟩) _ _ s;rw[show Bind.checkArgs "BaseException.__getattribute__" sig ⟨[.ref x,pW],[]⟩=pure () from ha];exact Jy hq
theorem qZ {K:PySem.W.Frag} {x D:Addr} {ox:Obj} (k:sD K D) {cd:ClassData} (hc:PySem.W.clsIn K D=some cd) {prog:Program} {w:World} {A:Around} {E:Value->Shared->Prop} {Q:Option Value->Shared->Prop} {s:Shared} (X:K.In s.heap) (I:PySem.W.InstAt s.heap x ox D none) (q:Q (some (.ref D)) {s with toks:=s.toks + 1}):
  wpAny (model prog w) A (getAttr? (.ref x) "__class__") Q E s:=by
 have hf:PySem.W.findObj K D none "__class__"=some (.bind (.builtin "getset_descriptor.__get__") (.builtin "object.__class__")):=by unfold PySem.W.findObj;rw[hc,Option.bind_some,k.fi,Option.bind_some];simp[k.sp,k.tk]
 have L0:=I.type (M:=model prog w);have L1:=PySem.W.looks_findIn (M:=model prog w) X k.ga;have L2:=PySem.W.looks_findIn (M:=model prog w) X k.na;have L3:=PySem.W.looks_find (M:=model prog w) X I hf;have L4:PySem.W.Looks (model prog w) s.heap (isInstance (.ref x) (.type "BaseException")) true:=L0.andThen (PySem.W.looks_subIn (M:=model prog w) X k.sb);obtain⟨hh,g,d,t,os⟩:=s;unfold getAttr? getAttrBy? getAttrBy;refine Jv (wpAny_mkText (Jv (wpAny_attempt (wpAny_holding (Jv (L0.at (Jv (L1.at ?_))))))));simp only[CS,Bool.and_false,Bool.false_eq_true,if_false];unfold getAttrByItsOwn;refine Jv ?_;show wpAny _ _ (typeLookup (.ref D) "__getattr__") _ _ _;refine L2.at ?_;refine Jv (wpAny_attempt (wpAny_holding ?_));show wpAny _ _ (boundAndCalled _ _ _) _ _ _;unfold boundAndCalled;refine Jv (wpAny_of_eq (F.excAttr_ValueError.ga.bind (.ref x)) ?_);refine wpAny_call (codeAny_call_builtin F.excAttr_ValueError.ga.plain F.entry_bexc_ga (uY (D:=D) L4 ?_));unfold Builtin.«object.__getattribute__»;refine Jv (Jy (Jv (Jy (Jv (L0.at (Jv (L3.at ?_)))))));show wpAny _ _ (holding [.builtin "object.__class__"] (call (.builtin "getset_descriptor.__get__") [.builtin "object.__class__",.ref x,.ref D]) >>=ret) _ _ _;refine Jv (wpAny_holding (wpAny_call (PySem.W.class_get (ox:=ox) (od:=none) X I k.mr ?_)));refine Jy ?_;show wpAny _ _ (handedOut (.ref D)) _ _ _;exact PySem.W.handed_on rfl (Jy q)
theorem rZ {K:PySem.W.Frag} {x D:Addr} {ox:Obj} {xF:List Value} {newId:String} (hq:PySem.W.excIn K D xF newId=true) (k:sD K D):PySem.W.KitX K (.ref x) (.ref D) (λh=>PySem.W.InstAt h x ox D none):=by
 obtain⟨c0,Jn,cd,Ji,lk⟩:=wC hq;have hc:PySem.W.clsIn K D=some cd:=by unfold PySem.W.clsIn;rw[lk]
 refine⟨λM h _ I=>I.type,λM h X _=>?_,λh tp dd its n sl X htp=>?_,λ {prog w A E Q s} X I q=>qZ k hc X I q⟩
 ·intro A' Q' E' s' kk q;unfold isType loadHead;exact Jv (wpAny_loadPart (kk _ _ (X _ _ lk)) (Jy q))
 ·refine Bool.eq_false_iff.mpr λq=>?_
  have e:D=tp:=by have:=JV q;cases this;rfl
  rw[<-e,X _ _ lk] at htp;cases htp
noncomputable abbrev Cx.hand (X:Cx) (a:Addr) (o:Obj):Cx:={X with A:=X.A.mark (some (.ref a)),calm:=false,pn:=[(a,o)],xe:=λ_ _=>False}
structure ni (X:Cx) (D a:Addr) (o:Obj):Prop where
 cls:o.cls= .ref D
 F2:o.dict=none
 dat:∃vs,o.data= .fields vs
section
variable {X:Cx} {σ:St} {H:Hp} {s:Shared} {D a:Addr} {o:Obj}
theorem Inv.hand (xA:X.pn=[]) (I:Inv X [] σ H s) (F:fJ X.s₀.heap.objs.size (.ref D) a H s.heap) (ho:s.heap.get? a=some o) (xr:ni X D a o):Inv (X.hand a o) [] σ H s:=by
 obtain⟨vs,hd⟩:=xr.dat;refine⟨⟨I.ok.mod,I.ok.kind,I.ok.glob,I.ok.blt,I.ok.above,I.ok.inj,I.ok.has,I.ok.vz,(λz=>by cases z),I.ok.frames,I.ok.xu,I.ok.y7,I.ok.bs,I.ok.vd,I.ok.lb,I.ok.ng,I.ok.fG,I.ok.xG⟩,I.os,I.bare,I.base,I.loc,I.cell,I.free,I.bO,λp hp=>?_,I.hok,I.len⟩;have e:p=(a,o):=by simpa using hp
 subst e;refine⟨ho,F.nH,λz=>?_,λz=>?_,λv q=>by rw[hd] at q;cases q⟩
 ·obtain⟨m,⟨o',es,ep,h1,h2,_⟩,_⟩:=I.loc;have z:a=X.env.locals:=z;rw[<-z,ho] at h1;cases h1;rw[hd] at h2;cases h2
 ·obtain⟨_,o',oS,DM⟩:=I.ok.fG.mem z;have:=F.ge;have cO:=JI oS;exact absurd (JT cO this) (Nat.lt_irrefl _)
theorem Inv.zC (xA:X.pn=[]) (I:Inv (X.hand a o) [] σ H s) (hc:X.calm=true->X.A.handled=none):Inv X [] σ H s:=
 ⟨⟨I.ok.mod,I.ok.kind,I.ok.glob,I.ok.blt,I.ok.above,I.ok.inj,I.ok.has,I.ok.vz,hc,I.ok.frames,I.ok.xu,I.ok.y7,I.ok.bs,I.ok.vd,I.ok.lb,I.ok.ng,I.ok.fG,I.ok.xG⟩,I.os,I.bare,I.base,I.loc,I.cell,I.free,I.bO,(λp hp=>(by rw[xA] at hp;cases hp)),I.hok,I.len⟩
theorem pU (I:Inv (X.hand a o) [] σ H s) (xr:ni X D a o):PySem.W.InstAt s.heap a o D none:=by obtain⟨vs,hd⟩:=xr.dat;refine⟨(I.pin (a,o) (by simp)).1,xr.cls,by unfold PySem.W.notCls;rw[hd],?_⟩;rw[xr.F2];trivial
end
noncomputable def WX (X:Cx) (σ0:St) (XE:Value->Hp->Prop) (e:Value) (s':Shared):Prop:=∃H' a cls,e= .ref a/\Inv X [] σ0 H' s'/\fJ X.s₀.heap.objs.size cls a H' s'.heap/\XE cls H'
noncomputable def DG (X:Cx) (st:Stmt) (t:TS):Prop:=∀(s:Shared) (σ:St) (H:Hp) (D:Ends),Inv X [] σ H s->t D σ H->wpAny (model X.prog X.w) X.A (exec st X.env) (SP X [] D) X.xe s
noncomputable def kI (X:Cx) (st:List Stmt) (t:TS):Prop:=∀(s:Shared) (σ:St) (H:Hp) (D:Ends),Inv X [] σ H s->t D σ H->wpAny (model X.prog X.w) X.A (execs st X.env) (SP X [] D) X.xe s
theorem zS {X:Cx} {st:Stmt} {t:TS} (h:PS X st t):DG X st t:=λs σ H D=>h [] s σ H D
theorem vv {X:Cx} {st:List Stmt} {t:TS} (h:lT X st t):kI X st t:=λs σ H D=>h [] s σ H D
theorem qH {X:Cx} {st:Stmt} {rest:List Stmt} {t u:TS} (h1:DG X st t) (h2:kI X rest u):kI X (st::rest) (BE t u):=by
 intro s σ H D I hq;refine wpAny_execs_cons (bq (h1 s σ H {D with nx:=u D} I hq) λf s1 z=>?_);cases f with
 | next=>obtain⟨σ1,H1,I1,q1⟩:=z;exact h2 s1 σ1 H1 D I1 q1
 | brk=>exact z
 | cont=>exact z
 | ret v=>exact z
section
variable {X:Cx} {σ:St} {H:Hp} {s:Shared}
theorem Inv.sE {h':Heap} {m:Str->Option Value} {tk:Nat} (xA:X.pn=[]) (I:Inv X [] σ H s) (hn:h'.Ns X.env.locals m) (sb:Heap.SameBut X.env.locals s.heap h'):Inv X [] (List.replicate X.N.length none) H {s with heap:=h',toks:=tk}:=by
 have old:∀b o,X.s₀.heap.get? b=some o->b≠X.env.locals:=λb o e=>J4 (JT (JI e) I.ok.above)
 have nc:∀y c,X.env.cells.lookup y=some c->c≠X.env.locals:=λy c e z=>by obtain⟨v,o,ho,hd⟩:=I.cell y c e;obtain⟨m',⟨o',es,ep,h1,h2,_⟩,_⟩:=I.loc;rw[z,h1] at ho;cases ho;rw[hd] at h2;cases h2
 refine⟨I.ok,I.os,I.bare,⟨λb o e n hb hx=>(sb.2 b (old b o e)).trans (I.base.keep b o e n hb hx),λb o e n hb hx=>?_,I.base.free,λb o e hx=>?_,I.base.tups,I.base.frzs,I.base.tbls⟩,⟨m,hn,λi x v h1 h2=>?_⟩,λy c e=>?_,I.free,I.bO,λp hp=>?_,?_,List.length_replicate⟩
 ·obtain⟨sl,q⟩:=I.base.slot b o e n hb hx;exact⟨sl,(sb.2 b (old b o e)).trans q⟩
 ·obtain⟨o',q⟩:=I.base.there b o e hx;exact⟨o',(sb.2 b (old b o e)).trans q⟩
 ·rw[List.getElem?_replicate] at h2;split at h2 <;> cases h2
 ·obtain⟨v,o,ho,hd⟩:=I.cell y c e;exact⟨v,o,(sb.2 c (nc y c e)).trans ho,hd⟩
 ·rw[xA] at hp;cases hp
 ·intro b u e;refine(I.hok b u e).iY (λc v hc q=>?_) (λ_ q=>q) λ_ _ q=>q
  refine(sb.2 c λz=>?_).trans q;subst z;rcases hc with rfl | hc
  ·rw[I.free] at e;cases e
  ·rw[I.free] at hc;cases hc
theorem Ec {a:Addr}:(Value.ref a)≠byPass:=by intro q;cases q
variable {tb:St->(Value->Hp->Prop)->TS} {th:Addr->Addr->Obj->TS} {ok:Addr->Prop} {t:Str} {c:Value} {tp hpos pos:Pos} {body fP:List Stmt} {b0:Stmt}
theorem yU {XE:Value->Hp->Prop} {D:Ends} {nm:Option Str} {Q:Flow->Shared->Prop} (st:cU X) (hg:Gl X t) (hm:X.mg t=some c) (mD:(t==("__debug__":Str))=false)
  (hx:∀C,ok C->PySem.W.exmOne X.K (.ref C) c=some true) (Hg:∀cls H',XE cls H'->∃C,cls= .ref C/\ok C)
  (go:∀H' a C s1,XE (.ref C) H'->Inv X [] σ H' s1->fJ X.s₀.heap.objs.size (.ref C) a H' s1.heap->(∃T,ck s1.heap a T)->
   codeAny (model X.prog X.w) (X.A.mark (some (.ref a))) (.handlers (.ref a) [.ExceptHandler none nm (b0::fP) hpos] X.env) (λr s₂=>match r with
     | .ok f=>(match nm with
      | none=>Q f s₂
      | some n=>wpAny (model X.prog X.w) X.A (do bindName X.env n .none;unbindBehindTheSuite X.env n hpos) (λ_ s₃=>Q f s₃) X.xe s₂)
     | .error x=>cameBackBy (model X.prog X.w) X.A X.env X.xe x s₂) s1)
  {e:Value} {s1:Shared} (w:WX X σ XE e s1):wpAny (model X.prog X.w) X.A (noteFrame e X.env) (λ_ s₂=>wpAny (model X.prog X.w) X.A (setFlight e none) (λ_ s₃=>wpAny (model X.prog X.w) X.A (handleBy e X.env [.ExceptHandler (some (.Name t tp)) nm (b0::fP) hpos]) Q X.xe s₃) X.xe s₂) X.xe s1:=by
 obtain⟨H',a,cls,rfl,I1,F1,hE⟩:=w;obtain⟨C,rfl,hok⟩:=Hg cls H' hE;obtain⟨hp,d4,iW,L,e1,e2,e3⟩:=st;have rF:=I1.ok.frames;have hl:=I1.stack;rw[e1] at rF hl;refine pP rF hl e2 e3 F1 (λb hb=>I1.hok.fresh hb) λh2 x2 f2 t2=>?_
 rw[<-e1] at x2;have I2:=I1.z9 hp F1 x2;refine cV (fs:=dh X.stack) f2 t2 λh3 x3 f3 t3=>?_
 have I3:=I2.z9 hp f2 x3;obtain⟨o,vs,ho,⟨EK,mK⟩,hd,_⟩:=id f3.obj;have xr:ni X C a o:=⟨EK,mK,vs,hd⟩;have DO:=I3.hand hp f3 ho xr;have ia:=pU DO xr;refine wpAny_handleBy_cons (codeAny_handlers_test (fH (X:=X.hand a o) DO hg hm ?_ mD)) Ec;exact(PySem.W.exm_one (M:=model X.prog X.w) I3.gV ia.type (hx C hok)).here (go H' a C _ hE I3 f3 t3)
end
section
variable {X:Cx} {E:XK} {tb:TS} {t:Str} {c:Value} {tp hpos pos:Pos} {body fP:List Stmt} {b0:Stmt} {i:Nat} {n:Str} {D:Ends}
theorem vE (st:cU X) (Co:X.calm=true->X.A.handled=none) (hg:Gl X t) (hm:X.mg t=some c) (mD:(t==("__debug__":Str))=false)
  (hN:X.N.Nodup) (hi:X.N[i]?=some n) (hl:X.env.scope.names.lookup n=some .local) (hb:lT (X.bN (fU X E)) body tb)
  (hh:∀cls H',E cls none H'->∃C,cls= .ref C/\PySem.W.exmOne X.K (.ref C) c=some true/\∀a o,ni X C a o->∃th,lT (X.hand a o) (b0::fP) th/\∀σ,σ[i]?=some (some (.ref a))->σ.length=X.N.length->th {nx:=λ_ _=>False,rt:=D.rt} σ H')
  {s:Shared} {σ:St} {H:Hp} (I:Inv X [] σ H s) (h:tb D σ H):
  wpAny (model X.prog X.w) X.A (exec (.Try body [.ExceptHandler (some (.Name t tp)) (some n) (b0::fP) hpos] [] [] pos) X.env) (SP X [] D) X.xe s:=by
 refine wpAny_Try_except (wpAny_mono (hb [] s σ H D (I.bN _) h) (λf s1 z=>?_) λe s1 w=>?_)
 ·have z':=z.cT;cases f with
  | next=>exact wpAny_execs_nil z'
  | brk=>exact z'
  | cont=>exact z'
  | ret v=>exact z'
 ·obtain⟨σ1,H1,a1,E7,e1,I1,F1,E1⟩:=w;refine yU (X:=X) (σ:=σ1) (ok:=λC=>PySem.W.exmOne X.K (.ref C) c=some true) (XE:=λcls H'=>E cls none H') (nm:=some n) (D:=D) st hg hm mD (λC h=>h) (λcls H' z=>?_) (λH' a C s2 hE I2 f2 t2=>?_) ⟨H1,a1,E7,e1,I1,F1,E1⟩
  ·obtain⟨C,e,k,_⟩:=hh cls H' z;exact⟨C,e,k⟩
  ·obtain⟨C',eC,_,FC⟩:=hh _ H' hE;cases eC;refine codeAny_handlers_suite_as (cV (fs:=dh X.stack) f2 t2 λh3 x3 f3 t3=>?_);have I3:=I2.z9 st.pn f2 x3;obtain⟨o,vs,ho,⟨EK,mK⟩,hd,_⟩:=id f3.obj;have xr:ni X C a o:=⟨EK,mK,vs,hd⟩;have DO:=I3.hand st.pn f3 ho xr;refine jf (X:=X.hand a o) (v:= .ref a) DO hN hi (.inl hl) rfl (λs4 I4=>?_) (.inr hl);obtain⟨th,hs,FC⟩:=FC a o xr;have hlen:i < σ1.length:=by rw[I1.len];exact(JC.mp hi).1
   refine wpAny_mono (hs [] _ _ H' _ I4 (FC _ (by simp[hlen]) (by rw[List.length_set];exact I1.len))) (λf s5 z=>?_) λ_ _ z=>z.elim
   cases f with
   | next=>obtain⟨σ',DH,I',q⟩:=z;exact q.elim
   | brk=>obtain⟨σ',DH,I',q⟩:=z;exact q.elim
   | cont=>obtain⟨σ',DH,I',q⟩:=z;exact q.elim
   | ret u=>obtain⟨v,σ',DH,I',r,q⟩:=z;have I5:=I'.zC st.pn Co;obtain⟨m5,Be,_⟩:=id I5.loc;have vW:X.env.scope.kind= .function:=I5.ok.kind;refine wpAny_nameGoes hl Be (by rw[vW];rfl) λh6 m6 hn6 sb6=>⟨v,_,DH,I5.sE st.pn hn6 sb6,r,q⟩
theorem rV {C a:Addr} {o:Obj} {x y:Str} {v:V} {b:Bool} {p p1 p2:Pos} {xF:List Value} {newId:String} (xr:ni X C a o) (hq:PySem.W.excIn X.K C xF newId=true) (k:sD X.K C) (HG:Gl X "isinstance") (G9:X.mg "isinstance"=none) (hx:PE (X.hand a o) (.Name x p1) (gz i)) (hv:PE (X.hand a o) (.Name y p2) (tC v)) (hr:∀u,RelV v u->u=c) (e:PySem.W.kitOne X.K (.ref C) c=some b):
  PE (X.hand a o) (.Call (.Name "isinstance" p) [.Name x p1,.Name y p2] [] pos) (λσ H Q=>σ[i]?=some (some (.ref a))/\Q (.bl b) H):=by
 have hc:fI (X.hand a o) (.builtin "isinstance") (λxs H Q=>xs=[.ref a,v]/\Q (.bl b) H):=by
  intro pins s σ H xs us Q I r ⟨e1,q⟩;subst e1;obtain⟨u1,u2,rfl,r1,r2⟩:=r.two;cases r1;have:=hr _ r2;subst this;have I0:=I.ey (pins':=[]) λp hp=>by cases hp
  exact PySem.W.kia_one (rZ hq k) I.gV (pU I0 xr) e (by intro z;cases z) λtk=>⟨.bl b,H,I.tok tk,rfl,q⟩
 intro pins s σ H Q I ⟨h1,h2⟩;exact iS (X:=X.hand a o) hc HG G9 PyProof.Rows.boot_isinstance (bG hx (bG hv d8)) (by decide) (by decide) rfl rfl pins s σ H Q I ⟨_,h1,rfl,h2⟩
end
theorem yf {CX:ib} {P:Program} {w:World} {K:PySem.W.Frag} {mg:Str->Option Value} {base:Heap} {k:Nat} {f:Addr} {name qual:Str} {params:Arguments} {body:List Stmt} {scope:Scope} {dV kV doc pm dU ct oc:Value} {an od:Option Addr}
  {qa:Array (Option Value)} {N ps:List Str} {sp:Sp} (lk:K.lookup f=some ⟨oc,od,.func (PySem.W.fnOf name qual params body scope dV kV doc pm an dU ct),qa⟩) (rN:PySem.W.codeIn K dU qual=true) (S:dC N ps scope)
  (len:∀vs H Q E,sp vs H Q E->vs.length=ps.length)
  (B9:∀(A:Around) (outer:List Env) (s:Shared) (H:Hp) (vs:List V) (Q:VK) (E:XK),fK k (A.deeper (envOfC qual scope s.heap.objs.size f dU))->sp vs H Q E->
   ∃t,kI (iH CX P w K mg base N qual scope f dU A outer s H E) body t/\t {nx:=λ_ H'=>Q .a6 H',rt:=Q} (start N vs) H):
  gw P w K mg base CX (k + 1) f (PySem.W.fnOf name qual params body scope dV kV doc pm an dU ct) ps sp:=by
 refine⟨len,λA outer s H args us vs Q E hr e0 hb r AZ=>?_⟩;have KX:K.In s.heap:=e0.mod.Fq.keeps λb o e=>(e0.bs b o e).1
 have Bt:∀y∈ps.zip us,scope.names.lookup y.1=some .local\/(scope.names.lookup y.1=some .cell/\((cellsFrom (s.heap.objs.size + 1) scope.names []).lookup y.1).isSome=true):=λ⟨n,v⟩ hy=>by
  rcases S.par n (List.of_mem_zip hy).1 with q | q
  ·exact .inl q
  ·exact .inr ⟨q,PySem.W.cellsFrom_some _ _ _ (.inl q)⟩
 refine codeAny_call_function hr.depth (KX _ _ lk) rfl S.co S.gen rfl (PySem.W.codeRec_of KX rN) (hb _ _ _ _ (wpAny_newFunctionEnv_cells S.kind Bt λenv he s1 x=>?_));subst he;refine⟨(e0.mod.nolimit.keeps λb o e=>(e0.bs b o e).1).keeps x.toInCall.keep,codeAny_func ?_⟩;obtain⟨t,ht,hq⟩:=B9 A outer s H vs Q E (hr.deeper _) AZ;have I:Inv (iH CX P w K mg base N qual scope f dU A outer s H E) [] (start N vs) H s1:=rz S hr.hd e0 (len _ _ _ _ AZ) r x;refine wpAny_mono (ht s1 (start N vs) H _ I hq) (λfl s' hs=>?_) λe s' hs=>hs
 have fin:∀{σ':St} {H':Hp} {v:V} {u:Value},Inv (iH CX P w K mg base N qual scope f dU A outer s H E) [] σ' H' s'->RelV v u->Q v H'->CE outer P w H s Q u s':=
  λ {σ' H' v u} J rv q=>⟨v,H',J.os,J.bare,J.base,J.hok,rv,q⟩
 cases fl with
 | ret u=>obtain⟨v,σ',H',J,rv,q⟩:=hs;exact fin J rv q
 | next=>obtain⟨σ',H',J,q⟩:=hs;exact fin (v:=V.a6) (u:=Value.none) J rfl q
 | brk=>obtain⟨_,_,_,q⟩:=hs;exact q.elim
 | cont=>obtain⟨_,_,_,q⟩:=hs;exact q.elim
end L2
end
section
namespace Rx
open PySem PySem.W PySem.Spec PyProof.Rows L2 PySem.SeqAt
noncomputable def Cg (K:Frag) (mg:Str->Option Value) (C:Addr) (ts:List (Str×Bool)):Prop:=excIn K C yW "ValueError.__new__"=true/\sD K C/\
 ∀t b,ts.lookup t=some b->∃c,(mg t=some c/\(∃D,c= .ref D)\/mg t=none/\t="ValueError"/\c= .type "ValueError")/\kitOne K (.ref C) c=some b/\(b=true->exmOne K (.ref C) c=some true)
structure HX (g:G) (xv:Nat->Value) (CX:ib) (k:Nat) (F:FT) (Φ:Fm) (X:Cx):Prop where
 K:Φ.K=X.K
 fx:∃n,FX g xv CX X.prog X.w X.K X.mg X.base n k F
 room:fK k X.A
 cx:CX=lH X.prog X.w
 st:cU X
 xgx:∀e s',fU X (gM Φ xv) e s'->X.xe e s'
 xk:∀k x ts,g.xs[k]?=some (x,ts)->∃C,xv k= .ref C/\X.mg x=some (.ref C)/\Cg X.K X.mg C ts
theorem HX.pass {g:G} {xv:Nat->Value} {CX:ib} {k:Nat} {F:FT} {Φ:Fm} {X:Cx} (h:HX g xv CX k F Φ X):nz CX X (gM Φ xv):=λpins σ H s e s' I c=>by have hc:=h.cx;subst hc;exact h.xgx e s' (sd I h.st.pn c)
theorem aX {X:Cx} {e:Expr} {t t':TE} (h:PE X e t) (hi:∀σ H Q,t' σ H Q->t σ H Q):PE X e t':=λpins s σ H Q I q=>h pins s σ H Q I (hi σ H Q q)
theorem oE {X:Cx} {e:Expr} {t t':TT} (h:PT X e t) (hi:∀σ H Q,t' σ H Q->t σ H Q):PT X e t':=λpins s σ H Q I q=>h pins s σ H Q I (hi σ H Q q)
theorem rY {X:Cx} {e:Expr} {t t':TT} (h:PW X e t) (hi:∀σ H Q,t' σ H Q->t σ H Q):PW X e t':=λwh pins s σ H Q I q=>h wh pins s σ H Q I (hi σ H Q q)
theorem sS {X:Cx} {e:List Expr} {t t':TA} (h:PA X e t) (hi:∀σ H Q,t' σ H Q->t σ H Q):PA X e t':=λpos pins s σ H Q I q=>h pos pins s σ H Q I (hi σ H Q q)
theorem kM {X:Cx} {tg e:Expr} {t t':TI} (h:PI X tg e t) (hi:∀σ H Q,t' σ H Q->t σ H Q):PI X tg e t':=λpins s σ H Q I q=>h pins s σ H Q I (hi σ H Q q)
section
variable {Φ:Fm} {Γ:Gm} {F:FT} {fr:Nat->Bool} {o:Ow} {ρ:ai} {S:Sx} {σ:L2.St} {H H':Hp}
theorem EO.sc {c:C} {d:Dt} (h:lI d=true):EO Φ.K fr o c H d (nq d) H:=⟨aI.refl,lO h,λ_=>lO h,λ_=>(lO h).one,λ_ ds e=>by subst e;simp[lI] at h⟩
theorem EO.qL {c:C} {d:Dt} {v:V} {H1:Hp} (e:aI o.d H H1) (h:EO Φ.K fr o c H1 d v H') (hf:fresh fr c=true->∀ds,d= .lst ds->∀a,H1 a=none->H a=none):EO Φ.K fr o c H d v H':=
 ⟨e.trans h.ext,h.val,h.jX,h.tP,λf ds ed=>by
  obtain⟨a,xs,h1,h2,h3⟩:=h.dh f ds ed;exact⟨a,xs,h1,hf f ds ed a h2,h3⟩⟩
theorem uO {X:Addr->Prop} {H1:Hp} (e:aI X H H1) (hx:∀b,X b->∃y,H1 b=some y) {a:Addr} (h:H1 a=none):H a=none:=by
 cases q:H a with
 | none=>rfl
 | some x=>obtain⟨y,z⟩:=e.al q (hx a);rw[h] at z;cases z
theorem ER.cX {S1:Sx} {H1:Hp} (ax:ER Φ Γ o ρ S1 σ H1) (e:aI o.d H H1) {a:Addr} (h:H1 a=none):H a=none:=uO e (λb z=>ax.al b (ax.da b z)) h
theorem EO.keep {c:C} {d:Dt} {v:V} {H1 H2:Hp} (h:EO Φ.K fr o c H d v H1) (e:aI o.d H1 H2) (wa:∀b,o.wd b->o.A b):RV Φ.K o.wd H2 v d/\(lk c=0->RV Φ.K o.A H2 v d)/\(lk c<=1->dS Φ.K o.A H2 v d):=by
 have hd:∀b,o.d b->o.wd b:=λb z=> .inr z
 refine⟨h.val.mono e hd λ_ z=>z,λl=>(h.jX l).mono e (λb z=>wa b (hd b z)) λ_ z=>z,λl=>?_⟩;refine(h.tP l).ext e (λb z=>wa b (hd b z)) λds a ed ev z=>?_
 subst ed ev;obtain⟨b,xs,q,_,n,_⟩:=h.val.lst_inv;cases q;exact n (.inr z)
theorem EO.pr {c:C} {xs:List V} {ds:List Dt} {d:Dt} {v:V} {H1 H2:Hp} {S1:Sx} {f:Bool} (ax:ER Φ Γ o ρ S1 σ H1) (e:aI o.d H H1) (hv:aj Φ.K o.wd H1 xs ds) (h1:lk c<=1->lz Φ.K o.A H1 xs ds) (hl:lk c=0\/lk c=2)
  (pr:PR Φ.K f xs ds H1 d v H2) (hf:fresh fr c=true->f=true):EO Φ.K fr o c H d v H2/\ER Φ Γ o ρ S1 σ H2:=by
 have q0:lk c=0->RV Φ.K o.A H2 v d:=λl=>pr.val o.A ax.al (h1 (by lia))
 refine⟨⟨e.trans (aI.of_same pr.same),pr.val o.wd ax.sU hv.ones,q0,λl=>(q0 (by lia)).one,λfc es ed=>?_⟩,ax.grow pr.same⟩;obtain⟨a,ys,k1,k2,k3,k4⟩:=pr.dh (hf fc) es ed;exact⟨a,ys,k1,ax.cX e k2,k3,k4 o.wd ax.sU hv.ones,λl=>k4 o.A ax.al (h1 (by lia))⟩
theorem fO {A:Addr->Prop} {K:Frag} {v:V} {d:Dt} (h:RV K A H v d):RV K N0 H v d:=h.weak λ_ z=>z.elim
theorem zA {A:Addr->Prop} {K:Frag} {v:List V} {d:List Dt} (h:aj K A H v d):aj K N0 H v d:=h.weak λ_ z=>z.elim
end
section
variable {X:Cx} {Φ:Fm} {Γ:Gm} {F:FT} {fr:Nat->Bool} {g:G}
theorem nh {e:Expr} {d:Dt} (hd:lI d=true) (h:PE X e (tC (nq d))):PE X e (bz Φ Γ F fr (.con d)):=aX h λσ H Q q=>by obtain⟨o,ρ,S,er,q⟩:=q;exact q _ _ (EO.sc hd) er
theorem iq {Ek:Nat->Prop} {ρ:ai} {i:Nat} {P:Dt->Prop} (h:mR Ek (d5 ρ i) P):∃d,ρ[i]?=some (some d)/\P d:=by
 unfold d5 at h;split at h
 ·exact⟨_,by assumption,h⟩
 ·exact h.elim
theorem C9 {e:Expr} {i:Nat} (h:PE X e (gz i)) (hm:dg Γ i=false):PE X e (bz Φ Γ F fr (.var i)):=aX h λσ H Q q=>by obtain⟨o,ρ,S,er,q⟩:=q;unfold ev at q;rw[ae] at q;obtain⟨d,hd,q⟩:=iq q;obtain⟨v,h1,h2⟩:=er.val i d hd;rw[hm,if_neg (by simp)] at h2;exact⟨v,h1,q v H ⟨aI.refl,h2.weak er.fh,λ_=>h2,λ_=>h2.one,λz=>by simp[fresh] at z⟩ er⟩
theorem BS {e:Expr} {i:Nat} (h:PE X e (gz i)) (hm:dg Γ i=true):PE X e (bz Φ Γ F fr (.mvr i)):=aX h λσ H Q q=>by obtain⟨o,ρ,S,er,q⟩:=q;unfold ev at q;rw[ae] at q;obtain⟨d,hd,q⟩:=iq q;obtain⟨v,h1,h2⟩:=er.val i d hd;rw[hm,if_pos rfl] at h2;exact⟨v,h1,q v H ⟨aI.refl,h2.val er.wa er.da,λz=>by simp[lk] at z,λ_=>h2.one,λz=>by simp[fresh] at z⟩ er⟩
theorem g9 {Ek:Nat->Prop} {r:R Dt} {P:Dt->Prop} (f7:∀k,r≠ .ex k) (h:mR Ek r P):∃d,r= .ok d/\P d:=by grind [ex,R,Dt,mR]
theorem bZ {b:Bool} {α:Type} {r:R α} (h:∀k,r≠ .ex k):∀k,ah b r≠ .ex k:=by
 intro k;cases b
 ·intro z;cases z
 ·exact h k
theorem AG (o:Operator) (d e:Dt):∀k,mC o d e≠ .ex k:=by intro k;unfold mC;split <;> first | (intro z;cases z;done) | (split <;> first | (intro z;cases z;done) | (exact bZ (λk z=>by cases z) k))
theorem qb (o:CmpOp) (d e:Dt):∀k,cH o d e≠ .ex k:=by intro k;unfold cH;split <;> first | (intro z;cases z;done) | (exact bZ (λk z=>by cases z) k)
theorem zw (ds:List Dt) (i:Int):∀k,u5 ds i≠ .ex k:=by intro k;unfold u5;split <;> (intro z;cases z)
theorem vP (d e:Dt):∀k,bj d e≠ .ex k:=by grind [bj,zw,bZ,Dt,ex]
theorem vN (d:Dt) (lo hi:Option Int):∀k,eF d lo hi≠ .ex k:=by grind [eF,bZ,Dt,ex]
theorem wc (d:Dt):∀k,cK d≠ .ex k:=by grind [cK,bZ,Dt,ex]
theorem fE {Ek:Nat->Prop} {r:R Bool} {P:Bool->Prop} (f7:∀k,r≠ .ex k) (h:mR Ek r P):∃d,r= .ok d/\P d:=by grind [ex,R,mR]
theorem nR {op:Operator} {a b:C}:(lk (.bin op a b)=0\/lk (.bin op a b)=2)/\(lk (.bin op a b)<=1->lk a<=1/\lk b<=1):=by grind [lk]
theorem B3 {a b:Expr} {a' b':C} {op:Operator} {pos:Pos} (hK:Φ.K=X.K) (ha:PE X a (bz Φ Γ F fr a')) (hb:PE X b (bz Φ Γ F fr b')):PE X (.BinOp a op b pos) (bz Φ Γ F fr (.bin op a' b')):=aX (Di (AA op) ha hb) λσ H Q q=>by
 obtain⟨o,ρ,S,er,q⟩:=q;unfold ev at q;rw[ae] at q;refine⟨o,ρ,S,er,af q λp _ q x H1 aR ax=>?_⟩;rw[ae] at q;refine⟨o,ρ,p.2,ax,af q λp2 _ q y H2 eo2 eG=>?_⟩;rw[ae] at q;obtain⟨z,hz,q⟩:=g9 (AG _ _ _) q;obtain⟨k1,k2,k3⟩:=aR.keep eo2.ext er.fh;refine⟨p.1,p2.1,z,hK▸fO k1,hK▸fO eo2.val,hz,λv H3 pr=>?_⟩;rw[<-hK] at pr;obtain⟨e1,e2⟩:=EO.pr (fr:=fr) (H:=H) (c:= .bin op a' b') eG (aR.ext.trans eo2.ext) (aj.cons k1 (aj.cons eo2.val aj.nil)) (λl=>⟨k3 (nR.2 l).1,eo2.tP (nR.2 l).2,trivial⟩) nR.1 pr λ_=>rfl
 exact q v H3 e1 e2
theorem Bb {a b:Expr} {a' b':C} {op:CmpOp} {pos:Pos} (hK:Φ.K=X.K) (hu:X.A.units + 150 < cLine) (hm:behindInMarks op b=false) (ha:PE X a (bz Φ Γ F fr a')) (hb:PE X b (bz Φ Γ F fr b')):PE X (.Compare a [op] [b] pos) (bz Φ Γ F fr (.cmp op a' b')):=aX (wX (sJ op hu) ha hb hm) λσ H Q q=>by obtain⟨o,ρ,S,er,q⟩:=q;unfold ev at q;rw[ae] at q;refine⟨o,ρ,S,er,af q λp _ q x H1 aR ax=>?_⟩;rw[ae] at q;refine⟨o,ρ,p.2,ax,af q λp2 _ q y H2 eo2 eG=>?_⟩;rw[ae] at q;obtain⟨z,hz,q⟩:=fE (qb _ _ _) q;obtain⟨k1,k2,k3⟩:=aR.keep eo2.ext er.fh;refine⟨p.1,p2.1,z,hK▸fO k1,hK▸fO eo2.val,hz,q _ _ ?_ eG⟩;have:=EO.sc (Φ:=Φ) (fr:=fr) (o:=o) (H:=H2) (c:= .cmp op a' b') (d:= .bl z) rfl;exact this.qL (aR.ext.trans eo2.ext) λf=>by simp[fresh] at f
theorem ze {a b:Expr} {a' b':C} {op:CmpOp} {pos:Pos} (hK:Φ.K=X.K) (hu:X.A.units + 150 < cLine) (hm:behindInMarks op b=false) (ha:PE X a (bz Φ Γ F fr a')) (hb:PE X b (bz Φ Γ F fr b')):PT X (.Compare a [op] [b] pos) (ej Φ Γ F (.cmp op a' b')):=oE (wZ (sJ op hu) ha hb hm) λσ H Q q=>by obtain⟨o,ρ,S,er,q⟩:=q;unfold cg at q;rw[ae] at q;refine⟨o,ρ,S,er,af q λp _ q x H1 aR ax=>?_⟩;rw[ae] at q;refine⟨o,ρ,p.2,ax,af q λp2 _ q y H2 eo2 eG=>?_⟩;rw[ae] at q;obtain⟨z,hz,q⟩:=fE (qb _ _ _) q;obtain⟨k1,k2,k3⟩:=aR.keep eo2.ext er.fh;exact⟨p.1,p2.1,z,hK▸fO k1,hK▸fO eo2.val,hz,z,rfl,q _ (aR.ext.trans eo2.ext) eG⟩
end
section
variable {X:Cx} {Φ:Fm} {Γ:Gm} {F:FT} {fr:Nat->Bool} {g:G}
theorem aj.emp {K:Frag} {A:Addr->Prop} {H:Hp} {xs:List V} {ds:List Dt} (h:aj K A H xs ds):ds.isEmpty=xs.isEmpty:=by
 have:=h.length;cases xs with
 | nil=>cases ds with
  | nil=>rfl
  | cons=>simp at this
 | cons=>cases ds with
  | nil=>simp at this
  | cons=>rfl
theorem By {a:Expr} {a':C} {pos:Pos} (ha:PE X a (bz Φ Γ F fr a')):PE X (.UnaryOp .USub a pos) (bz Φ Γ F fr (.neg a')):=aX (A6 AB ha) λσ H Q q=>by
 obtain⟨o,ρ,S,er,q⟩:=q;unfold ev at q;rw[ae] at q;refine⟨o,ρ,S,er,af q λp _ q x H1 aR ax=>?_⟩;split at q
 ·rename_i i hi;have:=aR.val;rw[hi] at this;refine⟨i,this.int_inv,q _ _ ?_ ax⟩;exact(EO.sc (Φ:=Φ) (fr:=fr) (o:=o) (H:=H1) (c:= .neg a') (d:= .int (-i)) rfl).qL aR.ext λf=>by simp[fresh] at f
 ·exact q.elim
theorem FE {a:Expr} {a':C} {pos:Pos} (ha:PE X a (bz Φ Γ F fr a')):PE X (.UnaryOp .Not a pos) (bz Φ Γ F fr (.nt a')):=aX (tx ha) λσ H Q q=>by
 obtain⟨o,ρ,S,er,q⟩:=q;unfold ev at q;rw[ae] at q;refine⟨o,ρ,S,er,af q λp _ q x H1 aR ax=>?_⟩;split at q
 ·rename_i i hi;have:=aR.val;rw[hi] at this;refine⟨i,this.aw,q _ _ ?_ ax⟩;exact(EO.sc (Φ:=Φ) (fr:=fr) (o:=o) (H:=H1) (c:= .nt a') (d:= .bl (!i)) rfl).qL aR.ext λf=>by simp[fresh] at f
 ·exact q.elim
theorem Dg {a:Expr} {a':C} {pos:Pos} (ha:PT X a (ej Φ Γ F a')):PT X (.UnaryOp .Not a pos) (ej Φ Γ F (.nt a')):=oE (yY ha) λσ H Q q=>by obtain⟨o,ρ,S,er,q⟩:=q;unfold cg at q;rw[ae] at q;exact⟨o,ρ,S,er,af q λp _ q H1 e1 ax=>q _ e1 ax⟩
theorem BV {a b:Expr} {rest:List Expr} {a' b':C} {pos:Pos} (ha:PE X a (bz Φ Γ F fr a')) (hb:PE X (.BoolOp .And (b::rest) pos) (bz Φ Γ F fr b')):PE X (.BoolOp .And (a::b::rest) pos) (bz Φ Γ F fr (.and a' b')):=aX (sP ha hb) λσ H Q q=>by
 obtain⟨o,ρ,S,er,q⟩:=q;unfold ev at q;rw[ae] at q;refine⟨o,ρ,S,er,af q λp _ q x H1 aR ax=>?_⟩;have sc:∀(H3:Hp) (t:Bool),aI o.d H H3->EO Φ.K fr o (.and a' b') H (.bl t) (.bl t) H3:=λH3 t e3=>
  (EO.sc (Φ:=Φ) (fr:=fr) (o:=o) (H:=H3) (c:= .and a' b') (d:= .bl t) rfl).qL e3 λf=>by simp[fresh] at f
 split at q
 ·rename_i hi;have:=aR.val;rw[hi] at this;refine⟨true,this.aw,?_⟩;rw[ae] at q;refine⟨o,ρ,p.2,ax,af q λp2 _ q y H2 eo2 eG=>?_⟩;split at q
  ·rename_i c hc;have h2:=eo2.val;rw[hc] at h2;rw[h2.aw];exact q _ _ (sc H2 c (aR.ext.trans eo2.ext)) eG
  ·exact q.elim
 ·rename_i hi;have:=aR.val;rw[hi] at this;exact⟨false,this.aw,q _ _ (sc H1 false aR.ext) ax⟩
 ·exact q.elim
theorem EG {a b:Expr} {rest:List Expr} {a' b':C} {pos:Pos} (ha:PE X a (bz Φ Γ F fr a')) (hb:PE X (.BoolOp .Or (b::rest) pos) (bz Φ Γ F fr b')):PE X (.BoolOp .Or (a::b::rest) pos) (bz Φ Γ F fr (.or a' b')):=aX (xV ha hb) λσ H Q q=>by
 obtain⟨o,ρ,S,er,q⟩:=q;unfold ev at q;rw[ae] at q;refine⟨o,ρ,S,er,af q λp _ q x H1 aR ax=>?_⟩;have sc:∀(H3:Hp) (t:Bool),aI o.d H H3->EO Φ.K fr o (.or a' b') H (.bl t) (.bl t) H3:=λH3 t e3=>
  (EO.sc (Φ:=Φ) (fr:=fr) (o:=o) (H:=H3) (c:= .or a' b') (d:= .bl t) rfl).qL e3 λf=>by simp[fresh] at f
 split at q
 ·rename_i hi;have:=aR.val;rw[hi] at this;refine⟨false,this.aw,?_⟩;rw[ae] at q;refine⟨o,ρ,p.2,ax,af q λp2 _ q y H2 eo2 eG=>?_⟩;split at q
  ·rename_i c hc;have h2:=eo2.val;rw[hc] at h2;rw[h2.aw];exact q _ _ (sc H2 c (aR.ext.trans eo2.ext)) eG
  ·exact q.elim
 ·rename_i hi;have:=aR.val;rw[hi] at this;exact⟨true,this.aw,q _ _ (sc H1 true aR.ext) ax⟩
 ·exact q.elim
theorem Ak {a b:Expr} {rest:List Expr} {a' b':C} {pos:Pos} (ha:PT X a (ej Φ Γ F a')) (hb:PW X (.BoolOp .And (b::rest) pos) (ej Φ Γ F b')):PW X (.BoolOp .And (a::b::rest) pos) (ej Φ Γ F (.and a' b')):=rY (zm ha hb) λσ H Q q=>by
 obtain⟨o,ρ,S,er,q⟩:=q;unfold cg at q;rw[ae] at q;refine⟨o,ρ,S,er,af q λp _ q H1 e1 ax=>?_⟩;cases hp:p.1 with
 | true=>rw[hp] at q;rw[if_pos rfl];exact⟨o,ρ,p.2,ax,af q λp2 _ q H2 e2 eG=>q _ (e1.trans e2) eG⟩
 | false=>rw[hp] at q;rw[if_neg (by simp)];exact q _ e1 ax
theorem Bu {a b:Expr} {rest:List Expr} {a' b':C} {pos:Pos} (ha:PT X a (ej Φ Γ F a')) (hb:PW X (.BoolOp .Or (b::rest) pos) (ej Φ Γ F b')):PW X (.BoolOp .Or (a::b::rest) pos) (ej Φ Γ F (.or a' b')):=rY (De ha hb) λσ H Q q=>by
 obtain⟨o,ρ,S,er,q⟩:=q;unfold cg at q;rw[ae] at q;refine⟨o,ρ,S,er,af q λp _ q H1 e1 ax=>?_⟩;cases hp:p.1 with
 | false=>rw[hp] at q;rw[if_neg (by simp)];exact⟨o,ρ,p.2,ax,af q λp2 _ q H2 e2 eG=>q _ (e1.trans e2) eG⟩
 | true=>rw[hp] at q;rw[if_pos rfl];exact q _ e1 ax
theorem ub {a b:C}:(lk (.idx a b)=0\/lk (.idx a b)=2)/\(lk (.idx a b)<=1->lk a<=1):=by grind [lk]
theorem Cw {a b:Expr} {a' b':C} {pos:Pos} (hK:Φ.K=X.K) (hs:ka b) (ha:PE X a (bz Φ Γ F fr a')) (hb:PE X b (bz Φ Γ F fr b')):PE X (.Subscript a b pos) (bz Φ Γ F fr (.idx a' b')):=aX (Ct yu ha hb hs) λσ H Q q=>by
 obtain⟨o,ρ,S,er,q⟩:=q;unfold ev at q;rw[ae] at q;refine⟨o,ρ,S,er,af q λp _ q x H1 aR ax=>?_⟩;rw[ae] at q;refine⟨o,ρ,p.2,ax,af q λp2 _ q y H2 eo2 eG=>?_⟩;rw[ae] at q;obtain⟨z,hz,q⟩:=g9 (vP _ _) q;obtain⟨k1,k2,k3⟩:=aR.keep eo2.ext er.fh;refine⟨p.1,p2.1,z,hK▸fO k1,hK▸fO eo2.val,hz,λv pr=>?_⟩;rw[<-hK] at pr;have HQ:∃i,p2.1= .int i:=by
  cases hd:p2.1 with
  | int i=>exact⟨i,rfl⟩
  | _=>rw[hd] at hz;unfold bj at hz;split at hz <;> first | (rename_i h;cases h;done) | (cases hz;done) | contradiction
 obtain⟨i,hi⟩:=HQ;have v2:∀A:Addr->Prop,dS Φ.K A H2 y p2.1:=λA=>by have:=eo2.val;rw[hi] at this ⊢;rw[this.int_inv];exact(RV.cz (K:=Φ.K) (A:=A)).one
 obtain⟨e1,e2⟩:=EO.pr (fr:=fr) (H:=H) (c:= .idx a' b') eG (aR.ext.trans eo2.ext) (aj.cons k1 (aj.cons eo2.val aj.nil)) (λl=>⟨k3 (ub.2 l),v2 _,trivial⟩) ub.1 pr λz=>by simp[fresh] at z
 exact q v H2 e1 e2
theorem g0 {a:Expr} {a':C} (hK:Φ.K=X.K) (ha:PE X a (bz Φ Γ F fr a')) (he:∀whole,isTrue a X.env whole=(do let v<-whole;standAt a.pos;holding [v] (truthy v)))
  (Gg:∀ρ S,cg F a' ρ S=(ev F a' ρ S).bind λx=>(cK x.1).bind λb=> .ok (b,x.2)):PT X a (ej Φ Γ F a'):=oE (u3 ha he) λσ H Q q=>by
 obtain⟨o,ρ,S,er,q⟩:=q;rw[Gg,ae] at q;refine⟨o,ρ,S,er,af q λp _ q x H1 aR ax=>?_⟩;rw[ae] at q;obtain⟨b,hb,q⟩:=fE (wc _) q;refine⟨b,?_,q _ aR.ext ax⟩;have hv:=aR.val;rw[hK] at hv;unfold cK at hb;split at hb
 ·rename_i hd;rw[hd] at hv;cases hb;rw[hv.ay];rfl
 ·rename_i hd;rw[hd] at hv;cases hb;rw[hv.aw];rfl
 ·rename_i hd;rw[hd] at hv;cases hb;rw[hv.int_inv];rfl
 ·rename_i hd;rw[hd] at hv;obtain⟨g1,hb⟩:=aV hb;cases hb;rw[hv.str_inv];exact⟨JJ (JB g1) bK,rfl⟩
 ·rename_i hd;rw[hd] at hv;cases hb;obtain⟨a,xs,rfl,h1,_,h2⟩:=hv.lst_inv;refine .inl ⟨xs,cW.of h1,?_⟩;rw[h2.emp]
 ·rename_i hd;rw[hd] at hv;cases hb;obtain⟨a,xs,rfl,h1,h2⟩:=hv.ag;refine .inr (.inl ⟨xs,dy.of h1,?_⟩);rw[h2.emp]
 ·rename_i hd;rw[hd] at hv;cases hb;obtain⟨a,rfl,h1⟩:=hv.gc;refine .inl ⟨_,h1,?_⟩;simp
 ·cases hb
end
section
variable {X:Cx} {Φ:Fm} {Γ:Gm} {F:FT} {fr:Nat->Bool} {g:G}
theorem Ar {a b:C} {c:C} (hc:lk c=if lk a<=1 then 0 else 2):(lk c=0\/lk c=2)/\(lk c<=1->lk a<=1):=by grind
theorem ph {o:Ow} {ρ:ai} {S:Sx} {σ:L2.St} {H H1 H2:Hp} {a' c:C} {d:Dt} {x:V} {lo hi:Option Int} {Q:VK} (hK:Φ.K=X.K) (hc:lk c=if lk a'<=1 then 0 else 2) (hf:fresh fr c=true->True) (er:ER Φ Γ o ρ S σ H2) (aR:EO Φ.K fr o a' H d x H1) (e:aI o.d H1 H2)
  (q:mR Φ.Ek (eF d lo hi) λz=>∀v H3,EO Φ.K fr o c H z v H3->ER Φ Γ o ρ S σ H3->Q v H3):rS X.K x lo hi H2 Q:=by
 obtain⟨z,hz,q⟩:=g9 (vN _ _ _) q;obtain⟨k1,k2,k3⟩:=aR.keep e er.fh;refine⟨d,z,hK▸fO k1,hz,λv H3 pr=>?_⟩;rw[<-hK] at pr;have hl:=Ar (b:=c) hc;obtain⟨e1,e2⟩:=EO.pr (fr:=fr) (H:=H) (c:=c) er (aR.ext.trans e) (aj.cons k1 aj.nil) (λl=>⟨k3 (hl.2 l),trivial⟩) hl.1 pr λ_=>rfl
 exact q v H3 e1 e2
theorem yF {a l:Expr} {a' l':C} {p2 pos:Pos} (hK:Φ.K=X.K) (ha:PE X a (bz Φ Γ F fr a')) (hl:PE X l (bz Φ Γ F fr l')):PE X (.Subscript a (.Slice (some l) none none p2) pos) (bz Φ Γ F fr (.sliL a' l')):=aX (lQ sT ha (pT hl) px) λσ H Q q=>by
 obtain⟨o,ρ,S,er,q⟩:=q;unfold ev at q;rw[ae] at q;refine⟨o,ρ,S,er,af q λp _ q x H1 aR ax=>?_⟩;rw[ae] at q;refine⟨o,ρ,p.2,ax,af q λp2 _ q y H2 eo2 eG=>?_⟩;split at q
 ·rename_i i hi;have hv:=eo2.val;rw[hi] at hv;refine⟨i,hv.int_inv,?_⟩;rw[ae] at q;exact ph hK (by rw[lk]) (λ_=>trivial) eG aR eo2.ext (af q λz _ q v H3 e1 e2=>q v H3 e1 e2)
 ·exact q.elim
theorem Aq {a l:Expr} {a' l':C} {p2 pos:Pos} (hK:Φ.K=X.K) (ha:PE X a (bz Φ Γ F fr a')) (hl:PE X l (bz Φ Γ F fr l')):PE X (.Subscript a (.Slice none (some l) none p2) pos) (bz Φ Γ F fr (.sliH a' l')):=aX (lQ sT ha px (pT hl)) λσ H Q q=>by
 obtain⟨o,ρ,S,er,q⟩:=q;unfold ev at q;rw[ae] at q;refine⟨o,ρ,S,er,af q λp _ q x H1 aR ax=>?_⟩;rw[ae] at q;refine⟨o,ρ,p.2,ax,af q λp2 _ q y H2 eo2 eG=>?_⟩;split at q
 ·rename_i i hi;have hv:=eo2.val;rw[hi] at hv;refine⟨i,hv.int_inv,?_⟩;rw[ae] at q;exact ph hK (by rw[lk]) (λ_=>trivial) eG aR eo2.ext (af q λz _ q v H3 e1 e2=>q v H3 e1 e2)
 ·exact q.elim
theorem Cv:PA X [] (kF Φ Γ F .nil):=sS d8 λσ H Q q=>by obtain⟨o,ρ,S,er,q⟩:=q;exact q _ _ ⟨aI.refl,aj.nil,λ_=>aj.nil,λ_=>trivial⟩ er
theorem yc {e:Expr} {es:List Expr} {c:C} {cs:Cs} (hs:starEach (e::es) X.env=(false,eval e X.env)::starEach es X.env) (h:PE X e (bz Φ Γ F fr c)) (hr:PA X es (kF Φ Γ F cs)):PA X (e::es) (kF Φ Γ F (.cons c cs)):=sS (bG h hr hs) λσ H Q q=>by
 obtain⟨o,ρ,S,er,q⟩:=q;unfold fj at q;rw[ae] at q;refine⟨o,ρ,S,er,af q λp _ q x H1 aR ax=>?_⟩;rw[ae] at q;refine⟨o,ρ,p.2,ax,af q λp2 _ q xs H2 eo2 eG=>?_⟩;obtain⟨k1,k2,k3⟩:=aR.keep eo2.ext er.fh;have el:mw (.cons c cs)=max (lk c) (mw cs):=by rw[mw]
 exact q _ _ ⟨aR.ext.trans eo2.ext,aj.cons k1 eo2.val,λl=>aj.cons (k2 (by lia)) (eo2.jX (by lia)),λl=>⟨k3 (by lia),eo2.tP (by lia)⟩⟩ eG
theorem xt {cs:Cs} {c:C} (hc:lk c=if mw cs=0 then 0 else 2):(lk c<=1->lk c=0)/\(lk c=0->mw cs=0):=by grind
theorem BY {es:List Expr} {cs:Cs} {x1:Nat} {pos:Pos} (h:PA X es (kF Φ Γ F cs)):PE X (.Tuple es x1 pos) (bz Φ Γ F fr (.tup cs)):=aX (Ac h) λσ H Q q=>by
 obtain⟨o,ρ,S,er,q⟩:=q;unfold ev at q;rw[ae] at q;refine⟨o,ρ,S,er,af q λp _ q xs H1 aR ax=>?_⟩;obtain⟨g1,q⟩:=aC q;refine⟨by rw[aR.val.length];exact JJ (JB g1) bK,λa ha=>?_⟩;have s:=Mx.b8 ha (.tup xs);have hl:=xt (cs:=cs) (c:= .tup cs) (by rw[lk]);have q0:lk (.tup cs)=0->RV Φ.K o.A (upd H1 a (.tup xs)) (.ref a) (.tup p.1):=λl=>RV.cD aA ((aR.jX (hl.2 l)).same s)
 exact q _ _ ⟨aR.ext.trans (aI.of_same s),RV.cD aA (aR.val.same s),q0,λl=>(q0 (hl.1 l)).one,λz=>by simp[fresh] at z⟩ (ax.grow s)
theorem BA {es:List Expr} {cs:Cs} {pos:Pos} (h:PA X es (kF Φ Γ F cs)):PE X (.List es pos) (bz Φ Γ F fr (.lst cs)):=aX (zO h) λσ H Q q=>by
 obtain⟨o,ρ,S,er,q⟩:=q;unfold ev at q;rw[ae] at q;refine⟨o,ρ,S,er,af q λp _ q xs H1 aR ax=>?_⟩;obtain⟨g1,q⟩:=aC q;refine⟨by rw[aR.val.length];exact JJ (JB g1) bK,λa ha=>?_⟩;have s:=Mx.b8 ha (.lst xs);have hl:=xt (cs:=cs) (c:= .lst cs) (by rw[lk]);have na:¬o.A a:=λz=>by obtain⟨y,hy⟩:=ax.al a z;rw[ha] at hy;cases hy
 have q0:lk (.lst cs)=0->RV Φ.K o.A (upd H1 a (.lst xs)) (.ref a) (.lst p.1):=λl=>RV.cR aA na ((aR.jX (hl.2 l)).same s)
 refine q _ _ ⟨aR.ext.trans (aI.of_same s),RV.cR aA (λz=>na (ax.fh a z)) (aR.val.same s),q0,λl=>(q0 (hl.1 l)).one,λ_ ds e=>?_⟩ (ax.grow s);cases e;exact⟨a,xs,rfl,ax.cX aR.ext ha,aA,(aR.val.avoid ha).same s,λl=>((aR.jX (hl.2 l)).avoid ha).same s⟩
theorem yZ (b:BI) (ds:List Dt):∀k,ez b ds≠ .ex k:=by
 intro k;unfold ez;split <;> split
 all_goals first
  | (intro z;cases z;done)
  | (exact bZ (λk z=>by cases z) k)
  | (split <;> first | (intro z;cases z;done) | (exact bZ (λk z=>by cases z) k) | (split <;> first | (intro z;cases z;done) | (exact bZ (λk z=>by cases z) k)))
  | (rename_i T d;unfold rj;split <;> (intro z;cases z))
theorem xw {b:BI} {cs:Cs}:(lk (.bi b cs)=0\/lk (.bi b cs)=2)/\(lk (.bi b cs)<=1->mw cs<=1):=by grind [lk,mw]
theorem tD {b:BI} {cs:Cs} {σ:L2.St} {H:Hp} {Q:VK} (hK:Φ.K=X.K) (q:bz Φ Γ F fr (.bi b cs) σ H Q):Gc (rP X.K true (ez b)) (kF Φ Γ F cs) σ H Q:=by
 obtain⟨o,ρ,S,er,q⟩:=q;unfold ev at q;rw[ae] at q;refine⟨o,ρ,S,er,af q λp _ q xs H1 aR ax=>?_⟩;rw[ae] at q;obtain⟨z,hz,q⟩:=g9 (yZ _ _) q;refine⟨p.1,z,hK▸zA aR.val,hz,λv H3 pr=>?_⟩;rw[<-hK] at pr;obtain⟨e1,e2⟩:=EO.pr (fr:=fr) (H:=H) (c:= .bi b cs) ax aR.ext aR.val (λl=>aR.tP (xw.2 l)) xw.1 pr λ_=>rfl
 exact q v H3 e1 e2
end
noncomputable def Cs.len:Cs->Nat
 | .nil=>0
 | .cons _ cs=>cs.len + 1
theorem pC {F:FT}:∀{cs:Cs} {ρ:ai} {S:Sx} {p:List Dt×Sx},fj F cs ρ S= .ok p->p.1.length=cs.len
 | .nil,ρ,S,p,h=>by unfold fj at h;cases h;rfl
 | .cons c cs,ρ,S,p,h=>by
  unfold fj at h;cases h1:ev F c ρ S with
  | ok x=>
   rw[h1] at h;simp only[R.ak] at h;cases h2:fj F cs ρ x.2 with
   | ok y=>rw[h2] at h;cases h;simp[Cs.len,pC h2]
   | ex k=>rw[h2] at h;cases h
   | bad=>rw[h2] at h;cases h
  | ex k=>rw[h1] at h;cases h
  | bad=>rw[h1] at h;cases h
section
variable {X:Cx} {Φ:Fm} {Γ:Gm} {F:FT} {g:G} {xv:Nat->Value} {CX:ib} {k:Nat}
theorem mW {H H':Hp} (e:aI (λb=>(none:Option Addr)=some b) H H'):bw H H':=λb o h=>e.kp b o h (by simp)
theorem oU {K:Frag} {A:Addr->Prop} {H:Hp}:∀{ds:List Dt},ds.all lI=true->aj K A H (ds.map nq) ds
 | [],_=>aj.nil
 | d::ds,h=>by rw[List.all_cons,Jz] at h;exact aj.cons (lO h.1) (oU h.2)
theorem s_call {x:Str} {f np j:Nat} {ec:List Dt} {e:Expr} {es:List Expr} {cs:Cs} {p pos:Pos} (hX:HX g xv CX k F Φ X) (hG:Gl X x) (mD:(x==("__debug__":Str))=false) (sv:oQ x g.fns=some (f,np,ec,false)) (hj:j<=ec.length) (hn:cs.len + (ec.drop j).length=np)
  (hs:starEach (e::es) X.env=(false,eval e X.env)::starEach es X.env) (jW:(backTo pos (starEach es X.env)).any (·.1)=false) (ha:PA X (e::es) (kF Φ Γ F cs)):PE X (.Call (.Name x p) (e::es) [] pos) (bz Φ Γ F g.fr (.call f cs (ec.drop j))):=by
 obtain⟨n,fx⟩:=hX.fx;obtain⟨fa,fd,ps,Jh,hmg,ID,hok,hb,Iu⟩:=fx.fn x f np ec false sv;obtain⟨rl,qp,HB⟩:=hb j hj;refine aX (wQ hok hX.room hG hmg ID HB qp hX.pass ha mD hs jW) λσ H Q q=>?_
 obtain⟨o,ρ,S,er,q⟩:=q;unfold ev at q;rw[ae] at q;refine⟨o,ρ,S,er,af q λp hp q vs H1 aR ax=>?_⟩;have GE:(ec.drop j).all lI=true:=J9.mpr λd hd=>J9.mp Iu d (List.mem_of_mem_drop hd)
 rw[ae] at q;have el:lk (.call f cs (ec.drop j))=if mw cs=0 then 0 else 2:=by rw[lk]
 refine⟨?_,?_⟩
 ·rw[JO,aR.val.length,JH,pC hp];exact hn
 by_cases hl:mw cs=0
 ·rw[if_pos hl] at el;refine⟨o.A,none,p.1++ec.drop j,none,vs++(ec.drop j).map nq,⟨rfl,rfl,rfl⟩,?_,ax.al,?_⟩
  ·rw[<-hX.K];exact(aR.jX hl).append (oU GE)
  ·cases hr:F f (p.1++ec.drop j) none with
   | ok y=>rw[hr] at q;intro v H' fo;rw[<-hX.K] at fo;have sm:=mW fo.ext;refine q v H' ⟨aR.ext.trans (aI.of_same sm),fo.val.weak ax.fh,λ_=>fo.val,λ_=>fo.val.one,λfc ds ed=>?_⟩ (ax.grow sm);obtain⟨a,xs,h1,h2,h3,h4⟩:=fo.dh fc ds ed;exact⟨a,xs,h1,ax.cX aR.ext h2,h3,h4.weak λb z=>z.elim (λz=> .inl (ax.fh b z)) .inr,λ_=>h4⟩
   | ex kk=>rw[hr] at q;intro H' e';exact⟨kk,rfl,q,ax.ent.trans (e'.mono λb z=>by cases z)⟩
   | bad=>rw[hr] at q;exact q.elim
 ·rw[if_neg hl] at el;refine⟨o.wd,none,p.1++ec.drop j,none,vs++(ec.drop j).map nq,⟨rfl,rfl,rfl⟩,?_,ax.sU,?_⟩
  ·rw[<-hX.K];exact aR.val.append (oU GE)
  ·cases hr:F f (p.1++ec.drop j) none with
   | ok y=>rw[hr] at q;intro v H' fo;rw[<-hX.K] at fo;have sm:=mW fo.ext;refine q v H' ⟨aR.ext.trans (aI.of_same sm),fo.val,λz=>by rw[el] at z;lia,λz=>by rw[el] at z;lia,λfc ds ed=>?_⟩ (ax.grow sm);obtain⟨a,xs,h1,h2,h3,h4⟩:=fo.dh fc ds ed;exact⟨a,xs,h1,ax.cX aR.ext h2,h3,h4,λz=>by rw[el] at z;lia⟩
   | ex kk=>rw[hr] at q;intro H' e';exact⟨kk,rfl,q,ax.ent.trans (e'.mono λb z=>by cases z)⟩
   | bad=>rw[hr] at q;exact q.elim
theorem vn {t:Str} {T:String} (h:oP t=some T):bootBuiltins t=some (.type T):=by
 unfold oP at h;split at h
 ·rename_i e;cases h;rw[JV e];exact PyProof.Rows.boot_str
 split at h
 ·rename_i e;cases h;rw[JV e];exact PyProof.Rows.boot_int
 split at h
 ·rename_i e;cases h;rw[JV e];exact PyProof.Rows.boot_bool
 split at h
 ·rename_i e;cases h;rw[JV e];exact PyProof.Rows.boot_list
 split at h
 ·rename_i e;cases h;rw[JV e];exact PyProof.Rows.boot_tuple
 ·cases h
theorem vx {t:Str} {T:String} (h:oP t=some T):T="str"\/T="int"\/T="bool"\/T="list"\/T="tuple":=by grind [oP]
theorem zr {K:Frag} {A:Addr->Prop} {H:Hp} {x:V} {d:Dt} {T:String} {b:Bool} (hT:T="str"\/T="int"\/T="bool"\/T="list"\/T="tuple") (hx:RV K A H x d) (h:rj T d= .ok b):∃t,fw K H x t/\PySem.W.kitOne K t (.type T)=some b:=by
 unfold rj at h;split at h
 ·cases h;rw[hx.str_inv];refine⟨_,.str _,?_⟩;rcases hT with rfl | rfl | rfl | rfl | rfl <;> rfl
 ·cases h;rw[hx.int_inv];refine⟨_,.int _,?_⟩;rcases hT with rfl | rfl | rfl | rfl | rfl <;> rfl
 ·cases h;rw[hx.aw];refine⟨_,.bl _,?_⟩;rcases hT with rfl | rfl | rfl | rfl | rfl <;> rfl
 ·cases h;obtain⟨a,xs,rfl,h1,_⟩:=hx.lst_inv;refine⟨_,.lst h1,?_⟩;rcases hT with rfl | rfl | rfl | rfl | rfl <;> rfl
 ·cases h;obtain⟨a,xs,rfl,h1,_⟩:=hx.ag;refine⟨_,.tup h1,?_⟩;rcases hT with rfl | rfl | rfl | rfl | rfl <;> rfl
 ·cases h;rw[hx.ay];refine⟨_,.a6,?_⟩;rcases hT with rfl | rfl | rfl | rfl | rfl <;> rfl
 ·cases h
theorem wj (T:String) (d:Dt):∀k,rj T d≠ .ex k:=by intro k;unfold rj;split <;> (intro z;cases z)
theorem Bc {a:Expr} {a':C} {t:Str} {T:String} {p tp pos:Pos} (hK:Φ.K=X.K) (hG:Gl X "isinstance") (hm:X.mg "isinstance"=none) (Ic:Gl X t) (Hn:X.mg t=none) (hT:oP t=some T) (hn:t≠"__name__") (mD:(t==("__debug__":Str))=false)
  (hs:starEach (a::[.Name t tp]) X.env=(false,eval a X.env)::starEach [.Name t tp] X.env) (ha:PE X a (bz Φ Γ F g.fr a')):PE X (.Call (.Name "isinstance" p) [a,.Name t tp] [] pos) (bz Φ Γ F g.fr (.bi (.isi T) (.cons a' .nil))):=by
 refine aX (iS Mx.tL hG hm PyProof.Rows.boot_isinstance (bG ha (bG (pY (v:= .ty T) Ic Hn (vn hT) rfl hn mD) d8) hs) (by decide) (by decide) hs) λσ H Q q=>?_
 obtain⟨o,ρ,S,er,q⟩:=q;unfold ev fj fj at q;rw[ae,ae] at q;refine⟨o,ρ,S,er,af q λp hp q x H1 aR ax=>?_⟩;simp only[R.ak] at q;have q:mR Φ.Ek ((ez (.isi T) [p.1]).bind λd=>R.ok (d,p.2)) _:=q;unfold ez at q;simp only at q;rw[ae,ae] at q;obtain⟨b,hb,q⟩:=fE (wj _ _) q;obtain⟨ty,k1,k2⟩:=zr (vx hT) (hK▸aR.val) hb;refine⟨x,T,ty,b,rfl,k1,k2,q _ _ ?_ ax⟩;exact(EO.sc (Φ:=Φ) (fr:=g.fr) (o:=o) (H:=H1) (c:= .bi (.isi T) (.cons a' .nil)) (d:= .bl b) rfl).qL aR.ext λf=>by simp[fresh] at f
end
noncomputable def FF (K:Frag) (tl:TE):TI:=λσ H R=>tl σ H λx H1=>(∃a xs,x= .ref a/\cW K H1 a xs/\R (Dw K a) H1)\/(∃a xs,x= .ref a/\dy K H1 a xs/\R (F0 K a) H1)
theorem Ah {X:Cx} {tg l:Expr} {tl:TE} (hl:PE X l tl):PI X tg l (FF X.K tl):=by
 intro pins s σ H R I h;refine bq (hl pins s σ H _ I h) λv s1 ⟨x,H1,I1,r1,q1⟩=>?_
 rcases q1 with ⟨a,xs,e,hq,q⟩ | ⟨a,xs,e,hq,q⟩
 ·subst e;cases r1;obtain⟨its,rv,p,hz⟩:=I1.list hq;refine wpAny_pyIter_list p.isList ?_;refine⟨s1.heap.objs.size,[s1.heap.objs.size],_,_,H1,rfl,I1.kept (t':=s1.toks) λb o e=>Jx _ e,qN a _,⟨_,JG _ rfl,rfl,rfl⟩,λb hb=>?_,q⟩;have e:b=s1.heap.objs.size:=by simpa using hb
  subst e;exact I1.n9 (JE _) (I1.hok.fresh (JE _))
 ·subst e;cases r1;obtain⟨its,rv,p,hz⟩:=I1.tuple hq;refine wpAny_pyIter_tuple (show s1.heap.IsTuple a its.toArray from p) ?_;refine⟨s1.heap.objs.size,[s1.heap.objs.size],_,_,H1,rfl,I1.kept (t':=s1.toks) λb o e=>Jx _ e,ou a _,⟨_,JG _ rfl,rfl,rfl⟩,λb hb=>?_,q⟩;have e:b=s1.heap.objs.size:=by simpa using hb
  subst e;exact I1.n9 (JE _) (I1.hok.fresh (JE _))
section
variable {X:Cx} {Φ:Fm} {Γ:Gm} {F:FT} {g:G} {xv:Nat->Value} {CX:ib} {k:Nat} {K:Frag}
theorem qi {A Y:Addr->Prop} {a:Addr} {xs:List V} {ds:List Dt} {H:Hp} (ha:H a=some (.lst xs)) (hn:¬Y a) (hY:∀b,Y b->A b) (h:aj K A H xs ds):Wk K A Y (Dw K a) H ds where
 go:=λi H1 hi e=>⟨xs,xs[i]'(by rw[h.length];exact hi),cW.of (e.kp _ _ ha hn),by simp⟩
 stop:=λH1 e=>⟨xs,cW.of (e.kp _ _ ha hn),by rw[h.length];exact JE _⟩
 yld:=λi x H1 H2 hi e y=>by obtain⟨rfl,y⟩:=y;obtain⟨d,h1,h2⟩:=h.get (y xs (cW.of (e.kp _ _ ha hn)));exact⟨bw.refl _,d,h1,λB hB=>(h2.bC (B:=λb=>A b\/B b) λb z=>z.elim .inl (hB b)).mono e (λb z=> .inl (hY b z)) λ_ z=> .inr z⟩
theorem oq {A Y:Addr->Prop} {a:Addr} {xs:List V} {ds:List Dt} {H:Hp} (ha:H a=some (.tup xs)) (hY:∀b,Y b->A b) (h:aj K A H xs ds):Wk K A Y (F0 K a) H ds where
 go:=λi H1 hi e=>⟨xs,xs[i]'(by rw[h.length];exact hi),dy.of (e.tp _ _ ha),by simp⟩
 stop:=λH1 e=>⟨xs,dy.of (e.tp _ _ ha),by rw[h.length];exact JE _⟩
 yld:=λi x H1 H2 hi e y=>by obtain⟨rfl,y⟩:=y;obtain⟨d,h1,h2⟩:=h.get (y xs (dy.of (e.tp _ _ ha)));exact⟨bw.refl _,d,h1,λB hB=>(h2.bC (B:=λb=>A b\/B b) λb z=>z.elim .inl (hB b)).mono e (λb z=> .inl (hY b z)) λ_ z=> .inr z⟩
theorem uV {A Y:Addr->Prop} {a:Addr} {ns:List Int} {H:Hp} (ha:(Rd H a (.lst (ns.map V.int))/\¬Y a)\/KL K a (ns.map V.int)):Wk K A Y (Dw K a) H (ns.map Dt.int):=by
 have sq:∀H1,aI Y H H1->cW K H1 a (ns.map V.int):=λH1 e=>by
  rcases ha with ⟨h,n⟩ | h
  ·exact .inl (tF e n h)
  ·exact .inr h
 refine⟨λi H1 hi e=>?_,λH1 e=>⟨_,sq H1 e,by simp⟩,λi x H1 H2 hi e y=>?_⟩
 ·rw[JH] at hi;exact⟨_,.int ns[i],sq H1 e,by simp[hi]⟩
 ·obtain⟨rfl,y⟩:=y;have:=y _ (sq _ e);rw[JR] at this;obtain⟨m,h1,rfl⟩:=JN.mp this;exact⟨bw.refl _,.int m,by simp[h1],λ_ _=>RV.cz⟩
theorem o4 {A Y:Addr->Prop} {lo:Int} {n:Nat} {H:Hp}:Wk K A Y (DP lo n) H (bc lo n) where
 go:=λi H1 hi e=>by unfold bc at hi;simp at hi;exact hi
 stop:=λH1 e=>by unfold bc;simp only[JH,List.length_range];exact JE _
 yld:=λi x H1 H2 hi e y=>by obtain⟨rfl,rfl⟩:=y;unfold bc at hi;simp at hi;exact⟨bw.refl _,.int (lo + i),by unfold bc;simp[hi],λ_ _=>RV.cz⟩
theorem tT {tg a:Expr} {a':C} (hK:Φ.K=X.K) (ha:PE X a (bz Φ Γ F g.fr a')):PI X tg a (ll Φ Γ F (.seq a')):=kM (Ah ha) λσ H Q q=>by
 obtain⟨o,ρ,S,er,q⟩:=q;unfold cw at q;rw[ae] at q;refine⟨o,ρ,S,er,af q λp he q x H1 aR ax=>?_⟩;have nF:nu (.seq a')=lk a':=rfl;cases hd:p.1 with
 | lst ds=>
  rw[hd] at q;have hv:=aR.val;have h0:=aR.jX;have h1:=aR.tP;rw[hd] at hv h0 h1;obtain⟨b,xs,rfl,f1,fn,f2⟩:=hv.lst_inv;refine .inl ⟨b,xs,rfl,cW.of f1,q _ _ ⟨aR.ext,λl=>?_,λl=>?_,λl=>by unfold iK at l;rw[he] at l;simp only[hd,jy] at l;cases l⟩ ax⟩
  ·rw[<-hK];exact qi f1 (λz=>fn (.inr z)) ax.da (dS.aF (h1 (by rw[nF] at l;exact l)) f1)
  ·rw[<-hK];have:=h0 (by rw[nF] at l;exact l);obtain⟨b',mv,e',g1,gn,g2⟩:=this.lst_inv;cases e';exact qi g1 gn (λ_ z=>z) g2
 | tup ds=>
  rw[hd] at q;have hv:=aR.val;have h0:=aR.jX;have h1:=aR.tP;rw[hd] at hv h0 h1;obtain⟨b,xs,rfl,f1,f2⟩:=hv.ag;refine .inr ⟨b,xs,rfl,dy.of f1,q _ _ ⟨aR.ext,λl=>?_,λl=>?_,λl=>?_⟩ ax⟩
  ·rw[<-hK];exact oq f1 ax.da (dS.aq (h1 (by rw[nF] at l;exact l)) f1)
  ·rw[<-hK];exact oq f1 (λ_ z=>z) (dS.aq (h0 (by rw[nF] at l;exact l)).one f1)
  ·rw[<-hK];unfold iK at l;rw[he] at l;simp only[hd] at l;exact oq f1 (λ_ z=>z) (dS.aq (hv.jy l:RV Φ.K o.A H1 (.ref b) (.tup ds)).one f1)
 | bR ns=>
  rw[hd] at q;have hv:=aR.val;have h0:=aR.jX;rw[hd] at hv h0;obtain⟨b,rfl,hb⟩:=hv.et;have Dr:cW X.K H1 b (ns.map V.int):=by
   rw[<-hK];rcases hb with hb | hb
   ·exact .inl hb.1
   ·exact .inr hb
  refine .inl ⟨b,_,rfl,Dr,q _ _ ⟨aR.ext,λl=>?_,λl=>?_,λl=>by unfold iK at l;rw[he] at l;simp only[hd,jy] at l;cases l⟩ ax⟩
  ·rw[<-hK];exact uV (hb.imp (λz=>⟨z.1,λw=>z.2 (.inr w)⟩) id)
  ·rw[<-hK];obtain⟨b',e',rR⟩:=(h0 (by rw[nF] at l;exact l)).et;cases e';exact uV rR
 | _=>rw[hd] at q;exact q.elim
theorem zG {tg a:Expr} {a':C} {p pos:Pos} (hG:Gl X "range") (hm:X.mg "range"=none) (hs:starEach [a] X.env=[(false,eval a X.env)]) (ha:PE X a (bz Φ Γ F g.fr a')):PI X tg (.Call (.Name "range" p) [a] [] pos) (ll Φ Γ F (.rng1 a')):=
 kM (qA hG hm (bG ha d8 (by rw[hs];rfl)) hs) λσ H Q q=>by
 obtain⟨o,ρ,S,er,q⟩:=q;unfold cw at q;rw[ae] at q;refine⟨o,ρ,S,er,af q λp _ q x H1 aR ax=>?_⟩;cases hd:p.1 with
 | int j=>rw[hd] at q;obtain⟨g1,q⟩:=aC q;rw[Jz] at g1;have a1:=JB g1.1;have a2:=JB g1.2;have hl:lim=1000000:=rfl;have hv:=aR.val;rw[hd] at hv;exact⟨j,by rw[hv.int_inv],by lia,by lia,q _ _ ⟨aR.ext,λ_=>o4,λ_=>o4,λ_=>o4⟩ ax⟩
 | _=>rw[hd] at q;exact q.elim
theorem uv {A Y:Addr->Prop} {b1 b2:Bool} {l1 l2:Addr} {xs ys:List V} {ds es:List Dt} {H:Hp} (h1:H l1=some (Mx.jm b1 xs)) (h2:H l2=some (Mx.jm b2 ys)) (n1:b1=false->¬Y l1) (n2:b2=false->¬Y l2) (hY:∀b,Y b->A b) (g1:aj K A H xs ds) (g2:aj K A H ys es):Wk K A Y (Mx.Fe b1 b2 l1 l2) H (gO ds es):=by
 have k1:∀H1,aI Y H H1->H1 l1=some (Mx.jm b1 xs):=λH1 e=>by
  cases b1 with
  | false=>exact e.kp _ _ h1 (n1 rfl)
  | true=>exact e.tp _ _ h1
 have k2:∀H1,aI Y H H1->H1 l2=some (Mx.jm b2 ys):=λH1 e=>by
  cases b2 with
  | false=>exact e.kp _ _ h2 (n2 rfl)
  | true=>exact e.tp _ _ h2
 have hz:(gO ds es).length=min xs.length ys.length:=by unfold gO;rw[List.length_zipWith,g1.length,g2.length]
 refine⟨λi H1 hi e=>?_,λH1 e=>?_,λi x H1 H2 hi e y=>?_⟩
 ·rw[hz] at hi;exact⟨xs,ys,xs[i]'(by lia),ys[i]'(by lia),k1 H1 e,k2 H1 e,by simp,by simp⟩
 ·exact⟨xs,ys,k1 H1 e,k2 H1 e,by lia⟩
 ·obtain⟨p,x1,y1,rfl,hp,rfl,q⟩:=y;obtain⟨q1,q2⟩:=q xs ys (k1 H1 e) (k2 H1 e);obtain⟨d,a1,a2⟩:=g1.get q1;obtain⟨c,c1,c2⟩:=g2.get q2;have s:=Mx.b8 hp (.tup [x1,y1]);refine⟨s,.tup [d,c],by unfold gO;rw[List.getElem?_zipWith,a1,c1],λB hB=>RV.cD aA ?_⟩;have av:∀{v:V} {dd:Dt},RV K A H v dd->RV K B (upd H1 p (.tup [x1,y1])) v dd:=λh=>((h.bC (B:=λb=>A b\/B b) λb z=>z.elim .inl (hB b)).mono e (λb z=> .inl (hY b z)) λ_ z=> .inr z).same s
  exact aj.cons (av a2) (aj.cons (av c2) aj.nil)
theorem bL {A B:Addr->Prop} {H:Hp} {x:V} {d:Dt} {ds:List Dt} (h:c6 d=some ds) (hv:RV K A H x d) (h1:dS K B H x d):∃b l xs,x= .ref l/\H l=some (Mx.jm b xs)/\(b=false->¬A l)/\aj K B H xs ds:=by
 unfold c6 at h;split at h
 ·cases h;obtain⟨a,xs,rfl,f1,fn,f2⟩:=hv.lst_inv;exact⟨false,a,xs,rfl,f1,λ_=>fn,dS.aF h1 f1⟩
 ·cases h;obtain⟨a,xs,rfl,f1,f2⟩:=hv.ag;exact⟨true,a,xs,rfl,f1,λz=>(by cases z),dS.aq h1 f1⟩
 ·cases h
theorem Cu {es:List Expr} {kk:Nat} {tp:Pos} {a b:Expr} {a' b':C} {p pos:Pos} (hK:Φ.K=X.K) (hG:Gl X "zip") (hm:X.mg "zip"=none) (hs:starEach [a,b] X.env=[(false,eval a X.env),(false,eval b X.env)]) (AR:starEach [b] X.env=[(false,eval b X.env)]) (ha:PE X a (bz Φ Γ F g.fr a')) (hb:PE X b (bz Φ Γ F g.fr b')):
  PI X (.Tuple es kk tp) (.Call (.Name "zip" p) [a,b] [] pos) (ll Φ Γ F (.zip a' b')):=
 kM (Mx.vM hG hm (bG ha (bG hb d8 (by rw[AR];rfl)) (by rw[hs,AR])) hs AR) λσ H Q q=>by
 obtain⟨o,ρ,S,er,q⟩:=q;unfold cw at q;rw[ae] at q;refine⟨o,ρ,S,er,af q λp _ q x H1 aR ax=>?_⟩;rw[ae] at q;refine⟨o,ρ,p.2,ax,af q λp2 _ q y H2 eo2 eG=>?_⟩;have nF:nu (.zip a' b')=max (lk a') (lk b'):=rfl;split at q
 ·rename_i ds es e1 e2;obtain⟨k1,k2,k3⟩:=aR.keep eo2.ext er.fh;obtain⟨c1,l1,xs,rfl,f1,FK,f2⟩:=bL e1 k1 k1.one;obtain⟨c2,l2,ys,rfl,g1,Hr,g2⟩:=bL e2 eo2.val eo2.val.one;refine⟨c1,c2,l1,l2,xs,ys,rfl,f1,g1,q _ _ ⟨aR.ext.trans eo2.ext,λl=>?_,λl=>?_,λl=>by unfold iK at l;cases l⟩ eG⟩
  ·rw[nF] at l;obtain⟨uC,FS,mv,e',oK,_,yL⟩:=bL e1 k1 (k3 (by lia));obtain⟨CW,Ig,Do,AW,Ab,_,EN⟩:=bL e2 eo2.val (eo2.tP (by lia));cases e';cases AW;have i1:c1=uC/\xs=mv:=by rw[f1] at oK;cases c1 <;> cases uC <;> first | (cases oK;exact⟨rfl,rfl⟩) | cases oK
   have i2:c2=CW/\ys=Do:=by rw[g1] at Ab;cases c2 <;> cases CW <;> first | (cases Ab;exact⟨rfl,rfl⟩) | cases Ab
   obtain⟨rfl,rfl⟩:=i1;obtain⟨rfl,rfl⟩:=i2;exact uv f1 g1 (λz w=>FK z (.inr w)) (λz w=>Hr z (.inr w)) eG.da yL EN
  ·rw[nF] at l;obtain⟨uC,FS,mv,e',oK,B7,yL⟩:=bL e1 (k2 (by lia)) (k2 (by lia)).one;obtain⟨CW,Ig,Do,AW,Ab,DI,EN⟩:=bL e2 (eo2.jX (by lia)) (eo2.jX (by lia)).one;cases e';cases AW;have i1:c1=uC/\xs=mv:=by rw[f1] at oK;cases c1 <;> cases uC <;> first | (cases oK;exact⟨rfl,rfl⟩) | cases oK
   have i2:c2=CW/\ys=Do:=by rw[g1] at Ab;cases c2 <;> cases CW <;> first | (cases Ab;exact⟨rfl,rfl⟩) | cases Ab
   obtain⟨rfl,rfl⟩:=i1;obtain⟨rfl,rfl⟩:=i2;exact uv f1 g1 B7 DI (λ_ z=>z) yL EN
 ·exact q.elim
theorem jM:∀(ds:List Dt) (k i:Nat) (d:Dt),ds[i]?=some d->(bP k ds)[i]?=some (.tup [.int ((k + i:Nat):Int),d])
 | [],k,i,d,h=>by simp at h
 | x::ds,k,0,d,h=>by simp at h;subst h;rfl
 | x::ds,k,i + 1,d,h=>by have:=jM ds (k + 1) i d (by simpa using h);show (bP (k + 1) ds)[i]?=_;rw[this,show k + 1 + i=k + (i + 1) by lia]
theorem j6:∀(ds:List Dt) (k:Nat),(bP k ds).length=ds.length
 | [],_=>rfl
 | x::ds,k=>by show (bP (k + 1) ds).length + 1=_;rw[j6 ds (k + 1)];rfl
theorem pO {A Y:Addr->Prop} {b:Bool} {l:Addr} {xs:List V} {ds:List Dt} {H:Hp} (h1:H l=some (Mx.jm b xs)) (n1:b=false->¬Y l) (hY:∀b,Y b->A b) (g1:aj K A H xs ds):Wk K A Y (Mx.E0 b l) H (bP 0 ds):=by
 have k1:∀H1,aI Y H H1->H1 l=some (Mx.jm b xs):=λH1 e=>by
  cases b with
  | false=>exact e.kp _ _ h1 (n1 rfl)
  | true=>exact e.tp _ _ h1
 have hl:=g1.length;have hz:=j6 ds 0;refine⟨λi H1 hi e=>?_,λH1 e=>?_,λi x H1 H2 hi e y=>?_⟩
 ·exact⟨xs,xs[i]'(by lia),k1 H1 e,by simp⟩
 ·exact⟨xs,k1 H1 e,by lia⟩
 ·obtain⟨p,x1,rfl,hp,rfl,q⟩:=y;have q1:=q xs (k1 H1 e);obtain⟨d,a1,a2⟩:=g1.get q1;have s:=Mx.b8 hp (.tup [.int i,x1]);refine⟨s,.tup [.int i,d],by rw[jM ds 0 i d a1,Nat.zero_add],λB hB=>RV.cD aA ?_⟩;exact aj.cons RV.cz (aj.cons (((a2.bC (B:=λb=>A b\/B b) λb z=>z.elim .inl (hB b)).mono e (λb z=> .inl (hY b z)) λ_ z=> .inr z).same s) aj.nil)
theorem zL {es:List Expr} {kk:Nat} {tp:Pos} {a:Expr} {a':C} {p pos:Pos} (hK:Φ.K=X.K) (hG:Gl X "enumerate") (hm:X.mg "enumerate"=none) (hs:starEach [a] X.env=[(false,eval a X.env)]) (ha:PE X a (bz Φ Γ F g.fr a')):
  PI X (.Tuple es kk tp) (.Call (.Name "enumerate" p) [a] [] pos) (ll Φ Γ F (.enum a')):=
 kM (Mx.tJ hG hm (bG ha d8 (by rw[hs];rfl)) hs) λσ H Q q=>by
 obtain⟨o,ρ,S,er,q⟩:=q;unfold cw at q;rw[ae] at q;refine⟨o,ρ,S,er,af q λp _ q x H1 aR ax=>?_⟩;have nF:nu (.enum a')=lk a':=rfl;split at q
 ·rename_i ds e1;obtain⟨c1,l1,xs,rfl,f1,FK,f2⟩:=bL e1 aR.val aR.val.one;refine⟨c1,l1,xs,rfl,f1,q _ _ ⟨aR.ext,λl=>?_,λl=>?_,λl=>by unfold iK at l;cases l⟩ ax⟩
  ·rw[nF] at l;obtain⟨uC,FS,mv,e',oK,_,yL⟩:=bL e1 aR.val (aR.tP l);cases e';have i1:c1=uC/\xs=mv:=by rw[f1] at oK;cases c1 <;> cases uC <;> first | (cases oK;exact⟨rfl,rfl⟩) | cases oK
   obtain⟨rfl,rfl⟩:=i1;exact pO f1 (λz w=>FK z (.inr w)) ax.da yL
  ·rw[nF] at l;obtain⟨uC,FS,mv,e',oK,B7,yL⟩:=bL e1 (aR.jX l) (aR.jX l).one;cases e';have i1:c1=uC/\xs=mv:=by rw[f1] at oK;cases c1 <;> cases uC <;> first | (cases oK;exact⟨rfl,rfl⟩) | cases oK
   obtain⟨rfl,rfl⟩:=i1;exact pO f1 B7 (λ_ z=>z) yL
 ·exact q.elim
end
noncomputable def uD:List Nat->sf
 | []=>yn
 | i::is=>uk (cG i) (uD is)
noncomputable def xW (K:Frag):Tg->TG
 | .nm i=>cG i
 | .tp is=>yz K is.length (uD is)
section
variable {X:Cx} {Φ:Fm} {Γ:Gm} {F:FT} {g:G} {xv:Nat->Value} {CX:ib} {k:Nat} {K:Frag}
theorem c7 {x:Str} {i:Nat} (h:dM Γ x=some i):sR (Γ.names.lookup x)=true/\bS x=true/\Γ.N[i]?=some x:=by grind [dM,il]
theorem gW {x:Str} {i:Nat} (h:slot Γ x=some i):sk (Γ.names.lookup x)=true/\bS x=true/\Γ.N[i]?=some x:=by grind [slot,il]
theorem fv {e:Expr} {i:Nat} (h:jL Γ e=some i):∃x p,e= .Name x p/\dM Γ x=some i/\plainS Γ i=true:=by
 unfold jL at h;split at h
 ·rename_i x p;obtain⟨j,h1,h2⟩:=Jw.mp h;split at h2
  ·cases h2;exact⟨x,p,rfl,h1,by assumption⟩
  ·cases h2
 ·cases h
theorem x6 {e:Expr} {i:Nat} (gx:GX g Γ X) (h:jL Γ e=some i):PG X e (cG i):=by grind [fv,c7,v5,GX,jL,PG,cG]
theorem xU (gx:GX g Γ X):∀{es:List Expr} {is:List Nat},gy Γ es=some is->Bl X es (uD is)/\es.length=is.length/\∀e∈es,∃x p,e= .Name x p
 | [],is,h=>by cases h;exact⟨vw,rfl,λe z=>by cases z⟩
 | e::es,is,h=>by
  unfold gy at h;obtain⟨i,h1,h2⟩:=Jw.mp h;obtain⟨js,h3,rfl⟩:=JN.mp h2;obtain⟨k1,k2,k3⟩:=xU gx h3;obtain⟨x,p,ex,_⟩:=fv h1;refine⟨u7 (x6 gx h1) k1 (by subst ex;rfl),by simp[k2],λe' z=>?_⟩;rcases JK.mp z with rfl | z
  ·exact⟨x,p,ex⟩
  ·exact k3 e' z
theorem jb {env:Env}:∀{es:List Expr},(∀e∈es,∃x p,e=Expr.Name x p)->(assignEach es env).length=es.length/\(assignEach es env).findIdx? (·.1)=none
 | [],_=>⟨rfl,rfl⟩
 | e::es,h=>by
  obtain⟨x,p,rfl⟩:=h e JF;obtain⟨h1,h2⟩:=jb (es:=es) (env:=env) λe' z=>h e' (JD _ z)
  have q:assignEach (Expr.Name x p::es) env=(false,assign (.Name x p) env)::assignEach es env:=rfl;rw[q];refine⟨by simp[h1],?_⟩;rw[List.findIdx?_cons];simp[h2]
theorem oh {e:Expr} {t:Tg} (gx:GX g Γ X) (h:ot Γ e=some t):PG X e (xW X.K t):=by
 unfold ot at h;split at h
 ·obtain⟨i,h1,rfl⟩:=JN.mp h;exact x6 gx h1
 ·obtain⟨is,h1,rfl⟩:=JN.mp h;obtain⟨k1,k2,k3⟩:=xU gx h1;obtain⟨n1,n2⟩:=jb (env:=X.env) k3;exact zt gx.calm k1 (by rw[n1,k2]) n2
 ·cases h
theorem d9 {e:Expr} {t:Tg} (h:ot Γ e=some t):∀i∈aJ t,plainS Γ i=true/\∃x,dM Γ x=some i:=by
 have many:∀{es:List Expr} {is:List Nat},gy Γ es=some is->∀i∈is,plainS Γ i=true/\∃x,dM Γ x=some i:=by
  intro es
  induction es with
  | nil=>intro is h i hi;cases h;cases hi
  | cons e es ih=>
   intro is h i hi;unfold gy at h;obtain⟨j,h1,h2⟩:=Jw.mp h;obtain⟨js,h3,rfl⟩:=JN.mp h2;rcases JK.mp hi with rfl | hi
   ·obtain⟨x,p,_,k1,k2⟩:=fv h1;exact⟨k2,x,k1⟩
   ·exact ih h3 i hi
 unfold ot at h;split at h
 ·obtain⟨j,h1,rfl⟩:=JN.mp h;intro i hi;have:i=j:=by simpa [aJ] using hi
  subst this;obtain⟨x,p,_,k1,k2⟩:=fv h1;exact⟨k2,x,k1⟩
 ·obtain⟨is,h1,rfl⟩:=JN.mp h;exact many h1
 ·cases h
theorem cn {i:Nat} (h:plainS Γ i=true):dg Γ i=false/\Γ.δ≠some i:=by grind [plainS]
theorem ER.set {o:Ow} {ρ:ai} {S:Sx} {σ:L2.St} {H:Hp} {i:Nat} {v:V} {d:Dt} (er:ER Φ Γ o ρ S σ H) (hp:plainS Γ i=true) (h:RV Φ.K o.A H v d):ER Φ Γ o (ρ.set i (some d)) S (σ.set i (some v)) H where
 len:=by rw[List.length_set,List.length_set];exact er.len
 wa:=er.wa
 da:=er.da
 al:=er.al
 val:=λj e he=>by
  by_cases hj:j=i
  ·subst hj;rw[List.getElem?_set] at he;simp only[if_true] at he;split at he
   ·rename_i cO;cases he;refine⟨v,by rw[Kj (by rw[er.len];exact cO)],?_⟩;rw[(cn hp).1,if_neg (by simp)];exact h
   ·cases he
  ·rw[JP (Ne.symm hj)] at he;obtain⟨w,h1,h2⟩:=er.val j e he;exact⟨w,by rw[JP (Ne.symm hj)];exact h1,h2⟩
 inj:=λa b c e f ha hb h1 h2 h3 h4=>by
  have na:a≠i:=λz=>by rw[z,(cn hp).1] at ha;cases ha
  have nb:b≠i:=λz=>by rw[z,(cn hp).1] at hb;cases hb
  rw[JP (Ne.symm na)] at h1 h3;rw[JP (Ne.symm nb)] at h2 h4;exact er.inj a b c e f ha hb h1 h2 h3 h4
 drw:=er.drw
 drn:=er.drn
 drs:=λj a hj ha=>by rw[JP (λz=>(cn hp).2 (by rw[z];exact hj))];exact er.drs j a hj ha
 dr0:=er.dr0
 ent:=er.ent
theorem pb {o:Ow} {S:Sx} {H:Hp} {Q:L2.St->Hp->Prop}:∀{is:List Nat} {ds:List Dt} {xs:List V} {ρ ρ1:ai} {σ:L2.St},ER Φ Γ o ρ S σ H->(∀i∈is,plainS Γ i=true)->aj Φ.K o.A H xs ds->fR is ds ρ= .ok ρ1->(∀σ1,ER Φ Γ o ρ1 S σ1 H->(∀k,k∉is->σ1[k]?=σ[k]?/\ρ1[k]?=ρ[k]?)->Q σ1 H)->uD is xs σ H Q/\xs.length=is.length
 | [],ds,xs,ρ,ρ1,σ,er,_,hx,h,q=>by
  cases ds with
  | nil=>cases h;rw[hx.nil_inv];exact⟨⟨rfl,q σ er λ_ _=>⟨rfl,rfl⟩⟩,rfl⟩
  | cons=>cases h
 | i::is,ds,xs,ρ,ρ1,σ,er,hp,hx,h,q=>by
  cases ds with
  | nil=>cases h
  | cons d ds=>
   obtain⟨x,r,rfl,h1,h2⟩:=hx.cons_inv;obtain⟨k1,k2⟩:=pb (er.set (hp i JF) h1) (λj hj=>hp j (JD _ hj)) h2 h λσ1 ax hk=>q σ1 ax λk AI=>by
    have n1:k≠i:=λz=>AI (by rw[z];exact JF)
    obtain⟨a1,a2⟩:=hk k λz=>AI (JD _ z)
    rw[JP (Ne.symm n1)] at a1 a2;exact⟨a1,a2⟩
   exact⟨⟨x,r,rfl,k1⟩,by simp[k2]⟩
theorem rW {o:Ow} {S:Sx} {H:Hp} {Q:L2.St->Hp->Prop} {t:Tg} {d:Dt} {x:V} {ρ ρ1:ai} {σ:L2.St} (er:ER Φ Γ o ρ S σ H) (hp:∀i∈aJ t,plainS Γ i=true) (hx:RV Φ.K o.A H x d) (h:cm t d ρ= .ok ρ1) (q:∀σ1,ER Φ Γ o ρ1 S σ1 H->(∀k,k∉aJ t->σ1[k]?=σ[k]?/\ρ1[k]?=ρ[k]?)->Q σ1 H):xW Φ.K t x σ H Q:=by
 cases t with
 | nm i=>
  cases h;exact q _ (er.set (hp i (by simp[aJ])) hx) λk hk=>by
   have n1:k≠i:=λz=>hk (by simp[aJ,z])
   rw[JP (Ne.symm n1),JP (Ne.symm n1)];exact⟨rfl,rfl⟩
 | tp is=>
  unfold cm at h;cases d with
  | tup ds=>obtain⟨a,xs,rfl,h1,h2⟩:=hx.ag;obtain⟨k1,k2⟩:=pb er hp h2 h q;exact⟨a,xs,rfl,dy.of h1,k2,k1⟩
  | _=>cases h
theorem md:∀(is:List Nat) (ds:List Dt) (ρ:ai) (k:Nat),fR is ds ρ≠ .ex k
 | [],[],_,_=>λz=>by cases z
 | [],_::_,_,_=>λz=>by cases z
 | _::_,[],_,_=>λz=>by cases z
 | _::is,_::ds,ρ,k=>md is ds _ k
theorem l9 (t:Tg) (d:Dt) (ρ:ai):∀k,cm t d ρ≠ .ex k:=by
 intro k;cases t with
 | nm i=>intro z;cases z
 | tp is=>
  cases d with
  | tup ds=>exact md is ds ρ k
  | _=>intro z;cases z
theorem lY {Ek:Nat->Prop} {α:Type} {r:R α} {P:α->Prop} (f7:∀k,r≠ .ex k) (h:mR Ek r P):∃d,r= .ok d/\P d:=by grind [ex,R,mR]
theorem nZ {sc:Scope} (gx:GX g Γ X) (hk:sc.kind= .function) (hb:tE sc.names Γ.names (aN Γ sc).1.N Γ.N (aN Γ sc).2=true):dk X sc (aN Γ sc).1.N (aN Γ sc).2:=by grind [tE,aN,GX,dk]
theorem dF {sc:Scope} {C:Addr} {s:Shared} {H:Hp} {fp:List Addr} {xe:Value->Shared->Prop} (gx:GX g Γ X) (B:dk X sc (aN Γ sc).1.N (aN Γ sc).2) (gQ:(aN Γ sc).1.N.Nodup):GX g (aN Γ sc).1 (dW X sc (aN Γ sc).1.N C s H fp xe) where
 N:=rfl
 nd:=gQ
 vis:=λx h=>by
  have hn:(aN Γ sc).1.names=sc.names:=rfl;rw[hn] at h;cases hl:sc.names.lookup x with
  | none=>rw[hl] at h;cases h
  | some kk=>
   have q:=aM (env:=X.env) hl;have q':(dW X sc (aN Γ sc).1.N C s H fp xe).env.scope.names.lookup x=_:=q;by_cases hc:(kk==NameKind.free&&X.env.scope.kind== .function&&X.env.kindOf x==some .cell)=true
   ·rw[if_pos hc] at q';exact .inr (.inl q')
   ·rw[if_neg hc] at q';rw[hl] at h;cases kk with
    | «local»=>exact .inl q'
    | cell=>exact .inr (.inl q')
    | free=>exact .inr (.inr q')
    | globalExplicit=>cases h
    | globalImplicit=>cases h
 loc:=λx h=>by
  have hn:(aN Γ sc).1.names=sc.names:=rfl;rw[hn] at h;cases hl:sc.names.lookup x with
  | none=>rw[hl] at h;cases h
  | some kk=>
   have q:=aM (env:=X.env) hl;have q':(dW X sc (aN Γ sc).1.N C s H fp xe).env.scope.names.lookup x=_:=q;rw[hl] at h;cases kk with
   | «local»=>rw[if_neg (by simp)] at q';exact⟨.inl q',.inr q'⟩
   | cell=>rw[if_neg (by simp)] at q';exact⟨.inr q',.inl (by show (sc.names.lookup x==some .cell)=true;rw[hl];rfl)⟩
   | free=>cases h
   | globalExplicit=>cases h
   | globalImplicit=>cases h
 gl:=λx h=>by
  have hn:(aN Γ sc).1.names=sc.names:=rfl;rw[hn] at h;cases hl:sc.names.lookup x with
  | none=>rw[hl] at h;cases h
  | some kk=>
   have q:=aM (env:=X.env) hl;have q':(dW X sc (aN Γ sc).1.N C s H fp xe).env.scope.names.lookup x=_:=q;rw[hl] at h;cases kk with
   | globalImplicit=>rw[if_neg (by simp)] at q';exact q'
   | «local»=>cases h
   | cell=>cases h
   | free=>cases h
   | globalExplicit=>cases h
 fre:=λx h=>by
  have hn:(aN Γ sc).1.names=sc.names:=rfl;rw[hn] at h;rcases h with hl | hl
  ·have q:=aM (env:=X.env) hl;have q':(dW X sc (aN Γ sc).1.N C s H fp xe).env.scope.names.lookup x=_:=q;rw[if_neg (by simp)] at q';exact .inl q'
  ·have q:=aM (env:=X.env) hl;have q':(dW X sc (aN Γ sc).1.N C s H fp xe).env.scope.names.lookup x=_:=q;by_cases hc:(NameKind.free==NameKind.free&&X.env.scope.kind== .function&&X.env.kindOf x==some .cell)=true
   ·rw[if_pos hc] at q';exact .inl q'
   ·rw[if_neg hc] at q';exact .inr q'
 calm:=gx.calm
 un:=gx.un
 con:=gx.con
 bl:=gx.bl
end
theorem join_some {α:Type} {o:Option (Option α)} {a:α} (h:o.join=some a):o=some (some a):=by
 cases o with
 | none=>cases h
 | some x=>cases x with
  | none=>cases h
  | some y=>simp at h;rw[h]
theorem fL {cap:List (Option Nat)} {ρ:ai} {j:Nat} {d:Dt} (h:(gS cap ρ)[j]?=some (some d)):∃i,cap[j]?=some (some i)/\ρ[i]?=some (some d):=by
 unfold gS at h;rw[JR] at h;cases hc:cap[j]? with
 | none=>rw[hc] at h;cases h
 | some o=>
  rw[hc] at h;cases o with
  | none=>cases h
  | some i=>refine⟨i,rfl,join_some ?_⟩;simpa using h
theorem dc {cap:List (Option Nat)} {σ:L2.St} {i j:Nat} {v:V} (hc:cap[j]?=some (some i)) (h:σ[i]?=some (some v)):(bX cap σ)[j]?=some (some v):=by unfold bX;rw[JR,hc];simp[h]
theorem o9 {δ:Option Nat}:∀{cap:List (Option Nat)} {j:Nat},AS δ cap=some j->∃i,δ=some i/\cap[j]?=some (some i)
 | [],j,h=>by simp[AS] at h
 | o::r,j,h=>by
  unfold AS at h;split at h
  ·rename_i c;rw[Jz] at c;cases h;cases δ with
   | none=>simp at c
   | some i=>exact⟨i,rfl,by simp[JV c.2]⟩
  ·obtain⟨k,h1,rfl⟩:=JN.mp h;obtain⟨i,h2,h3⟩:=o9 h1;exact⟨i,h2,by simpa using h3⟩
section
variable {X:Cx} {Φ:Fm} {Γ:Gm} {F:FT} {g:G} {xv:Nat->Value} {CX:ib} {k:Nat} {K:Frag}
noncomputable def Ow.plus (o:Ow) (D:Addr):Ow:=⟨o.W,λb=>o.A b\/b=D,o.dr⟩
theorem g6 {sc:Scope} {i j:Nat} (hc:(aN Γ sc).2[j]?=some (some i)):dg (aN Γ sc).1 j=dg Γ i:=by grind [aN,C8,dg]
theorem ER.aN {sc:Scope} {o:Ow} {ρ:ai} {S:Sx} {σ:L2.St} {H:Hp} {D:Addr} (er:ER Φ Γ o ρ S σ H) (B:dk X sc (aN Γ sc).1.N (aN Γ sc).2) (gQ:(Rx.aN Γ sc).1.N.Nodup) (hD:H D=none):
  ER Φ (Rx.aN Γ sc).1 (o.plus D) (gS (Rx.aN Γ sc).2 ρ) S (bX (Rx.aN Γ sc).2 σ) (upd H D (.lst [])):=by
 have s:=Mx.b8 hD (.lst []);have av:∀b,(o.A b\/b=D)->o.A b\/H b=none:=λb z=>z.elim .inl λe=> .inr (by rw[e];exact hD)
 refine⟨?_,λa h=> .inl (er.wa a h),λa h=> .inl (er.da a h),λa h=>?_,λj d h=>?_,λj j' a d e hm hm' h1 h2 h3 h4=>?_,λa h=>?_,er.drn,λj a hj ha=>?_,er.dr0,er.ent.trans (aI.of_same s)⟩
 ·unfold bX gS;rw[JH,JH]
 ·rcases h with h | h
  ·obtain⟨x,hx⟩:=er.al a h;exact⟨x,s _ _ hx⟩
  ·subst h;exact⟨_,aA⟩
 ·obtain⟨i,hc,hr⟩:=fL h;obtain⟨v,h1,h2⟩:=er.val i d hr;refine⟨v,dc hc h1,?_⟩;rw[g6 hc];by_cases hm:dg Γ i=true
  ·rw[if_pos hm] at h2 ⊢;cases d with
   | lst ds=>obtain⟨a,xs,e1,e2,e3,e4,e5,e6,e7⟩:=h2;exact⟨a,xs,e1,s _ _ e2,.inl e3,e4,e5,e6,(e7.bC av).same s⟩
   | _=>exact RV.same (RV.bC av h2) s
  ·rw[if_neg hm] at h2 ⊢;exact(h2.bC av).same s
 ·obtain⟨i,hc,hr⟩:=fL h1;obtain⟨i',jr,G7⟩:=fL h2;rw[g6 hc] at hm;rw[g6 jr] at hm';obtain⟨v,k1,_⟩:=er.val i _ hr;obtain⟨v',Gr,_⟩:=er.val i' _ G7;rw[dc hc k1] at h3;rw[dc jr Gr] at h4;cases h3;cases h4;have:=er.inj i i' a d e hm hm' hr G7 k1 Gr;subst this;obtain⟨x,n1,n2,_⟩:=B.wN j i hc;obtain⟨x',B7,DI,_⟩:=B.wN j' i jr;rw[n2] at DI;cases DI;exact iP gQ n1 B7
 ·obtain⟨ns,e1,e2⟩:=er.drw a h;exact⟨ns,e1,s _ _ e2⟩
 ·obtain⟨i,h1,h2⟩:=o9 (show AS Γ.δ (Rx.aN Γ sc).2=some j from hj);exact dc h2 (er.drs i a h1 ha)
theorem uP {sc:Scope} {x:Str} {i:Nat} (B:dk X sc (aN Γ sc).1.N (aN Γ sc).2) (h:dM (aN Γ sc).1 x=some i):(aN Γ sc).2[i]?=some none:=by
 obtain⟨a,b,c⟩:=c7 h;have cO:i < (aN Γ sc).2.length:=by rw[B.len];exact(JC.mp c).1
 cases hc:(aN Γ sc).2[i]? with
 | none=>rw[List.getElem?_eq_none_iff] at hc;lia
 | some o=>
  cases o with
  | none=>rfl
  | some j=>obtain⟨y,n1,_,n3⟩:=B.wN i j hc;rw[c] at n1;cases n1;have hn:(aN Γ sc).1.names=sc.names:=rfl;rw[hn,n3] at a;cases a
theorem oM {cap:List (Option Nat)} {σ:L2.St} {i:Nat} (h:cap[i]?=some none):(bX cap σ)[i]?=some none:=by unfold bX;rw[JR,h];rfl
theorem iC {σ0:L2.St} {t:Tg} {K:Frag} (h:∀i∈aJ t,σ0[i]?=some none):GL σ0 (xW K t):=by
 have many:∀{is:List Nat},(∀i∈is,σ0[i]?=some none)->Bk σ0 (uD is):=by
  intro is
  induction is with
  | nil=>intro _;exact vX
  | cons i is ih=>intro hs;exact tX (hs i JF) (ih λj hj=>hs j (JD _ hj))
 cases t with
 | nm i=>exact wI (h i (by simp[aJ]))
 | tp is=>exact zZ (many h)
theorem kJ {sc:Scope} {e:Expr} {t:Tg} {σ:L2.St} (B:dk X sc (aN Γ sc).1.N (aN Γ sc).2) (h:ot (aN Γ sc).1 e=some t):∀i∈aJ t,(bX (aN Γ sc).2 σ)[i]?=some none:=λi hi=>by obtain⟨_,x,hx⟩:=d9 h i hi;exact oM (uP B hx)
noncomputable def Aa (Γ:Gm) (ρ:ai) (σ:L2.St) (D:Addr):Prop:=∀(j:Nat) (d:List Dt),dg Γ j=true->ρ[j]?=some (some (.lst d))->σ[j]?≠some (some (.ref D))
theorem pz {H:Hp} {D:Addr} {acc eE:List V} (hD:H D=some (.lst acc)):aI (λb=>b=D) H (upd H D (.lst eE)):=⟨λb o h n=>by rw[ar n];exact h,Mx.iG hD⟩
theorem ER.emit {o:Ow} {ρ:ai} {S:Sx} {σ:L2.St} {H:Hp} {D:Addr} {acc eE:List V} (er:ER Φ Γ o ρ S σ H) (hD:H D=some (.lst acc)) (hn:Aa Γ ρ σ D) (oD:o.A D) (nd:o.dr≠some D) (h0:∀x,Φ.H0 D=some x->Φ.d0=some D):ER Φ Γ o ρ S σ (upd H D (.lst eE)):=by
 have up:aI (λb=>b=D) H (upd H D (.lst eE)):=pz hD;have uA:∀b,b=D->o.A b:=λb z=>by rw[z];exact oD
 refine⟨er.len,er.wa,er.da,λa ha=>?_,λj dd h=>?_,er.inj,λa ha=>?_,er.drn,er.drs,er.dr0,?_⟩
 ·obtain⟨x,hx⟩:=er.al a ha;exact up.al hx λz=>⟨_,by rw[z];exact aA⟩
 ·obtain⟨w,h1,h2⟩:=er.val j dd h;refine⟨w,h1,?_⟩;by_cases hm:dg Γ j=true
  ·rw[if_pos hm] at h2 ⊢;cases dd with
   | lst ds=>
    obtain⟨a,xs,e1,e2,e3,e4,e5,e6,e7⟩:=h2;have aD:a≠D:=λz=>hn j ds hm h (by rw[h1,e1,z])
    exact⟨a,xs,e1,up.kp _ _ e2 aD,e3,e4,e5,e6,e7.mono up uA λ_ z=>z⟩
   | _=>exact RV.mono up uA (λ_ z=>z) h2
  ·rw[if_neg hm] at h2 ⊢;exact h2.mono up uA λ_ z=>z
 ·obtain⟨ns,e1,e2⟩:=er.drw a ha;exact⟨ns,e1,up.kp _ _ e2 (λz=>nd (by rw[<-z];exact ha))⟩
 ·refine⟨λb x h n=>up.kp _ _ (er.ent.kp b x h n) λz=>?_,λb xs h=>up.tp _ _ (er.ent.tp b xs h)⟩;subst z;exact n (h0 x h)
theorem Wk.less {A Y Y':Addr->Prop} {J:It} {H:Hp} {ds:List Dt} (w:Wk K A Y J H ds) (h:∀b,Y' b->Y b):Wk K A Y' J H ds:=⟨λi H1 hi e=>w.go i H1 hi (e.mono h),λH1 e=>w.stop H1 (e.mono h),λi x H1 H2 hi e y=>w.yld i x H1 H2 hi (e.mono h) y⟩
theorem IO.GY {Φ:Fm} {Γ:Gm} {o:Ow} {ρ:ai} {S:Sx} {σ:L2.St} {it:jV} {nl:Bool} {H H1:Hp} {ds:List Dt} {J:It} (io:IO Φ.K o it nl H ds J H1) (er:ER Φ Γ o ρ S σ H1) (h:(decide (nu it<=1)||nl)=true):Wk Φ.K o.A o.d J H1 ds:=by
 rcases Bool.or_eq_true_iff.mp h with h | h
 ·exact io.w1 (JB h)
 ·exact(io.w2 h).less er.da
theorem Wk.plus {A Y:Addr->Prop} {J:It} {H:Hp} {ds:List Dt} {D:Addr} (w:Wk K A Y J H ds) (hD:H D=none):Wk K (λb=>A b\/b=D) (λb=>Y b\/b=D) J (upd H D (.lst [])) ds:=by
 have ex:∀H1,aI (λb=>Y b\/b=D) (upd H D (.lst [])) H1->aI Y H H1:=λH1 e=>⟨λb o h n=>by
   have nb:b≠D:=λz=>by rw[z,hD] at h;cases h
   exact e.kp b o (by rw[ar nb];exact h) λz=>z.elim n nb,λb xs h=>by
   have nb:b≠D:=λz=>by rw[z,hD] at h;cases h
   exact e.tp b xs (by rw[ar nb];exact h)⟩
 refine⟨λi H1 hi e=>w.go i H1 hi (ex H1 e),λH1 e=>w.stop H1 (ex H1 e),λi x H1 H2 hi e y=>?_⟩;obtain⟨s,d,hd,hv⟩:=w.yld i x H1 H2 hi (ex H1 e) y;refine⟨s,d,hd,λB hB=>hv B λb hb=>?_⟩;rcases hB b hb with (z | z) | z
 ·exact .inl z
 ·exact .inr (by rw[z];exact hD)
 ·by_cases nb:b=D
  ·exact .inr (by rw[nb];exact hD)
  ·rw[ar nb] at z;exact .inr z
structure wV (Φ:Fm) (Γ:Gm) (o:Ow) (D:Addr) (ρ:ai) (σ:L2.St) (S:Sx) (acc:List V) (es:List Dt) (H:Hp):Prop where
 at':H D=some (.lst acc)
 rv:aj Φ.K o.A H acc es
 er:ER Φ Γ o ρ S σ H
structure Dk (Φ:Fm) (o:Ow) (D:Addr):Prop where
 oD:o.A D
 nd:o.dr≠some D
 h0:∀x,Φ.H0 D=some x->Φ.d0=some D
noncomputable def Yd (o:Ow) (D:Addr):Addr->Prop:=λb=>o.d b\/b=D
theorem ER.back {o:Ow} {ρ ρ':ai} {S S':Sx} {σ σ':L2.St} {H H':Hp} {D:Addr} (fx:Dk Φ o D) (hn:Aa Γ ρ σ D) (er:ER Φ Γ o ρ S σ H) (wo:ER Φ Γ o ρ' S' σ' H') (e:aI (Yd o D) H H'):ER Φ Γ o ρ S' σ H':=by
 have uA:∀b,Yd o D b->o.A b:=λb z=>z.elim (er.da b) λq=>by rw[q];exact fx.oD
 refine⟨er.len,er.wa,er.da,wo.al,λj dd h=>?_,er.inj,wo.drw,wo.drn,er.drs,er.dr0,wo.ent⟩;obtain⟨w,h1,h2⟩:=er.val j dd h;refine⟨w,h1,?_⟩;by_cases hm:dg Γ j=true
 ·rw[if_pos hm] at h2 ⊢;cases dd with
  | lst ds=>
   obtain⟨a,xs,e1,e2,e3,e4,e5,e6,e7⟩:=h2;have aD:a≠D:=λz=>hn j ds hm h (by rw[h1,e1,z])
   exact⟨a,xs,e1,e.kp _ _ e2 (λz=>z.elim e5 aD),e3,e4,e5,e6,e7.mono e uA λ_ z=>z⟩
  | _=>exact RV.mono e uA (λ_ z=>z) h2
 ·rw[if_neg hm] at h2 ⊢;exact h2.mono e uA λ_ z=>z
theorem oJ {tg:Tg} {ts:Cs} {o:Ow} {D:Addr} {ρ:ai} {σ:L2.St} {J:It} {ds:List Dt} {H1:Hp} {tb:TB} {fb:ai->Sx->R (List Dt×Sx)} {m a0:Nat} (fx:Dk Φ o D) (hp:∀i∈aJ tg,plainS Γ i=true) (wk:Wk Φ.K o.A (Yd o D) J H1 ds) (hn:Aa Γ ρ σ D)
  (hb:∀(ρ1:ai) (σ1:L2.St) (S:Sx) (acc:List V) (es:List Dt) (H2:Hp) (P:List Dt×Sx->Prop),Aa Γ ρ1 σ1 D->(∀k,k∉aJ tg->σ1[k]?=σ[k]?/\ρ1[k]?=ρ[k]?)->wV Φ Γ o D ρ1 σ1 S acc es H2->aI (Yd o D) H1 H2->acc.length + m<=a0 + ds.length * m->0 < ds.length->mR Φ.Ek (fb ρ1 S) P->
   ∀Q:Hp->Prop,(∀H5 r fT,P r->wV Φ Γ o D ρ1 σ1 r.2 fT (es++r.1) H5->aI (Yd o D) H2 H5->fT.length<=acc.length + m->Q H5)->tb σ1 H2 Q)
  {S:Sx} {acc:List V} {es:List Dt} {P:List Dt×Sx->Prop} (c:wV Φ Γ o D ρ σ S acc es H1) (ha:acc.length<=a0) (q:mR Φ.Ek (bb (bu tg (bY F ts) fb ρ) ds S) P) {Fn:Hp->Prop}
  (fin:∀H5 r fT,P r->wV Φ Γ o D ρ σ r.2 fT (es++r.1) H5->aI (Yd o D) H1 H5->fT.length<=a0 + ds.length * m->Fn H5):m9 J (xW Φ.K tg) (mz Φ Γ F ts) tb σ Fn H1:=by
 refine⟨λi mm H2=>mm=ds.length - i/\i<=ds.length/\∃S2 lx sG,wV Φ Γ o D ρ σ S2 lx (es++sG) H2/\aI (Yd o D) H1 H2/\lx.length<=a0 + i * m/\mR Φ.Ek (bb (bu tg (bY F ts) fb ρ) (ds.drop i) S2) λr=>P (sG++r.1,r.2),
  ⟨_,rfl,Nat.zero_le _,S,acc,[],by rw[Kd];exact c,aI.refl,by lia,q⟩,?_⟩
 rintro i mm H2 ⟨rfl,hi,S2,lx,sG,c2,ve,gA,q⟩;by_cases cO:i < ds.length
 ·refine .inr ⟨wk.go i H2 cO ve,λx H3 y=>?_⟩;obtain⟨s3,d,hd,hx⟩:=wk.yld i x H2 H3 cO ve y;have su:=hx o.A λb z=> .inl z
  have A4:=c2.er.grow s3;have Fz:ds.drop i=d::ds.drop (i + 1):=by rw[List.drop_eq_getElem_cons cO];congr 1;exact(JC.mp hd).2
  rw[Fz] at q;unfold bb at q;rw[ae] at q;unfold bu at q;rw[ae] at q;obtain⟨ρ1,hρ,q⟩:=lY (l9 _ _ _) q;refine rW A4 hp su hρ λσ1 D8 hk=>?_
  rw[ae] at q;refine⟨o,ρ1,S2,D8,af q λb _ q H4 e4 DT=>?_⟩;have Gu:aI (Yd o D) H3 H4:=e4.mono λb z=> .inl z
  have HY:Aa Γ ρ1 σ1 D:=λj dd hm h1 h2=>by
   have nj:j∉aJ tg:=λz=>by rw[(cn (hp j z)).1] at hm;cases hm
   obtain⟨k1,k2⟩:=hk j nj;rw[k1] at h2;rw[k2] at h1;exact hn j dd hm h1 h2
  have uA:∀b,Yd o D b->o.A b:=λb z=>z.elim (A4.da b) λq=>by rw[q];exact fx.oD
  have Dc:H4 D=some (.lst lx):=e4.kp _ _ (s3 _ _ c2.at') fx.nd;have G5:aj Φ.K o.A H4 lx (es++sG):=(c2.rv.same s3).mono Gu uA λ_ z=>z
  have B6:aI (Yd o D) H2 H4:=(aI.of_same s3).trans Gu;have hmul:ds.length * m=(ds.length - (i + 1)) * m + (i * m + m):=by
   rw[<-Nat.succ_mul i m,<-Nat.add_mul];congr 1
   lia
  have GM:(i + 1) * m=i * m + m:=Nat.succ_mul i m;have hz:0<=(ds.length - (i + 1)) * m:=Nat.zero_le _;cases rR:b.1 with
  | false=>rw[rR] at q;refine C3 ?_;refine⟨ds.length - (i + 1),by lia,rfl,cO,b.2,lx,sG,⟨Dc,G5,c2.er.back fx hn DT B6⟩,ve.trans B6,by lia,?_⟩;simp only[Bool.false_eq_true,if_false] at q;have q:mR Φ.Ek ((bb (bu tg (bY F ts) fb ρ) (ds.drop (i + 1)) b.2).bind λq=>R.ok (([]:List Dt)++q.1,q.2)) _:=q;rw[ae] at q;exact af q λr _ q=>q
  | true=>
   rw[rR] at q;refine Cq ?_;simp only[if_true] at q;refine hb ρ1 σ1 b.2 lx (es++sG) H4 _ HY hk ⟨Dc,G5,DT⟩ (ve.trans B6) (by lia) (by lia) q _ λH5 r fT q c5 e5 l5=>?_
   rw[ae] at q;refine⟨ds.length - (i + 1),by lia,rfl,cO,r.2,fT,sG++r.1,⟨c5.at',by rw[<-JM];exact c5.rv,c2.er.back fx hn c5.er (B6.trans e5)⟩,(ve.trans B6).trans e5,by lia,af q λr' _ q=>?_⟩;have q:P (sG++(r.1++r'.1),r'.2):=q;rw[JM];exact q
 ·have e:i=ds.length:=by lia
  subst e;refine .inl ⟨wk.stop H2 ve,?_⟩;rw[List.drop_length] at q;have q:P (sG++[],S2):=q;rw[Kd] at q;exact fin H2 (sG,S2) lx q c2 ve gA
theorem u4 {o:Ow} {D:Addr} {c:C} {ρ:ai} {σ:L2.St} {S:Sx} {acc:List V} {es:List Dt} {H:Hp} {P:List Dt×Sx->Prop} (fx:Dk Φ o D) (hn:Aa Γ ρ σ D) (cs:wV Φ Γ o D ρ σ S acc es H) (hl:acc.length < sizeLine)
  (q:mR Φ.Ek ((ev F c ρ S).bind λy=>ah (b5 c y.1) (.ok ([y.1],y.2))) P) (Q:Hp->Prop) (fin:∀H5 r fT,P r->wV Φ Γ o D ρ σ r.2 fT (es++r.1) H5->aI (Yd o D) H H5->fT.length<=acc.length + 1->Q H5):qx D (bz Φ Γ F g.fr c) σ H Q:=by
 rw[ae] at q;refine⟨o,ρ,S,cs.er,af q λy _ q v H5 eo5 er6=>?_⟩;obtain⟨gs,q⟩:=aC q;have e5:aI (Yd o D) H H5:=eo5.ext.mono λb z=> .inl z
 have F9:H5 D=some (.lst acc):=eo5.ext.kp _ _ cs.at' fx.nd;have uA:∀b,Yd o D b->o.A b:=λb z=>z.elim (cs.er.da b) λq=>by rw[q];exact fx.oD
 have hv:RV Φ.K o.A H5 v y.1:=by
  unfold b5 at gs;rw[Ke] at gs;rcases gs with gs | gs
  ·exact eo5.jX (JB gs)
  ·exact eo5.val.jy gs
 have up:aI (λb=>b=D) H5 (upd H5 D (.lst (acc++[v]))):=pz F9;refine⟨acc,F9,hl,fin _ ([y.1],y.2) (acc++[v]) q ⟨aA,?_,er6.emit F9 hn fx.oD fx.nd fx.h0⟩ (e5.trans (up.mono λb z=> .inr z)) (by simp)⟩;exact((cs.rv.mono e5 uA λ_ z=>z).append (aj.cons hv aj.nil)).mono up (λb z=>by rw[z];exact fx.oD) λ_ z=>z
theorem pB:2 * lim < sizeLine:=by rw[sizeLine_eq];decide
theorem j5 {sc:Scope} {o:Ow} {ρ:ai} {S:Sx} {σ:L2.St} {H:Hp} {D:Addr} (er:ER Φ Γ o ρ S σ H) (B:dk X sc (aN Γ sc).1.N (aN Γ sc).2) (gQ:(Rx.aN Γ sc).1.N.Nodup) (hD:H D=none):
  Dk Φ (o.plus D) D/\Aa (aN Γ sc).1 (gS (aN Γ sc).2 ρ) (bX (aN Γ sc).2 σ) D/\wV Φ (aN Γ sc).1 (o.plus D) D (gS (aN Γ sc).2 ρ) (bX (aN Γ sc).2 σ) S [] [] (upd H D (.lst [])):=by
 refine⟨⟨.inr rfl,λz=>?_,λx hx=>?_⟩,λj d hm h1 h2=>?_,⟨aA,aj.nil,er.aN B gQ hD⟩⟩
 ·obtain⟨y,hy⟩:=er.al D (er.da D z);rw[hD] at hy;cases hy
 ·by_cases hz:Φ.d0=some D
  ·exact hz
  ·have:=er.ent.kp D x hx hz;rw[hD] at this;cases this
 ·obtain⟨ii,hc,HF⟩:=fL h1;obtain⟨w',k1,k2⟩:=er.val ii _ HF;rw[<-g6 hc,if_pos hm] at k2;obtain⟨a',mv,Fs,AW,_⟩:=k2;rw[dc hc k1] at h2;cases h2;cases Fs;rw[hD] at AW;cases AW
theorem p5 {sc:Scope} {o:Ow} {ρ:ai} {S S2:Sx} {σ:L2.St} {H H1 H2:Hp} {D:Addr} {acc:List V} {ds:List Dt} {c:C} (hc:lk c=0) (io:aI o.d H H1) (ax:ER Φ Γ o ρ S σ H1) (hD:H1 D=none) {ρ2:ai} {σ2:L2.St} (cs:wV Φ (aN Γ sc).1 (o.plus D) D ρ2 σ2 S2 acc ds H2) (ex:aI (Yd (o.plus D) D) (upd H1 D (.lst [])) H2):
  EO Φ.K g.fr o c H (.lst ds) (.ref D) H2/\ER Φ Γ o ρ S2 σ H2:=by
 have ve:aI o.d H1 H2:=⟨λb x h n=>by
   have nb:b≠D:=λz=>by rw[z,hD] at h;cases h
   exact ex.kp b x (by rw[ar nb];exact h) λz=>z.elim n nb,λb xs h=>by
   have nb:b≠D:=λz=>by rw[z,hD] at h;cases h
   exact ex.tp b xs (by rw[ar nb];exact h)⟩
 have nA:¬o.A D:=λz=>by obtain⟨y,hy⟩:=ax.al D z;rw[hD] at hy;cases hy
 have dn:H D=none:=ax.cX io hD;have v0:RV Φ.K o.A H2 (.ref D) (.lst ds):=RV.cR cs.at' nA (cs.rv.weak λb z=> .inl z);refine⟨⟨io.trans ve,v0.weak ax.fh,λ_=>v0,λ_=>v0.one,λ_ rK ed=>?_⟩,ax.step ve (λa ha=>cs.er.drw a ha) cs.er.drn⟩;cases ed;exact⟨D,acc,rfl,dn,cs.at',cs.rv.weak λb z=>z.elim (λz=> .inl (ax.fh b z)) .inr,λ_=>cs.rv⟩
theorem ua {sc:Scope} {tg:Expr} {it:jV} {t:Tg} {ts:Cs} {c:C} (hK:Φ.K=X.K) (B:dk X sc (aN Γ sc).1.N (aN Γ sc).2) (gQ:(aN Γ sc).1.N.Nodup) (A3:ot (aN Γ sc).1 tg=some t) {σ:L2.St} {H:Hp} {Q:VK}
  (q:bz Φ Γ F g.fr (.comp (aN Γ sc).2 it t ts c) σ H Q):kc (aN Γ sc).2 (ll Φ Γ F it) (xW X.K t) (mz Φ (aN Γ sc).1 F ts) (λD=>qx D (bz Φ (aN Γ sc).1 F g.fr c)) σ H Q:=by
 obtain⟨o,ρ,S,er,q⟩:=q;unfold ev at q;rw[ae] at q;refine⟨o,ρ,S,er,af q λp _ q J H1 io ax D hD=>⟨iC (kJ B A3),?_⟩⟩;obtain⟨g1,q⟩:=aC q;rw[Jz] at g1;have jo:=JB g1.1;have wk:=(io.GY ax g1.2).plus hD;rw[ae] at q;have ke:=pB;obtain⟨fx,hn,cs⟩:=j5 (X:=X) ax B gQ hD;rw[<-hK];refine oJ (m:=1) (a0:=0) fx (λi hi=>(d9 A3 i hi).1) wk hn (λρ1 σ1 S1 acc es H2 P n1 hk c1 e1 hl _ q Q fin=>u4 fx n1 c1 (by lia) q Q fin) cs (Nat.zero_le _) q λH5 r fT q c5 e5 l5=>?_
 obtain⟨k1,k2⟩:=p5 (g:=g) (c:= .comp (aN Γ sc).2 it t ts c) rfl io.ext ax hD c5 e5;exact q _ _ k1 k2
theorem pA {sc:Scope} {tg fY:Expr} {it eK:jV} {t t2:Tg} {ts AY:Cs} {c:C} (hK:Φ.K=X.K) (B:dk X sc (aN Γ sc).1.N (aN Γ sc).2) (gQ:(aN Γ sc).1.N.Nodup) (A3:ot (aN Γ sc).1 tg=some t) (Ci:ot (aN Γ sc).1 fY=some t2) (Dh:∀i∈aJ t2,i∉aJ t) {σ:L2.St} {H:Hp} {Q:VK}
  (q:bz Φ Γ F g.fr (.gH (aN Γ sc).2 it t ts eK t2 AY c) σ H Q):kc (aN Γ sc).2 (ll Φ Γ F it) (xW X.K t) (mz Φ (aN Γ sc).1 F ts) (λD=>CH (ll Φ (aN Γ sc).1 F eK) (xW X.K t2) (mz Φ (aN Γ sc).1 F AY) (qx D (bz Φ (aN Γ sc).1 F g.fr c))) σ H Q:=by
 obtain⟨o,ρ,S,er,q⟩:=q;unfold ev at q;rw[ae] at q;refine⟨o,ρ,S,er,af q λp _ q J H1 io ax D hD=>⟨iC (kJ B A3),?_⟩⟩;obtain⟨g1,q⟩:=aC q;rw[Jz] at g1;have jo:=JB g1.1;have wk:=(io.GY ax g1.2).plus hD;rw[ae] at q;have ke:=pB;obtain⟨fx,hn,cs⟩:=j5 (X:=X) ax B gQ hD;rw[<-hK];have hdiv:p.1.length * (lim / p.1.length)<=lim:=Nat.mul_div_le _ _;refine oJ (m:=lim / p.1.length) (a0:=0) fx (λi hi=>(d9 A3 i hi).1) wk hn (λρ1 σ1 S1 acc es H2 P n1 hk c1 e1 hl hp0 q Q fin=>?_) cs (Nat.zero_le _) q λH5 r fT q c5 e5 l5=>?_
 ·refine⟨iC λi hi=>?_,?_⟩
  ·rw[(hk i (Dh i hi)).1];exact kJ B Ci i hi
  ·rw[ae] at q;refine⟨o.plus D,ρ1,S1,c1.er,af q λx2 _ q J2 H3 io2 A4=>?_⟩;obtain⟨g2,q⟩:=aC q;rw[Jz] at g2;have gA:=JB g2.1;have uA:∀b,Yd (o.plus D) D b->(o.plus D).A b:=λb z=>z.elim (A4.da b) λq=> .inr q
   have Ho:=(io2.w0 (JB g2.2)).less uA;have e3:aI (Yd (o.plus D) D) H2 H3:=io2.ext.mono λb z=> .inl z
   have Jf:x2.1.length<=lim / p.1.length:=(Nat.le_div_iff_mul_le hp0).mpr (by rw[Nat.mul_comm];exact gA);refine oJ (m:=1) (a0:=acc.length) fx (λi hi=>(d9 Ci i hi).1) Ho n1 (λρ2 σ2 S2 lx sG H4 P2 n2 hk2 c2 e2 hl _ q Q fin=>u4 fx n2 c2 (by lia) q Q fin) ⟨io2.ext.kp _ _ c1.at' fx.nd,c1.rv.mono e3 uA λ_ z=>z,A4⟩ (JE _) q λH5 r fT q c5 e5 l5=>?_
   exact fin H5 r fT q c5 (e3.trans e5) (by lia)
 ·obtain⟨k1,k2⟩:=p5 (g:=g) (c:= .gH (aN Γ sc).2 it t ts eK t2 AY c) rfl io.ext ax hD c5 e5;exact q _ _ k1 k2
end
noncomputable def qK:Expr->Bool
 | .Starred ..=>false
 | .Slice ..=>false
 | .Set ..=>false
 | .Call (.Name _ _) [] _ _=>false
 | _=>true
theorem bV {e:Expr} (h:qK e=true) (es:List Expr) (env:Env):starEach (e::es) env=(false,eval e env)::starEach es env:=by cases e <;> first | rfl | (simp[qK] at h)
theorem BU {e:Expr} (h:qK e=true):ka e:=by intro o i;cases e <;> first | rfl | (simp[qK] at h)
theorem vo {e:Expr} (h:qK e=true) (op:CmpOp):behindInMarks op e=false:=by cases e <;> first | rfl | (simp[qK] at h)
theorem eZ {e:Expr} (h:qK e=true) (env:Env):∀x,foldedSetIterable e env x=pure x:=by intro x;cases e <;> first | rfl | (simp[qK] at h)
theorem bQ {X:Cx} {Φ:Fm} {Γ:Gm} {F:FT} {e:Expr} {c:C} (h:∀ρ S,cg F c ρ S= .bad):PT X e (ej Φ Γ F c):=λpins s σ H Q I q=>by obtain⟨o,ρ,S,er,q⟩:=q;rw[h] at q;exact q.elim
section
variable {g:G} {xv:Nat->Value} {CX:ib} {k:Nat} {F:FT}
structure Hh (g:G) (F:FT) (n:Nat) (Γ:Gm) (X:Cx) (Φ:Fm):Prop where
 e:∀e c,cE n g Γ e=some c->PE X e (bz Φ Γ F g.fr c)/\PT X e (ej Φ Γ F c)/\qK e=true
 es:∀es cs,uJ n g Γ es=some cs->PA X es (kF Φ Γ F cs)/\cs.len=es.length/\∀e∈es,qK e=true
 ts:∀es cs,vB n g Γ es=some cs->xH X es (mz Φ Γ F cs)
 b:∀o es c pos,cB n g Γ o es=some c->PE X (.BoolOp o es pos) (bz Φ Γ F g.fr c)/\PW X (.BoolOp o es pos) (ej Φ Γ F c)
 i:∀tg e it,cI n g Γ tg e=some it->PI X tg e (ll Φ Γ F it)/\qK e=true
 c:∀f a as c p pos,pf n g Γ f a as=some c->PE X (.Call (.Name f p) (a::as) [] pos) (bz Φ Γ F g.fr c)/\PT X (.Call (.Name f p) (a::as) [] pos) (ej Φ Γ F c)
theorem lV {es:List Expr} {env:Env} {pos:Pos} (h:∀e∈es,qK e=true):(backTo pos (starEach es env)).any (·.1)=false:=by
 induction es with
 | nil=>rfl
 | cons e es ih=>rw[bV (h e JF)];show (false||(backTo pos (starEach es env)).any (·.1))=false;rw[ih λe' z=>h e' (JD _ z)];rfl
theorem iF {x y:Str} (h:(x==y)=false):x≠y:=λe=>by subst e;rw[beq_self_eq_true] at h;cases h
theorem bf {x:Str} (h:bS x=true):(x==("__debug__":Str))=false/\(x==("__classdict__":Str))=false/\x≠"__name__":=by simp_all [bS,iF]
noncomputable def AU:C->Bool
 | .nt _ | .and .. | .or .. | .cmp .. | .ch .. | .var _ | .mvr _ | .call .. | .callD .. | .bi .. | .idx ..=>true
 | _=>false
theorem bo {F:FT} {c:C} {ρ:ai} {S:Sx} (h:AU c=false):cg F c ρ S= .bad:=by cases c <;> first | rfl | cases h
theorem sW:∀t∈uf,Ao t.2.2=true/\bootBuiltins t.1=some (AQ t.2.2):=by
 intro t ht;simp only[uf,JK,JL,or_false] at ht;rcases ht with rfl | rfl | rfl | rfl
 ·exact⟨rfl,PySem.boot_len⟩
 ·exact⟨rfl,PyProof.Rows.boot_sorted⟩
 ·exact⟨rfl,PyProof.Rows.boot_tuple⟩
 ·exact⟨rfl,PyProof.Rows.boot_list⟩
theorem xh {x:Str} {n:Nat} {b:BI} (h:nI x n=some b):Ao b=true/\bootBuiltins x=some (AQ b):=by unfold nI at h;obtain⟨t,h1,rfl⟩:=JN.mp h;have hm:=List.mem_of_find?_eq_some h1;have hp:=List.find?_some h1;rw[Jz] at hp;rw[<-JV hp.1];exact sW t hm
theorem yA {b:BI} (h:Ao b=true):(∃id,AQ b= .builtin id)\/∃T,AQ b= .type T:=by cases b <;> first | exact .inl ⟨_,rfl⟩ | exact .inr ⟨_,rfl⟩ | cases h
theorem eX {x:Str} (h:g.bls.contains x=true):x∈g.bls:=by simpa using h
theorem Fx {X:Cx} {Φ:Fm} {Γ:Gm} {x:Str} {n:Nat} {b:BI} {a:Expr} {as:List Expr} {cs:Cs} {p pos:Pos} (hK:Φ.K=X.K) (gx:GX g Γ X) (hG:Gl X x) (hm:X.mg x=none) (hx:bS x=true) (hb:nI x n=some b) (hs:starEach (a::as) X.env=(false,eval a X.env)::starEach as X.env) (jW:(backTo pos (starEach as X.env)).any (·.1)=false)
  (ha:PA X (a::as) (kF Φ Γ F cs)):PE X (.Call (.Name x p) (a::as) [] pos) (bz Φ Γ F g.fr (.bi b cs)):=by
 obtain⟨h1,h2⟩:=xh hb;obtain⟨n1,n2,n3⟩:=bf hx;have hc:=vA (X:=X) b h1 gx.calm gx.un;rcases yA h1 with ⟨id,e⟩ | ⟨T,e⟩
 ·rw[e] at h2 hc;exact aX (iS hc hG hm h2 ha n3 n1 hs jW) λσ H Q q=>tD hK q
 ·rw[e] at h2 hc;exact aX (qY hc hG hm h2 ha n3 n1 hs jW) λσ H Q q=>tD hK q
theorem ow {X:Cx} {Φ:Fm} {sc:Scope} {N':List Str} {C:Addr} {s:Shared} {H:Hp} {fp:List Addr} (hX:HX g xv CX k F Φ X):HX g xv CX k F Φ (dW X sc N' C s H fp (oY X sc N' (gM Φ xv) C s H fp)) where
 K:=hX.K
 fx:=hX.fx
 room:=hX.room
 cx:=hX.cx
 st:=kR hX.st
 xgx:=λe s' h=>sN h
 xk:=hX.xk
theorem fS (n:Nat):∀(Γ:Gm) (X:Cx) (Φ:Fm),GX g Γ X->HX g xv CX k F Φ X->Hh g F n Γ X Φ:=by
 induction n with
 | zero=>intro Γ X Φ gx hX;exact⟨λe c h=>by simp[cE] at h,λe c h=>by simp[uJ] at h,λe c h=>by simp[vB] at h,λo e c p h=>by simp[cB] at h,λo e c h=>by simp[cI] at h,λf a as c p q h=>by simp[pf] at h⟩
 | succ n ih=>
  intro Γ X Φ gx hX;have I:=ih Γ X Φ gx hX;have hK:=hX.K;have hu:=gx.un;refine⟨λe c h=>?_,λes cs h=>?_,λes cs h=>?_,λo es c pos h=>?_,λtg e it h=>?_,λf a as c p pos h=>?_⟩
  ·
   unfold cE at h;split at h
   ·split at h
    ·cases h;exact⟨nh rfl y8,bQ λρ S=>bo rfl,rfl⟩
    ·cases h;exact⟨nh rfl yQ,bQ λρ S=>bo rfl,rfl⟩
    ·cases h;exact⟨nh rfl Bj,bQ λρ S=>bo rfl,rfl⟩
    ·cases h;exact⟨nh rfl zH,bQ λρ S=>bo rfl,rfl⟩
    ·cases h
   ·
    rename_i x p;split at h
    ·rename_i i hi;obtain⟨v1,v2,v3⟩:=gW hi;obtain⟨n1,n2,n3⟩:=bf v2;have hv:PE X (.Name x p) (gz i):=oj (by rw[gx.N];exact v3) (gx.vis x v1) n1 n2;split at h
     ·cases h
     split at h
     ·rename_i hm;cases h;have:=BS (Φ:=Φ) (F:=F) (fr:=g.fr) hv hm;exact⟨this,g0 hK this (λ_=>rfl) (λρ S=>by rw[cg,ev];cases d5 ρ i <;> rfl),rfl⟩
     ·rename_i hm;cases h;have:=C9 (Φ:=Φ) (F:=F) (fr:=g.fr) hv (by simpa using hm);exact⟨this,g0 hK this (λ_=>rfl) (λρ S=>by rw[cg,ev];cases d5 ρ i <;> rfl),rfl⟩
    ·split at h
     ·rename_i hg;rw[Jz] at hg;obtain⟨d,h1,rfl⟩:=JN.mp h;obtain⟨u,k1,k2,k3⟩:=gx.con x d h1;exact⟨nh k1 (qd (gx.gl x hg.1) k2 k3 (bf hg.2).1),bQ λρ S=>bo rfl,rfl⟩
     ·cases h
   ·obtain⟨a',h1,h⟩:=Jw.mp h;obtain⟨b',h2,h⟩:=Jw.mp h;cases h;exact⟨B3 hK (I.e _ _ h1).1 (I.e _ _ h2).1,bQ λρ S=>bo rfl,rfl⟩
   ·obtain⟨a',h1,h9⟩:=Jw.mp h;clear h;split at h9
    ·cases h9;exact⟨By (I.e _ _ h1).1,bQ λρ S=>bo rfl,rfl⟩
    ·cases h9;exact⟨FE (I.e _ _ h1).1,Dg (I.e _ _ h1).2.1,rfl⟩
    ·cases h9
   ·obtain⟨k1,k2⟩:=I.b _ _ _ _ h;exact⟨k1,k2.pt,rfl⟩
   ·split at h
    ·obtain⟨a',h1,h⟩:=Jw.mp h;obtain⟨b',h2,h⟩:=Jw.mp h;cases h;have hm:=vo (I.e _ _ h2).2.2;exact⟨Bb hK hu (hm _) (I.e _ _ h1).1 (I.e _ _ h2).1,ze hK hu (hm _) (I.e _ _ h1).1 (I.e _ _ h2).1,rfl⟩
    ·cases h
   ·split at h
    ·obtain⟨a',h1,h⟩:=Jw.mp h;obtain⟨b',h2,h⟩:=Jw.mp h;cases h;exact⟨yF hK (I.e _ _ h1).1 (I.e _ _ h2).1,bQ λρ S=>bo rfl,rfl⟩
    ·obtain⟨a',h1,h⟩:=Jw.mp h;obtain⟨b',h2,h⟩:=Jw.mp h;cases h;exact⟨Aq hK (I.e _ _ h1).1 (I.e _ _ h2).1,bQ λρ S=>bo rfl,rfl⟩
    ·obtain⟨a',h1,h⟩:=Jw.mp h;obtain⟨b',h2,h⟩:=Jw.mp h;cases h;have k1:=λpos=>Cw (pos:=pos) hK (BU (I.e _ _ h2).2.2) (I.e _ _ h1).1 (I.e _ _ h2).1
     refine⟨k1 _,g0 hK (k1 _) (λ_=>rfl) (λρ S=>?_),rfl⟩;rw[cg,ev];cases ev F a' ρ S with
     | ok x=>
      simp only[R.ak];cases ev F b' ρ x.2 with
      | ok y=>simp only[R.ak];cases bj x.1 y.1 <;> rfl
      | ex k=>rfl
      | bad=>rfl
     | ex k=>rfl
     | bad=>rfl
   ·obtain⟨dR,h1,h⟩:=Jw.mp h;cases h;exact⟨BY (I.es _ _ h1).1,bQ λρ S=>bo rfl,rfl⟩
   ·obtain⟨dR,h1,h⟩:=Jw.mp h;cases h;exact⟨BA (I.es _ _ h1).1,bQ λρ S=>bo rfl,rfl⟩
   ·split at h
    ·obtain⟨k1,k2⟩:=I.c _ _ _ _ _ _ h;exact⟨k1,k2,rfl⟩
    ·cases h
   ·
    rename_i elt gens sc pos;split at h
    ·rename_i hk;split at h
     ·rename_i tg it ifs;obtain⟨hV,h1,h⟩:=Jw.mp h;obtain⟨i5,h2,h⟩:=Jw.mp h;obtain⟨lg,h3,h⟩:=Jw.mp h;obtain⟨e',h4,h⟩:=Jw.mp h;split at h
      ·rename_i hb;cases h;rw[Jz] at hb;have vW:sc.kind= .function:=JV hk;have B:=nZ gx vW hb.1;have gQ:(aN Γ sc).1.N.Nodup:=JB hb.2;have J:=λC s H fp=>ih (aN Γ sc).1 (dW X sc (aN Γ sc).1.N C s H fp (oY X sc (aN Γ sc).1.N (gM Φ xv) C s H fp)) Φ (dF gx B gQ) (ow hX)
       refine⟨aX (lX (xb:=oY X sc (aN Γ sc).1.N (gM Φ xv)) (body:=λacc env=>fg elt acc env) gx.calm B (iy hX.st hX.xgx) (I.i _ _ _ h1).1 (λlJ acc env=>lS ..) (λC s H fp=>oh (dF gx B gQ) h2) (λC s H fp=>(J C s H fp).ts _ _ h3) (λC s H fp D=>ij ((J C s H fp).e _ _ h4).1) (eZ (I.i _ _ _ h1).2 _)) λσ H Q q=>ua hK B gQ h2 q,bQ λρ S=>bo rfl,rfl⟩
      ·cases h
     ·rename_i tg it ifs fY eK bJ;obtain⟨hV,h1,h⟩:=Jw.mp h;obtain⟨i5,h2,h⟩:=Jw.mp h;obtain⟨lg,h3,h⟩:=Jw.mp h;obtain⟨mG,h5,h⟩:=Jw.mp h;obtain⟨jl,h6,h⟩:=Jw.mp h;obtain⟨mV,h7,h⟩:=Jw.mp h;obtain⟨e',h4,h⟩:=Jw.mp h;split at h
      ·rename_i hb;cases h;rw[Jz,Jz] at hb;have vW:sc.kind= .function:=JV hk;have B:=nZ gx vW hb.1.1;have gQ:(aN Γ sc).1.N.Nodup:=JB hb.1.2;have Dh:∀i∈aJ jl,i∉aJ i5:=λi hi z=>by have:=J9.mp hb.2 i hi;simp[z] at this
       have J:=λC s H fp=>ih (aN Γ sc).1 (dW X sc (aN Γ sc).1.N C s H fp (oY X sc (aN Γ sc).1.N (gM Φ xv) C s H fp)) Φ (dF gx B gQ) (ow hX)
       refine⟨aX (lX (xb:=oY X sc (aN Γ sc).1.N (gM Φ xv)) (body:=λacc env=>nextOf (.ListComp elt [⟨tg,it,ifs,0⟩,⟨fY,eK,bJ,0⟩] sc pos) 1 eK acc env) gx.calm B (iy hX.st hX.xgx) (I.i _ _ _ h1).1 (λlJ acc env=>mI ..) (λC s H fp=>oh (dF gx B gQ) h2) (λC s H fp=>(J C s H fp).ts _ _ h3)
        (λC s H fp D=>pL gx.calm (qm hX.st) ((J C s H fp).i _ _ _ h5).1 (oh (dF gx B gQ) h6) ((J C s H fp).ts _ _ h7) (ij ((J C s H fp).e _ _ h4).1) (eZ ((J C s H fp).i _ _ _ h5).2 _)) (eZ (I.i _ _ _ h1).2 _)) λσ H Q q=>pA hK B gQ h2 h6 Dh q,bQ λρ S=>bo rfl,rfl⟩
      ·cases h
     ·cases h
    ·cases h
   ·cases h
  ·
   unfold uJ at h;split at h
   ·cases h;exact⟨Cv,rfl,λe z=>by cases z⟩
   ·obtain⟨e',h1,h⟩:=Jw.mp h;obtain⟨dR,h2,h⟩:=Jw.mp h;cases h;obtain⟨k1,k2,k3⟩:=I.es _ _ h2;refine⟨yc (bV (I.e _ _ h1).2.2 _ _) (I.e _ _ h1).1 k1,by simp[Cs.len,k2],λe z=>?_⟩;rcases JK.mp z with rfl | z
    ·exact(I.e _ _ h1).2.2
    ·exact k3 e z
  ·
   unfold vB at h;split at h
   ·cases h;exact λpins s σ H Q I q=>xc pins s σ H Q I (by obtain⟨o,ρ,S,er,q⟩:=q;rw[bY] at q;exact q _ aI.refl er)
   ·obtain⟨e',h1,h⟩:=Jw.mp h;cases h;refine λpins s σ H Q I' q=>wK (I.e _ _ h1).2.1 pins s σ H Q I' ?_
    obtain⟨o,ρ,S,er,q⟩:=q;rw[bY] at q;exact⟨o,ρ,S,er,q⟩
   ·cases h
  ·
   unfold cB at h;split at h
   ·rename_i e;have k1:=(I.e _ _ h).1;have k2:=(I.e _ _ h).2.1;refine⟨si k1,?_⟩;cases o with
    | And=>exact wt k2
    | Or=>exact zk k2
   ·rename_i e es f7;obtain⟨e',h1,h⟩:=Jw.mp h;obtain⟨dR,h2,h⟩:=Jw.mp h;cases h;cases es with
    | nil=>exact(f7 rfl).elim
    | cons b rest=>
     obtain⟨k1,k2⟩:=I.b o _ _ pos h2;cases o with
     | And=>exact⟨BV (I.e _ _ h1).1 k1,Ak (I.e _ _ h1).2.1 k2⟩
     | Or=>exact⟨EG (I.e _ _ h1).1 k1,Bu (I.e _ _ h1).2.1 k2⟩
   ·cases h
  ·
   unfold cI at h;split at h
   ·rename_i f p a q;split at h
    ·rename_i hf;have ef:=JV hf;subst ef;split at h
     ·rename_i hg;rw[Jz] at hg;obtain⟨a',h1,h⟩:=Jw.mp h;cases h;exact⟨zG (gx.gl _ hg.1) (gx.bl _ (eX hg.2)) (bV (I.e _ _ h1).2.2 [] _) (I.e _ _ h1).1,rfl⟩
     ·cases h
    split at h
    ·rename_i hf;have ef:=JV hf;subst ef;split at h
     ·split at h
      ·rename_i hg;rw[Jz] at hg;obtain⟨a',h1,h⟩:=Jw.mp h;cases h;exact⟨zL hK (gx.gl _ hg.1) (gx.bl _ (eX hg.2)) (bV (I.e _ _ h1).2.2 [] _) (I.e _ _ h1).1,rfl⟩
      ·cases h
     ·cases h
    ·obtain⟨c,h1,h⟩:=Jw.mp h;cases h;exact⟨tT hK (I.e _ _ h1).1,rfl⟩
   ·rename_i f p a b q;split at h
    ·rename_i hf;have ef:=JV hf;subst ef;split at h
     ·cases h
     ·cases h
    split at h
    ·rename_i hf;have ef:=JV hf;subst ef;split at h
     ·split at h
      ·rename_i hg;rw[Jz] at hg;obtain⟨a',h1,h⟩:=Jw.mp h;obtain⟨b',h2,h⟩:=Jw.mp h;cases h;have e2:=bV (I.e _ _ h2).2.2 [] X.env;exact⟨Cu hK (gx.gl _ hg.1) (gx.bl _ (eX hg.2)) (by rw[bV (I.e _ _ h1).2.2,e2];rfl) e2 (I.e _ _ h1).1 (I.e _ _ h2).1,rfl⟩
      ·cases h
     ·cases h
    ·obtain⟨c,h1,h⟩:=Jw.mp h;cases h;exact⟨tT hK (I.e _ _ h1).1,rfl⟩
   ·obtain⟨c,h1,h⟩:=Jw.mp h;cases h;exact⟨tT hK (I.e _ _ h1).1,(I.e _ _ h1).2.2⟩
  ·
   have tr:∀{c:C},(∀ρ S,cg F c ρ S=(ev F c ρ S).bind λx=>(cK x.1).bind λb=> .ok (b,x.2))->PE X (.Call (.Name f p) (a::as) [] pos) (bz Φ Γ F g.fr c)->PE X (.Call (.Name f p) (a::as) [] pos) (bz Φ Γ F g.fr c)/\PT X (.Call (.Name f p) (a::as) [] pos) (ej Φ Γ F c):=λhe h=>⟨h,g0 hK h (λ_=>rfl) he⟩
   have GJ:∀(b:BI) (cs:Cs) ρ S,cg F (.bi b cs) ρ S=(ev F (.bi b cs) ρ S).bind λx=>(cK x.1).bind λb=> .ok (b,x.2):=λb cs ρ S=>by
    rw[cg,ev];cases fj F cs ρ S with
    | ok x=>simp only[R.ak];cases ez b x.1 <;> rfl
    | ex k=>rfl
    | bad=>rfl
   have HV:∀(f:Nat) (cs:Cs) (ds:List Dt) ρ S,cg F (.call f cs ds) ρ S=(ev F (.call f cs ds) ρ S).bind λx=>(cK x.1).bind λb=> .ok (b,x.2):=λf cs ds ρ S=>by
    rw[cg,ev];cases fj F cs ρ S with
    | ok x=>simp only[R.ak];cases F f (x.1++ds) none <;> rfl
    | ex k=>rfl
    | bad=>rfl
   have Jr:∀(f:Nat) (cs:Cs) ρ S,cg F (.callD f cs) ρ S=(ev F (.callD f cs) ρ S).bind λx=>(cK x.1).bind λb=> .ok (b,x.2):=λf cs ρ S=>by
    rw[cg,ev];cases S.isSome with
    | false=>rfl
    | true=>
     simp only[guard_true];cases fj F cs ρ S with
     | ok x=>
      simp only[R.ak];cases x.2 with
      | none=>rfl
      | some s=>rfl
     | ex k=>rfl
     | bad=>rfl
   unfold pf at h;split at h
   ·rename_i hg;rw[Jz] at hg;have Ej:=gx.gl f hg.1;obtain⟨n1,n2,n3⟩:=bf hg.2;split at h
    ·rename_i kk np ec aT sv;split at h
     ·
      rename_i hdp;have:aT=true:=hdp;subst this;split at h
      ·rename_i y yp;split at h
       ·rename_i i hi;split at h
        ·cases h
        ·cases h
       ·cases h
      ·cases h
     ·rename_i hdp;have:aT=false:=by simpa using hdp
      subst this;split at h
      ·rename_i hn;rw[Jz] at hn;have a1:=JB hn.1;have a2:=JB hn.2;obtain⟨es,h1,h⟩:=Jw.mp h;cases h;obtain⟨k1,k2,k3⟩:=I.es _ _ h1;refine tr (HV _ _ _) (s_call hX Ej n1 sv (Nat.sub_le _ _) ?_ (bV (k3 a JF) _ _) (lV λe z=>k3 e (JD _ z)) k1);rw[k2,List.length_drop,JQ]
       lia
      ·cases h
    ·split at h
     ·rename_i hbl;have hm:=gx.bl f (eX hbl);split at h
      ·cases h
      split at h
      ·rename_i hisi;have ef:=JV hisi;subst ef;split at h
       ·rename_i t tp hnl;split at h
        ·rename_i hg2;rw[Jz] at hg2;obtain⟨T,h1,h⟩:=Jw.mp h;obtain⟨a',h2,h⟩:=Jw.mp h;cases h;have tn:t≠"__name__"/\(t==("__debug__":Str))=false:=by
          unfold oP at h1;split at h1
          ·rename_i e;rw[JV e];exact⟨by decide,by decide⟩
          split at h1
          ·rename_i e;rw[JV e];exact⟨by decide,by decide⟩
          split at h1
          ·rename_i e;rw[JV e];exact⟨by decide,by decide⟩
          split at h1
          ·rename_i e;rw[JV e];exact⟨by decide,by decide⟩
          split at h1
          ·rename_i e;rw[JV e];exact⟨by decide,by decide⟩
          ·cases h1
         exact tr (GJ _ _) (Bc hK Ej hm (gx.gl t hg2.1) (gx.bl t (eX hg2.2)) h1 tn.1 tn.2 (bV (I.e _ _ h2).2.2 _ _) (I.e _ _ h2).1)
        ·cases h
       ·cases h
      ·have regular:∀{c:C},((nI f (as.length + 1)).bind λi=>(uJ n g Γ (a::as)).bind λes=>some (C.bi i es))=some c->PE X (.Call (.Name f p) (a::as) [] pos) (bz Φ Γ F g.fr c)/\PT X (.Call (.Name f p) (a::as) [] pos) (ej Φ Γ F c):=λ {c} h=>by obtain⟨b,h1,h⟩:=Jw.mp h;obtain⟨es,h2,h⟩:=Jw.mp h;cases h;obtain⟨k1,k2,k3⟩:=I.es _ _ h2;exact tr (GJ _ _) (Fx hK gx Ej hm hg.2 h1 (bV (k3 a JF) _ _) (lV λe z=>k3 e (JD _ z)) k1)
       split at h
       ·rename_i r rp b rq;split at h
        ·cases h
        split at h
        ·cases h
        ·exact regular h
       ·rename_i r rp b c rq zz;split at h
        ·cases h
        ·exact regular h
       ·exact regular h
     ·cases h
   ·cases h
end
structure OI (Φ:Fm) (W:Addr->Prop) (o:Ow):Prop where
 w:o.W=W
 d:∀a,Φ.d0=some a->o.dr=some a
structure SO (Φ:Fm) (Γ:Gm) (W:Addr->Prop) (o:Ow) (H:Hp) (ρ':ai) (S':Sx) (σ':L2.St) (H':Hp):Prop where
 ex:∃o',OI Φ W o'/\ER Φ Γ o' ρ' S' σ' H'/\∀b,o'.A b->o.A b\/H b=none
 ext:aI o.A H H'
 al:∀b x,H b=some x->∃y,H' b=some y
structure RO (Φ:Fm) (W:Addr->Prop) (fF:Bool) (d:Dt) (S':Sx) (v:V) (H':Hp):Prop where
 val:RV Φ.K W H' v d
 ent:aI (λb=>Φ.d0=some b) Φ.H0 H'
 drw:∀a,Φ.d0=some a->∃ns:List Int,S'=some ns/\H' a=some (.lst (ns.map V.int))
 dh:fF=true->∀ds,d= .lst ds->∃a xs,v= .ref a/\Φ.H0 a=none/\H' a=some (.lst xs)/\aj Φ.K (λb=>W b\/b=a) H' xs ds
noncomputable def bF (Φ:Fm) (Γ:Gm) (W:Addr->Prop) (fF:Bool) (o:Ow) (H:Hp) (D:Ends) (p:Fl×ai×Sx):Prop:=match p.1 with
 | .next=>∀σ' H',SO Φ Γ W o H p.2.1 p.2.2 σ' H'->D.nx σ' H'
 | .brk=>∀σ' H',SO Φ Γ W o H p.2.1 p.2.2 σ' H'->D.bk σ' H'
 | .cnt=>∀σ' H',SO Φ Γ W o H p.2.1 p.2.2 σ' H'->D.ct σ' H'
 | .ret d=>∀v H',RO Φ W fF d p.2.2 v H'->D.rt v H'
noncomputable def gF (Φ:Fm) (Γ:Gm) (F:FT) (W:Addr->Prop) (fF:Bool) (t:T):TS:=λD σ H=>∃o ρ S,OI Φ W o/\ER Φ Γ o ρ S σ H/\mR Φ.Ek (ex F t ρ S) (bF Φ Γ W fF o H D)
noncomputable def iV (Φ:Fm) (Γ:Gm) (F:FT) (W:Addr->Prop) (fF:Bool) (t:Ts):TS:=λD σ H=>∃o ρ S,OI Φ W o/\ER Φ Γ o ρ S σ H/\mR Φ.Ek (aQ F t ρ S) (bF Φ Γ W fF o H D)
theorem aZ {X:Cx} {e:Stmt} {t t':TS} (h:PS X e t) (hi:∀D σ H,t' D σ H->t D σ H):PS X e t':=λpins s σ H D I q=>h pins s σ H D I (hi D σ H q)
theorem qz {X:Cx} {e:List Stmt} {t t':TS} (h:lT X e t) (hi:∀D σ H,t' D σ H->t D σ H):lT X e t':=λpins s σ H D I q=>h pins s σ H D I (hi D σ H q)
section
variable {X:Cx} {Φ:Fm} {Γ:Gm} {F:FT} {g:G} {W:Addr->Prop} {fF:Bool} {o:Ow} {ρ:ai} {S:Sx} {σ:L2.St} {H H':Hp}
theorem ER.dA (er:ER Φ Γ o ρ S σ H) {H1:Hp} (e:aI o.d H H1):aI o.A H H1:=e.mono er.da
theorem ER.xJ {S1:Sx} {ρ1:ai} {σ1:L2.St} {H1:Hp} (ax:ER Φ Γ o ρ1 S1 σ1 H1) (e:aI o.d H H1):∀b x,H b=some x->∃y,H1 b=some y:=λb x h=>e.al h λz=>ax.al b (ax.da b z)
theorem SO.d7 {S':Sx} {ρ':ai} {σ':L2.St} (oi:OI Φ W o) (er:ER Φ Γ o ρ' S' σ' H') (e:aI o.d H H'):SO Φ Γ W o H ρ' S' σ' H':=⟨⟨o,oi,er,λb z=> .inl z⟩,e.mono er.da,er.xJ e⟩
theorem SO.go {o':Ow} {H1 H2:Hp} {ρ2:ai} {S2:Sx} {σ2:L2.St} (e:aI o.A H H1) (hA:∀b,o'.A b->o.A b\/H b=none) (Cd:∀b x,H b=some x->∃y,H1 b=some y) (h:SO Φ Γ W o' H1 ρ2 S2 σ2 H2):SO Φ Γ W o H ρ2 S2 σ2 H2:=by
 obtain⟨⟨o2,Dm,eG,BW⟩,e2,a2⟩:=h;refine⟨⟨o2,Dm,eG,λb z=>?_⟩,⟨λb x h n=>?_,λb xs h=>e2.tp _ _ (e.tp _ _ h)⟩,λb x h=>?_⟩
 ·rcases BW b z with q | q
  ·exact hA b q
  ·refine .inr ?_;cases hb:H b with
   | none=>rfl
   | some x=>obtain⟨y,hy⟩:=Cd b x hb;rw[q] at hy;cases hy
 ·refine e2.kp _ _ (e.kp _ _ h n) λz=>?_
  rcases hA b z with q | q
  ·exact n q
  ·rw[h] at q;cases q
 ·obtain⟨y,hy⟩:=Cd b x h;exact a2 b y hy
theorem kP {fr:Nat->Bool} {c:C} {d:Dt} {v:V} {H1:Hp} (h:b5 c d=true) (eo:EO Φ.K fr o c H d v H1):RV Φ.K o.A H1 v d:=by
 unfold b5 at h;rw[Ke] at h;rcases h with h | h
 ·exact eo.jX (JB h)
 ·exact eo.val.jy h
theorem xR {i:Nat} {c:C} {st:Stmt} (hp:plainS Γ i=true) (h:PS X st (lC (bz Φ Γ F g.fr c) (cG i))):PS X st (gF Φ Γ F W fF (.asg i c)):=aZ h λD σ H q=>by obtain⟨o,ρ,S,oi,er,q⟩:=q;unfold ex at q;rw[ae] at q;refine⟨o,ρ,S,er,af q λp _ q v H1 eo ax=>?_⟩;obtain⟨gs,q⟩:=aC q;exact q _ _ (SO.d7 oi (ax.set hp (kP gs eo)) eo.ext)
theorem Aj {i:Nat} {c:C} {st:Stmt} (hp:plainS Γ i=true) (hf:fresh g.fr c=true) (h:PS X st (lC (bz Φ Γ F g.fr c) (cG i))):PS X st (gF Φ Γ F W fF (.asgM i c)):=aZ h λD σ H q=>by
 obtain⟨o,ρ,S,oi,er,q⟩:=q;unfold ex at q;rw[ae] at q;refine⟨o,ρ,S,er,af q λp _ q v H1 eo ax=>?_⟩;obtain⟨gs,q⟩:=aC q;have hv:RV Φ.K o.A H1 v p.1:=by
  by_cases hd:∃ds,p.1= .lst ds
  ·obtain⟨ds,hd⟩:=hd;obtain⟨a,xs,rfl,h1,h2,h3,h4⟩:=eo.dh hf ds hd;have na:¬o.A a:=λz=>by obtain⟨x,hx⟩:=er.al a z;rw[h1] at hx;cases hx
   rw[hd] at gs ⊢;refine RV.cR h2 na ?_;unfold gN at gs;rcases Bool.or_eq_true_iff.mp gs with z | z
   ·exact(h4 (JB z)).weak λb w=> .inl w
   ·exact h3.eU z
  ·refine kP ?_ eo;unfold gN at gs;unfold b5;cases hq:p.1 with
   | lst ds=>exact absurd ⟨ds,hq⟩ hd
   | _=>rw[hq] at gs;exact gs
 exact q _ _ (SO.d7 oi (ax.set hp hv) eo.ext)
theorem ER.own {S1:Sx} {H1:Hp} {fr:Nat->Bool} {c:C} {d:Dt} {v:V} {i:Nat} (oi:OI Φ W o) (er:ER Φ Γ o ρ S σ H) (ax:ER Φ Γ o ρ S1 σ H1) (hm:dg Γ i=true) (hδ:Γ.δ≠some i) (hf:fresh fr c=true) (hl:gN c d=true) (eo:EO Φ.K fr o c H d v H1):
  ∃o',OI Φ W o'/\ER Φ Γ o' (ρ.set i (some d)) S1 (σ.set i (some v)) H1/\∀b,o'.A b->o.A b\/H b=none:=by
 by_cases hd:∃ds,d= .lst ds
 ·obtain⟨ds,rfl⟩:=hd;obtain⟨a,xs,rfl,h1,h2,h3,h4⟩:=eo.dh hf ds rfl;have h4:aj Φ.K (λb=>o.A b\/b=a) H1 xs ds:=by
   unfold gN at hl;rcases Bool.or_eq_true_iff.mp hl with l | l
   ·exact h4 (JB l)
   ·exact h3.eU l
  have nA:¬o.A a:=λz=>by obtain⟨y,hy⟩:=er.al a z;rw[h1] at hy;cases hy
  have h0:Φ.H0 a=none:=by
   cases q:Φ.H0 a with
   | none=>rfl
   | some x=>
    by_cases rM:Φ.d0=some a
    ·exact absurd (er.da a (oi.d a rM)) nA
    ·rw[er.ent.kp a x q rM] at h1;cases h1
  have av:∀b,(o.A b\/b=a)->o.A b\/H b=none:=λb z=>z.elim .inl λe=> .inr (by rw[e];exact h1)
  have dA:∀b,o.d b->(o.A b\/b=a):=λb z=> .inl (er.da b z)
  refine⟨⟨o.W,λb=>o.A b\/b=a,o.dr⟩,⟨oi.w,oi.d⟩,⟨?_,λb z=> .inl (er.wa b z),λb z=> .inl (er.da b z),λb z=>?_,λj e he=>?_,λj j' b e e' m m' k1 k2 k3 k4=>?_,ax.drw,ax.drn,λj b hj hb=>?_,ax.dr0,ax.ent⟩,av⟩
  ·rw[List.length_set,List.length_set];exact er.len
  ·rcases z with z | z
   ·exact ax.al b z
   ·rw[z];exact⟨_,h2⟩
  ·by_cases hj:j=i
   ·subst hj;rw[List.getElem?_set] at he;simp only[if_true] at he;split at he
    ·rename_i cO;cases he;refine⟨.ref a,by rw[Kj (by rw[er.len];exact cO)],?_⟩;rw[if_pos hm];exact⟨a,xs,rfl,h2,.inr rfl,λz=>nA (er.wa a z),λz=>nA (er.da a z),h0,h4⟩
    ·cases he
   ·rw[JP (Ne.symm hj)] at he;obtain⟨w,k1,k2⟩:=er.val j e he;refine⟨w,by rw[JP (Ne.symm hj)];exact k1,?_⟩;by_cases hmj:dg Γ j=true
    ·rw[if_pos hmj] at k2 ⊢;cases e with
     | lst es=>obtain⟨b,ys,e1,e2,e3,e4,e5,e6,e7⟩:=k2;exact⟨b,ys,e1,eo.ext.kp _ _ e2 e5,.inl e3,e4,e5,e6,(e7.bC av).mono eo.ext dA λ_ z=>z⟩
     | _=>exact(RV.bC av k2).mono eo.ext dA λ_ z=>z
    ·rw[if_neg hmj] at k2 ⊢;exact(k2.bC av).mono eo.ext dA λ_ z=>z
  ·
   have other:∀{j:Nat} {e:List Dt} {b:Addr},j≠i->dg Γ j=true->(ρ.set i (some (.lst ds)))[j]?=some (some (.lst e))->(σ.set i (some (.ref a)))[j]?=some (some (.ref b))->b≠a/\ρ[j]?=some (some (.lst e))/\σ[j]?=some (some (.ref b)):=λ {j e b} hj m k1 k3=>by rw[JP (Ne.symm hj)] at k1 k3;obtain⟨w,n1,n2⟩:=er.val j _ k1;rw[if_pos m] at n2;obtain⟨b',ys,e1,e2,_⟩:=n2;rw[k3] at n1;cases n1;cases e1;refine⟨λz=>?_,k1,k3⟩;rw[z,h1] at e2;cases e2
   by_cases hj:j=i
   ·by_cases hj':j'=i
    ·rw[hj,hj']
    ·obtain⟨n,_,_⟩:=other hj' m' k2 k4;subst hj;have cO:j < σ.length:=by have:=(JC.mp k3).1;rw[List.length_set] at this;exact this
     rw[Kj cO] at k3;cases k3;exact absurd rfl n
   ·obtain⟨n,p1,p2⟩:=other hj m k1 k3;by_cases hj':j'=i
    ·subst hj';have cO:j' < σ.length:=by have:=(JC.mp k4).1;rw[List.length_set] at this;exact this
     rw[Kj cO] at k4;cases k4;exact absurd rfl n
    ·obtain⟨_,p3,p4⟩:=other hj' m' k2 k4;exact er.inj j j' b e e' m m' p1 p3 p2 p4
  ·rw[JP (λz=>hδ (by rw[z];exact hj))];exact ax.drs j b hj hb
 ·
  have nl:∀e,d≠ .lst e:=λe z=>hd ⟨e,z⟩
  have hv:RV Φ.K o.A H1 v d:=by
   unfold gN at hl;rcases Bool.or_eq_true_iff.mp hl with l | l
   ·exact eo.jX (JB l)
   ·cases d with
    | lst ds=>exact absurd rfl (nl ds)
    | _=>exact eo.val.jy l
  refine⟨o,oi,⟨?_,ax.wa,ax.da,ax.al,λj e he=>?_,λj j' b e e' m m' k1 k2 k3 k4=>?_,ax.drw,ax.drn,λj b hj hb=>?_,ax.dr0,ax.ent⟩,λb z=> .inl z⟩
  ·rw[List.length_set,List.length_set];exact er.len
  ·by_cases hj:j=i
   ·subst hj;rw[List.getElem?_set] at he;simp only[if_true] at he;split at he
    ·rename_i cO;cases he;refine⟨v,by rw[Kj (by rw[er.len];exact cO)],?_⟩;rw[if_pos hm];cases d with
     | lst ds=>exact absurd rfl (nl ds)
     | _=>exact hv
    ·cases he
   ·rw[JP (Ne.symm hj)] at he;obtain⟨w,k1,k2⟩:=ax.val j e he;exact⟨w,by rw[JP (Ne.symm hj)];exact k1,k2⟩
  ·have other:∀{j:Nat} {e:List Dt},(ρ.set i (some d))[j]?=some (some (.lst e))->j≠i:=λ {j e} k1 z=>by
    subst z;rw[List.getElem?_set] at k1;simp only[if_true] at k1;split at k1
    ·cases k1;exact nl e rfl
    ·cases k1
   have n1:=other k1;have n2:=other k2;rw[JP (Ne.symm n1)] at k1 k3;rw[JP (Ne.symm n2)] at k2 k4;exact ax.inj j j' b e e' m m' k1 k2 k3 k4
  ·rw[JP (λz=>hδ (by rw[z];exact hj))];exact ax.drs j b hj hb
theorem yv {i:Nat} {c:C} {st:Stmt} (hm:dg Γ i=true) (hδ:Γ.δ≠some i) (hf:fresh g.fr c=true) (h:PS X st (lC (bz Φ Γ F g.fr c) (cG i))):PS X st (gF Φ Γ F W fF (.asgM i c)):=aZ h λD σ H q=>by obtain⟨o,ρ,S,oi,er,q⟩:=q;unfold ex at q;rw[ae] at q;refine⟨o,ρ,S,er,af q λp _ q v H1 eo ax=>?_⟩;obtain⟨gs,q⟩:=aC q;exact q _ _ ⟨ER.own oi er ax hm hδ hf gs eo,er.dA eo.ext,ax.xJ eo.ext⟩
theorem BO {i j:Nat} {st:Stmt} (hp:plainS Γ i=true) (hm:dg Γ j=true) (h:PS X st (lC (gz j) (cG i))):PS X st (gF Φ Γ F W fF (.mov i j)):=aZ h λD σ H q=>by
 obtain⟨o,ρ,S,oi,er,q⟩:=q;unfold ex at q;rw[ae] at q;obtain⟨d,hd,q⟩:=iq q;obtain⟨v,h1,h2⟩:=er.val j d hd;rw[if_pos hm] at h2;have wO:i≠j:=λz=>by rw[<-z,(cn hp).1] at hm;cases hm
 refine⟨v,h1,?_⟩;by_cases hl:∃ds,d= .lst ds
 ·obtain⟨ds,rfl⟩:=hl;obtain⟨a,xs,rfl,e2,e3,e4,e5,e6,e7⟩:=h2;have sub:∀b,(o.A b/\b≠a)->o.A b:=λb z=>z.1
  refine q _ _ ⟨⟨⟨o.W,λb=>o.A b/\b≠a,o.dr⟩,⟨oi.w,oi.d⟩,⟨?_,λb z=>⟨er.wa b z,λy=>e4 (by rw[<-y];exact z)⟩,λb z=>⟨er.da b z,λy=>e5 (by rw[<-y];exact z)⟩,λb z=>er.al b z.1,λk e he=>?_,λk k' b e e' m m' k1 k2 k3 k4=>?_,er.drw,er.drn,λk b hk hb=>?_,er.dr0,er.ent⟩,λb z=> .inl z.1⟩,aI.refl,λb x hx=>⟨x,hx⟩⟩
  ·simp only[List.length_set];exact er.len
  ·by_cases hk:k=i
   ·subst hk;rw[List.getElem?_set] at he;simp only[if_true] at he;split at he
    ·rename_i cO;cases he;rw[List.length_set] at cO;refine⟨.ref a,by rw[Kj (by rw[er.len];exact cO)],?_⟩;rw[(cn hp).1,if_neg (by simp)];exact RV.cR e2 (λz=>z.2 rfl) (e7.weak sub)
    ·cases he
   ·rw[JP (Ne.symm hk)] at he;have DL:k≠j:=λz=>by subst z;rw[List.getElem?_set] at he;simp only[if_true] at he;split at he <;> cases he
    rw[JP (Ne.symm DL)] at he;obtain⟨w,k1,k2⟩:=er.val k e he;refine⟨w,by rw[JP (Ne.symm hk)];exact k1,?_⟩;by_cases hmk:dg Γ k=true
    ·rw[if_pos hmk] at k2 ⊢;cases e with
     | lst es=>obtain⟨b,ys,n1,n2,n3,n4,n5,n6,n7⟩:=k2;refine⟨b,ys,n1,n2,⟨n3,λz=>?_⟩,n4,n5,n6,n7.weak sub⟩;subst n1 z;exact DL (er.inj k j b es ds hmk hm he hd k1 h1)
     | _=>exact RV.weak k2 sub
    ·rw[if_neg hmk] at k2 ⊢;exact k2.weak sub
  ·have np:∀{k:Nat},dg Γ k=true->k≠i:=λ {k} m z=>by rw[z,(cn hp).1] at m;cases m
   rw[JP (Ne.symm (np m))] at k1 k3;rw[JP (Ne.symm (np m'))] at k2 k4;have nj:∀{k:Nat} {e:List Dt},(ρ.set j none)[k]?=some (some (.lst e))->k≠j:=λ {k e} q z=>by subst z;rw[List.getElem?_set] at q;simp only[if_true] at q;split at q <;> cases q
   rw[JP (Ne.symm (nj k1))] at k1;rw[JP (Ne.symm (nj k2))] at k2;exact er.inj k k' b e e' m m' k1 k2 k3 k4
  ·rw[JP (λz=>(cn hp).2 (by rw[z];exact hk))];exact er.drs k b hk hb
 ·have hv:RV Φ.K o.A H v d:=by
   cases d with
   | lst ds=>exact absurd ⟨ds,rfl⟩ hl
   | _=>exact h2
  have wo:ER Φ Γ o (ρ.set j none) S σ H:=⟨by rw[List.length_set];exact er.len,er.wa,er.da,er.al,λk e he=>by
    have DL:k≠j:=λz=>by subst z;rw[List.getElem?_set] at he;simp only[if_true] at he;split at he <;> cases he
    rw[JP (Ne.symm DL)] at he;exact er.val k e he,λk k' b e e' m m' k1 k2 k3 k4=>by
    have nj:∀{k:Nat} {e:List Dt},(ρ.set j none)[k]?=some (some (.lst e))->k≠j:=λ {k e} q z=>by subst z;rw[List.getElem?_set] at q;simp only[if_true] at q;split at q <;> cases q
    rw[JP (Ne.symm (nj k1))] at k1;rw[JP (Ne.symm (nj k2))] at k2;exact er.inj k k' b e e' m m' k1 k2 k3 k4,er.drw,er.drn,er.drs,er.dr0,er.ent⟩
  exact q _ _ (SO.d7 oi (wo.set hp hv) aI.refl)
end
section
variable {X:Cx} {Φ:Fm} {Γ:Gm} {F:FT} {g:G} {W:Addr->Prop} {fF:Bool} {o:Ow} {ρ:ai} {S:Sx} {σ:L2.St} {H H':Hp}
theorem ie {Ek:Nat->Prop} {ρ:ai} {i:Nat} {P:List Dt->Prop} (h:mR Ek (mH ρ i) P):∃ds,ρ[i]?=some (some (.lst ds))/\P ds:=by
 unfold mH at h;split at h
 ·exact⟨_,by assumption,h⟩
 ·exact h.elim
theorem ue {a:Addr} {u:HO}:∀b x,H b=some x->∃y,upd H a u b=some y:=by grind [aA,ar]
theorem kr {ρ:ai} {i:Nat} (h:isLE ρ i=true):∃ds,ρ[i]?=some (some (.lst ds)):=by
 unfold isLE at h;split at h
 ·exact⟨_,by assumption⟩
 ·cases h
theorem ER.chg {i:Nat} {a:Addr} {ds es:List Dt} {xs ys:List V} (er:ER Φ Γ o ρ S σ H) (hm:dg Γ i=true) (hr:ρ[i]?=some (some (.lst ds))) (hs:σ[i]?=some (some (.ref a))) (hx:H a=some (.lst xs)) (hy:aj Φ.K o.A H ys es):
  ER Φ Γ o (ρ.set i (some (.lst es))) S σ (upd H a (.lst ys))/\aI o.A H (upd H a (.lst ys))/\∀b x,H b=some x->∃y,upd H a (.lst ys) b=some y:=by
 obtain⟨v,h1,h2⟩:=er.val i _ hr;rw[if_pos hm] at h2;rw[hs] at h1;cases h1;obtain⟨b,zs,e1,e2,e3,e4,e5,e6,e7⟩:=h2;cases e1;have up:aI (λb=>b=a) H (upd H a (.lst ys)):=⟨λb o h n=>by rw[ar n];exact h,Mx.iG hx⟩;have sub:∀b,b=a->o.A b:=λb z=>by rw[z];exact e3
 refine⟨⟨by rw[List.length_set];exact er.len,er.wa,er.da,λb hb=>?_,λj d hd=>?_,λj j' b d d' m m' k1 k2 k3 k4=>?_,λb hb=>?_,er.drn,er.drs,er.dr0,?_⟩,up.mono sub,ue⟩
 ·obtain⟨x,hx⟩:=er.al b hb;exact ue b x hx
 ·by_cases hj:j=i
  ·subst hj;rw[List.getElem?_set] at hd;simp only[if_true] at hd;split at hd
   ·cases hd;refine⟨.ref a,hs,?_⟩;rw[if_pos hm];exact⟨a,ys,rfl,aA,e3,e4,e5,e6,hy.mono up sub λ_ z=>z⟩
   ·cases hd
  ·rw[JP (Ne.symm hj)] at hd;obtain⟨w,k1,k2⟩:=er.val j d hd;refine⟨w,k1,?_⟩;by_cases hmj:dg Γ j=true
   ·rw[if_pos hmj] at k2 ⊢;cases d with
    | lst dl=>obtain⟨b,Hf,n1,n2,n3,n4,n5,n6,n7⟩:=k2;refine⟨b,Hf,n1,up.kp _ _ n2 (λz=>?_),n3,n4,n5,n6,n7.mono up sub λ_ z=>z⟩;subst n1 z;exact hj (er.inj j i b dl ds hmj hm hd hr k1 hs)
    | _=>exact RV.mono up sub (λ_ z=>z) k2
   ·rw[if_neg hmj] at k2 ⊢;exact k2.mono up sub λ_ z=>z
 ·have same:∀{j:Nat} {d:List Dt},(ρ.set i (some (.lst es)))[j]?=some (some (.lst d))->∃d',ρ[j]?=some (some (.lst d')):=λ {j d} q=>by
   by_cases hj:j=i
   ·subst hj;exact⟨ds,hr⟩
   ·rw[JP (Ne.symm hj)] at q;exact⟨d,q⟩
  obtain⟨d1,q1⟩:=same k1;obtain⟨d2,q2⟩:=same k2;exact er.inj j j' b d1 d2 m m' q1 q2 k3 k4
 ·obtain⟨ns,n1,n2⟩:=er.drw b hb;exact⟨ns,n1,up.kp _ _ n2 λz=>e5 (by rw[<-z];exact hb)⟩
 ·refine⟨λb x h n=>up.kp _ _ (er.ent.kp b x h n) λz=>?_,λb xs h=>up.tp _ _ (er.ent.tp b xs h)⟩;subst z;rw[h] at e6;cases e6
theorem eY {i:Nat} {ds:List Dt} (er:ER Φ Γ o ρ S σ H) (hm:dg Γ i=true) (hr:ρ[i]?=some (some (.lst ds))):∃a xs,σ[i]?=some (some (.ref a))/\H a=some (.lst xs)/\aj Φ.K o.A H xs ds:=by obtain⟨v,h1,h2⟩:=er.val i _ hr;rw[if_pos hm] at h2;obtain⟨a,xs,e1,e2,e3,e4,e5,e6,e7⟩:=h2;subst e1;exact⟨a,xs,h1,e2,e7⟩
theorem BP {i:Nat} {c:C} {st:Stmt} (hm:dg Γ i=true) (h:PS X st (mx (Fo X.K "list" o6 (gz i) (u9 (bz Φ Γ F g.fr c) AE)))):PS X st (gF Φ Γ F W fF (.app i c)):=aZ h λD σ H q=>by obtain⟨o,ρ,S,oi,er,q⟩:=q;unfold ex at q;obtain⟨gl,q⟩:=aC q;obtain⟨ds,hr⟩:=kr gl;obtain⟨a,xs,h1,h2,h3⟩:=eY er hm hr;rw[ae] at q;refine⟨.ref a,h1,.inl ⟨rfl,_,cW.of h2⟩,o,ρ,S,er,af q λp _ q v H1 eo ax=>?_⟩;obtain⟨gs,q⟩:=aC q;rw[ae] at q;obtain⟨rK,e1,q⟩:=ie q;rw[hr] at e1;cases e1;obtain⟨gl,q⟩:=aC q;obtain⟨a',mv,jZ,jC,xK⟩:=eY ax hm hr;rw[h1] at jZ;cases jZ;have ke:=bK;have xx:=sizeLine_eq;have Jq:lim=1000000:=rfl;have wF:=JB gl;refine⟨a,mv,v,rfl,rfl,jC,by rw[xK.length];lia,?_⟩;obtain⟨k1,k2,k3⟩:=ax.chg hm hr h1 jC (xK.append (aj.cons (kP gs eo) aj.nil));exact q _ _ (SO.go (er.dA eo.ext) (λb z=> .inl z) (ax.xJ eo.ext) ⟨⟨o,oi,k1,λb z=> .inl z⟩,k2,k3⟩)
theorem Bx {i:Nat} {c:C} {st:Stmt} (hm:dg Γ i=true) (h:PS X st (mx (Fo X.K "list" pd (gz i) (u9 (bz Φ Γ F g.fr c) AE)))):PS X st (gF Φ Γ F W fF (.xtd i c)):=aZ h λD σ H q=>by
 obtain⟨o,ρ,S,oi,er,q⟩:=q;unfold ex at q;obtain⟨gl,q⟩:=aC q;obtain⟨ds,hr⟩:=kr gl;obtain⟨a,xs,h1,h2,h3⟩:=eY er hm hr;rw[ae] at q;refine⟨.ref a,h1,.inl ⟨rfl,_,cW.of h2⟩,o,ρ,S,er,af q λp _ q v H1 eo ax=>?_⟩;obtain⟨gs,q⟩:=aC q;rw[ae] at q;obtain⟨rK,e1,q⟩:=ie q;rw[hr] at e1;cases e1;obtain⟨a',mv,jZ,jC,xK⟩:=eY ax hm hr;rw[h1] at jZ;cases jZ;cases hd:p.1 with
 | lst es=>rw[hd] at q eo;obtain⟨gl,q⟩:=aC q;obtain⟨b,zs,rfl,f1,f2⟩:=eo.tP (JB gs);have ke:=bK;have wF:=JB gl;refine⟨a,b,mv,zs,rfl,rfl,jC,f1,by rw[xK.length,f2.length];lia,?_⟩;obtain⟨k1,k2,k3⟩:=ax.chg hm hr h1 jC (xK.append f2);exact q _ _ (SO.go (er.dA eo.ext) (λb z=> .inl z) (ax.xJ eo.ext) ⟨⟨o,oi,k1,λb z=> .inl z⟩,k2,k3⟩)
 | _=>rw[hd] at q;exact q.elim
theorem CC {i:Nat} {st:Stmt} (hm:dg Γ i=true) (h:PS X st (mx (CQ X.K "list" uN (gz i)))):PS X st (gF Φ Γ F W fF (.clr i)):=aZ h λD σ H q=>by obtain⟨o,ρ,S,oi,er,q⟩:=q;unfold ex at q;rw[ae] at q;obtain⟨ds,hr,q⟩:=ie q;obtain⟨a,xs,h1,h2,h3⟩:=eY er hm hr;obtain⟨k1,k2,k3⟩:=er.chg hm hr h1 h2 (aj.nil (K:=Φ.K) (A:=o.A));exact⟨.ref a,h1,.inl ⟨rfl,_,cW.of h2⟩,a,xs,rfl,rfl,h2,q _ _ ⟨⟨o,oi,k1,λb z=> .inl z⟩,k2,k3⟩⟩
theorem yd {i:Nat} {k v:C} {st:Stmt} (hm:dg Γ i=true) (h:PS X st (lC (bz Φ Γ F g.fr v) (CP (gz i) (bz Φ Γ F g.fr k) xY))):PS X st (gF Φ Γ F W fF (.tG i k v)):=aZ h λD σ H q=>by
 obtain⟨o,ρ,S,oi,er,q⟩:=q;unfold ex at q;obtain⟨gl,q⟩:=aC q;obtain⟨ds,hr⟩:=kr gl;obtain⟨a,xs,h1,h2,h3⟩:=eY er hm hr;rw[ae] at q;refine⟨o,ρ,S,er,af q λp _ q x H1 eo ax=>?_⟩;rw[ae] at q;refine⟨.ref a,h1,o,ρ,p.2,ax,af q λp2 _ q y H2 eo2 eG=>?_⟩;obtain⟨gs,q⟩:=aC q;rw[ae] at q;obtain⟨rK,e1,q⟩:=ie q;rw[hr] at e1;cases e1;obtain⟨a',mv,jZ,jC,xK⟩:=eY eG hm hr;rw[h1] at jZ;cases jZ;cases hd:p2.1 with
 | int n=>
  rw[hd] at q eo2;simp only at q;cases hj:rO ds.length n with
  | none=>rw[hj] at q;exact q.elim
  | some j=>
   rw[hj] at q;have hx:RV Φ.K o.A H2 x p.1:=by
    unfold b5 at gs;rw[Ke] at gs;obtain⟨k1,k2,k3⟩:=eo.keep eo2.ext er.fh;rcases gs with gs | gs
    ·exact k2 (JB gs)
    ·exact k1.jy gs
   refine⟨a,mv,n,j,rfl,eo2.val.int_inv,jC,by rw[xK.length];exact hj,?_⟩;obtain⟨k1,k2,k3⟩:=eG.chg hm hr h1 jC (xK.set j hx);exact q _ _ (SO.go (er.dA (eo.ext.trans eo2.ext)) (λb z=> .inl z) (eG.xJ (eo.ext.trans eo2.ext)) ⟨⟨o,oi,k1,λb z=> .inl z⟩,k2,k3⟩)
 | _=>rw[hd] at q;exact q.elim
theorem C4 {c:C} {st:Stmt} (h:PS X st (mx (bz Φ Γ F g.fr c))):PS X st (gF Φ Γ F W fF (.Bv c)):=aZ h λD σ H q=>by obtain⟨o,ρ,S,oi,er,q⟩:=q;unfold ex at q;rw[ae] at q;exact⟨o,ρ,S,er,af q λp _ q v H1 eo ax=>q _ _ (SO.d7 oi ax eo.ext)⟩
theorem ER.h0 {a:Addr} (oi:OI Φ W o) (er:ER Φ Γ o ρ S σ H) (h:H a=none):Φ.H0 a=none:=by
 cases q:Φ.H0 a with
 | none=>rfl
 | some x=>
  by_cases rM:Φ.d0=some a
  ·obtain⟨y,hy⟩:=er.al a (er.da a (oi.d a rM));rw[h] at hy;cases hy
  ·rw[er.ent.kp a x q rM] at h;cases h
theorem xZ {c:C} {st:Stmt} (hf:fF=true->fresh g.fr c=true) (h:PS X st (zE (bz Φ Γ F g.fr c))):PS X st (gF Φ Γ F W fF (.ret c)):=aZ h λD σ H q=>by
 obtain⟨o,ρ,S,oi,er,q⟩:=q;unfold ex at q;rw[ae] at q;refine⟨o,ρ,S,er,af q λp Gg q v H1 eo ax=>?_⟩;have hw:∀b,W b->o.wd b:=λb z=> .inl (by rw[oi.w];exact z)
 refine q _ _ ⟨eo.val.weak hw,ax.ent,λa ha=>ax.drw a (oi.d a ha),λhfF ds ed=>?_⟩;obtain⟨a,xs,h1,h2,h3,h4,_⟩:=eo.dh (hf hfF) ds ed;exact⟨a,xs,h1,er.h0 oi h2,h3,h4.weak λb z=>z.imp (hw b) id⟩
theorem AF {i:Nat} {st:Stmt} (hm:dg Γ i=true) (h:PS X st (zE (gz i))):PS X st (gF Φ Γ F W fF (.ret (.mvr i))):=aZ h λD σ H q=>by
 obtain⟨o,ρ,S,oi,er,q⟩:=q;unfold ex ev at q;rw[ae,ae] at q;obtain⟨d,hd,q⟩:=iq q;obtain⟨v,k1,k2⟩:=er.val i d hd;rw[if_pos hm] at k2;have hw:∀b,W b->o.wd b:=λb z=> .inl (by rw[oi.w];exact z)
 have Iz:∀b,W b->o.A b:=λb z=>er.wa b (by rw[oi.w];exact z)
 refine⟨v,k1,q _ _ ⟨(k2.val er.wa er.da).weak hw,er.ent,λa ha=>er.drw a (oi.d a ha),λhfF ds ed=>?_⟩⟩;simp only at ed;subst ed;obtain⟨a,xs,e1,e2,e3,e4,e5,e6,e7⟩:=k2;exact⟨a,xs,e1,e6,e2,e7.weak λb z=>z.elim (Iz b) λy=>by rw[y];exact e3⟩
theorem yG {st:Stmt} (h:PS X st xX):PS X st (gF Φ Γ F W fF .retN):=aZ h λD σ H q=>by obtain⟨o,ρ,S,oi,er,q⟩:=q;exact q _ _ ⟨RV.eS,er.ent,λa ha=>er.drw a (oi.d a ha),λ_ ds ed=>by cases ed⟩
theorem yi {st:Stmt} (h:PS X st uR):PS X st (gF Φ Γ F W fF .pas):=aZ h λD σ H q=>by obtain⟨o,ρ,S,oi,er,q⟩:=q;exact q _ _ (SO.d7 oi er aI.refl)
theorem B2 {st:Stmt} (h:PS X st uq):PS X st (gF Φ Γ F W fF .brk):=aZ h λD σ H q=>by obtain⟨o,ρ,S,oi,er,q⟩:=q;exact q _ _ (SO.d7 oi er aI.refl)
theorem Bp {st:Stmt} (h:PS X st xS):PS X st (gF Φ Γ F W fF .cnt):=aZ h λD σ H q=>by obtain⟨o,ρ,S,oi,er,q⟩:=q;exact q _ _ (SO.d7 oi er aI.refl)
theorem bF.go {o':Ow} {H1:Hp} {D D':Ends} {p:Fl×ai×Sx} (e:aI o.A H H1) (hA:∀b,o'.A b->o.A b\/H b=none) (Cd:∀b x,H b=some x->∃y,H1 b=some y)
  (hn:∀σ' H',D.nx σ' H'->D'.nx σ' H') (hb:∀σ' H',D.bk σ' H'->D'.bk σ' H') (hc:∀σ' H',D.ct σ' H'->D'.ct σ' H') (hr:∀v H',D.rt v H'->D'.rt v H') (h:bF Φ Γ W fF o H D p):bF Φ Γ W fF o' H1 D' p:=by grind [bF,SO.go]
theorem uU:lT X [] (iV Φ Γ F W fF .nil):=qz vT λD σ H q=>by obtain⟨o,ρ,S,oi,er,q⟩:=q;exact q _ _ (SO.d7 oi er aI.refl)
theorem xg {st:Stmt} {jn:List Stmt} {t:T} {ts:Ts} (h1:PS X st (gF Φ Γ F W fF t)) (h2:lT X jn (iV Φ Γ F W fF ts)):lT X (st::jn) (iV Φ Γ F W fF (.cons t ts)):=qz (lP h1 h2) λD σ H q=>by
 obtain⟨o,ρ,S,oi,er,q⟩:=q;unfold aQ at q;rw[ae] at q;refine⟨o,ρ,S,oi,er,af q λp _ q=>?_⟩;unfold bF;cases hp:p.1 with
 | next=>rw[hp] at q;intro σ1 H1 so;obtain⟨⟨o1,FD,ax,F8⟩,e1,a1⟩:=so;exact⟨o1,p.2.1,p.2.2,FD,ax,af q λp2 _ q=>bF.go e1 F8 a1 (λ_ _ z=>z) (λ_ _ z=>z) (λ_ _ z=>z) (λ_ _ z=>z) q⟩
 | brk=>rw[hp] at q;exact q
 | cnt=>rw[hp] at q;exact q
 | ret d=>rw[hp] at q;exact q
theorem Da {t:C} {a b:Ts} {st:Stmt} (h:PS X st (A8 (ej Φ Γ F t) (iV Φ Γ F W fF a) (iV Φ Γ F W fF b))):PS X st (gF Φ Γ F W fF (.ifs t a b)):=aZ h λD σ H q=>by
 obtain⟨o,ρ,S,oi,er,q⟩:=q;unfold ex at q;rw[ae] at q;refine⟨o,ρ,S,er,af q λp _ q H1 e1 ax=>?_⟩;have go:∀{ts:Ts},mR Φ.Ek (aQ F ts ρ p.2) (bF Φ Γ W fF o H D)->iV Φ Γ F W fF ts D σ H1:=λq=>⟨o,ρ,p.2,oi,ax,af q λp2 _ q=>bF.go (er.dA e1) (λb z=> .inl z) (ax.xJ e1) (λ_ _ z=>z) (λ_ _ z=>z) (λ_ _ z=>z) (λ_ _ z=>z) q⟩
 cases hp:p.1 with
 | true=>rw[hp] at q;exact Cq (go q)
 | false=>rw[hp] at q;exact C3 (go q)
theorem C1 {tg:Tg} {it:jV} {b:Ts} {st:Stmt} (hK:Φ.K=X.K) (hp:∀i∈aJ tg,plainS Γ i=true) (h:PS X st (A9 (ll Φ Γ F it) (xW X.K tg) (iV Φ Γ F W fF b))):PS X st (gF Φ Γ F W fF (.fr tg it b)):=aZ h λD σ H q=>by
 obtain⟨o,ρ,S,oi,er,q⟩:=q;unfold ex at q;rw[ae] at q;refine⟨o,ρ,S,er,af q λp _ q J H1 io ax=>?_⟩;obtain⟨gs,q⟩:=aC q;have wk:Wk Φ.K o.A o.A J H1 p.1:=(Bool.or_eq_true_iff.mp gs).elim (λz=>io.w0 (JB z)) io.w2;refine⟨λi m σ2 H2=>m=p.1.length - i/\i<=p.1.length/\∃o2 ρ2 S2,OI Φ W o2/\ER Φ Γ o2 ρ2 S2 σ2 H2/\aI o.A H1 H2/\(∀b,o2.A b->o.A b\/H1 b=none)/\(∀b x,H1 b=some x->∃y,H2 b=some y)/\mR Φ.Ek (forL tg (aQ F b) (p.1.drop i) ρ2 S2) (bF Φ Γ W fF o H D),
  ⟨_,rfl,Nat.zero_le _,o,ρ,p.2,oi,ax,aI.refl,λb z=> .inl z,λb x hx=>⟨x,hx⟩,q⟩,?_⟩
 rintro i m σ2 H2 ⟨rfl,hi,o2,ρ2,S2,Dm,eG,e2,BW,G4,q⟩;have eH:aI o.A H H2:=(er.dA io.ext).trans e2;have aH:∀b x,H b=some x->∃y,H2 b=some y:=λb x hx=>by obtain⟨y,hy⟩:=ax.xJ io.ext b x hx;exact G4 b y hy
 have A1:∀b,o2.A b->o.A b\/H b=none:=λb z=>(BW b z).imp id λq=>by
  cases hb:H b with
  | none=>rfl
  | some x=>obtain⟨y,hy⟩:=ax.xJ io.ext b x hb;rw[q] at hy;cases hy
 by_cases cO:i < p.1.length
 ·refine .inr ⟨wk.go i H2 cO e2,?_⟩;have hd:∃d,p.1[i]?=some d:=⟨p.1[i],by simp[cO]⟩;obtain⟨d0,rM⟩:=hd;have Fz:p.1.drop i=d0::p.1.drop (i + 1):=by rw[List.drop_eq_getElem_cons cO];congr 1;exact(JC.mp rM).2
  rw[Fz] at q;unfold forL at q;rw[ae] at q;obtain⟨ρ3,hρ,q⟩:=lY (l9 _ _ _) q;rw[ae] at q;refine⟨λσ3 H3=>i + 1<=p.1.length/\∃o3 ρ3 S3,OI Φ W o3/\ER Φ Γ o3 ρ3 S3 σ3 H3/\aI o.A H1 H3/\(∀b,o3.A b->o.A b\/H1 b=none)/\(∀b x,H1 b=some x->∃y,H3 b=some y)/\mR Φ.Ek (forL tg (aQ F b) (p.1.drop (i + 1)) ρ3 S3) (bF Φ Γ W fF o H D),λσ3 H3 z=>⟨p.1.length - (i + 1),by lia,rfl,z⟩,λx H3 y=>?_⟩;obtain⟨s3,d,hd,hx⟩:=wk.yld i x H2 H3 cO e2 y;rw[rM] at hd;cases hd;have su:=hx o2.A BW;rw[<-hK];refine rW (eG.grow s3) hp su hρ λσ4 D8 _=>?_
  refine⟨o2,ρ3,S2,Dm,D8,af q λp2 _ q=>?_⟩;have again:∀{σ5:L2.St} {H5:Hp},SO Φ Γ W o2 H3 p2.2.1 p2.2.2 σ5 H5->mR Φ.Ek (forL tg (aQ F b) (p.1.drop (i + 1)) p2.2.1 p2.2.2) (bF Φ Γ W fF o H D)->i + 1<=p.1.length/\∃o3 ρ3 S3,OI Φ W o3/\ER Φ Γ o3 ρ3 S3 σ5 H5/\aI o.A H1 H5/\(∀b,o3.A b->o.A b\/H1 b=none)/\(∀b x,H1 b=some x->∃y,H5 b=some y)/\mR Φ.Ek (forL tg (aQ F b) (p.1.drop (i + 1)) ρ3 S3) (bF Φ Γ W fF o H D):=λ {σ5 H5} so q=>by have IA:=SO.go (o:=o) (H:=H1) (e2.trans (aI.of_same s3)) BW (λb x hx=>by obtain⟨y,hy⟩:=G4 b x hx;exact⟨y,s3 _ _ hy⟩) so;obtain⟨⟨o5,Ha,DT,Iw⟩,e5,a5⟩:=IA;exact⟨cO,o5,_,_,Ha,DT,e5,Iw,a5,q⟩
  unfold bF;cases dX:p2.1 with
  | next=>rw[dX] at q;exact λσ5 H5 so=>again so q
  | cnt=>rw[dX] at q;exact λσ5 H5 so=>again so q
  | brk=>rw[dX] at q;intro σ5 H5 so;have q:bF Φ Γ W fF o H D (.next,p2.2):=q;unfold bF at q;exact q σ5 H5 (SO.go (eH.trans (aI.of_same s3)) A1 (λb x hx=>by obtain⟨y,hy⟩:=aH b x hx;exact⟨y,s3 _ _ hy⟩) so)
  | ret d=>rw[dX] at q;have q:bF Φ Γ W fF o H D (.ret d,p2.2):=q;exact q
 ·have e:i=p.1.length:=by lia
  subst e;rw[List.drop_length] at q;have q:bF Φ Γ W fF o H D (.next,ρ2,S2):=q;unfold bF at q;exact .inl ⟨wk.stop H2 e2,q _ _ ⟨⟨o2,Dm,eG,A1⟩,eH,aH⟩⟩
end
noncomputable def mP (g:G) (Γ:Gm):Expr->Option (List Nat)
 | .Constant (.str x) _ _=>if x.length<=1000 then some [] else none
 | .FormattedValue (.Name x _) (-1) none _=>if bS x then(match slot Γ x with
  | some i=>some [i]
  | none=>if qk (Γ.names.lookup x) then(match g.cons.lookup x with
   | some (.int n)=>if 0<=n/\n < 10 ^ 19 then some [] else none
   | _=>none) else none) else none
 | _=>none
noncomputable def Es (g:G) (Γ:Gm):List Expr->Option (List Nat)
 | []=>some []
 | e::es=>(mP g Γ e).bind λa=>(Es g Γ es).bind λb=>some (a++b)
noncomputable def mS (g:G) (Γ:Gm):Expr->Option (List Nat)
 | .Constant (.str _) _ _=>some []
 | .JoinedStr (e1::e2::es) _=>if (e1::e2::es).length<=100 then Es g Γ (e1::e2::es) else none
 | _=>none
noncomputable def pV (vs:List Nat) (σ:L2.St):Prop:=∀i∈vs,∃n:Nat,σ[i]?=some (some (.int n))/\n < 10 ^ 19
section
variable {g:G} {xv:Nat->Value} {CX:ib} {k:Nat} {F:FT} {X:Cx} {Φ:Fm} {Γ:Gm} {W:Addr->Prop} {fF:Bool}
theorem vV {e:Expr} {vs:List Nat} (h:mS g Γ e=some vs) (env:Env):starEach [e] env=[(false,eval e env)]:=by unfold mS at h;split at h <;> first | rfl | cases h
theorem Ad (gx:GX g Γ X) {e:Expr} {vs us:List Nat} (h:mP g Γ e=some vs) (hs:∀i∈vs,i∈us):BG X e (pV us):=by
 unfold mP at h;split at h
 ·split at h
  ·rename_i hl;exact w6 hl
  ·cases h
 ·split at h
  ·rename_i ho;obtain⟨n1,n2,n3⟩:=bf ho;split at h
   ·rename_i i hi;cases h;obtain⟨v1,v2,v3⟩:=gW hi;intro pins s σ H Q I hp q;exact vD (by rw[gx.N];exact v3) (gx.vis _ v1) n1 n2 pins s σ H Q I (hp i (hs i (by simp))) q
   ·split at h
    ·rename_i hg;split at h
     ·rename_i n hc;split at h
      ·rename_i hn;obtain⟨u,_,h2,h3⟩:=gx.con _ _ hc;obtain⟨m,rfl⟩:=Int.eq_ofNat_of_zero_le hn.1;exact tI (gx.gl _ hg) h2 h3 (by lia) n1
      ·cases h
     ·cases h
    ·cases h
  ·cases h
 ·cases h
theorem tO (gx:GX g Γ X) {us:List Nat}:∀{es:List Expr} {vs:List Nat},Es g Γ es=some vs->(∀i∈vs,i∈us)->B8 X es (pV us)
 | [],vs,_,_=>wg
 | e::es,vs,h,hs=>by obtain⟨a,h1,h⟩:=Jw.mp h;obtain⟨b,h2,h⟩:=Jw.mp h;cases h;refine tW (Ad gx h1 λi hi=>hs i (List.mem_append_left _ hi)) (tO gx h2 λi hi=>hs i (J5 _ hi)) ?_;unfold mP at h1;split at h1 <;> first | rfl | cases h1
theorem CM (gx:GX g Γ X) {e:Expr} {vs:List Nat} (h:mS g Γ e=some vs):PM X e (pV vs):=by
 unfold mS at h;split at h
 ·exact yq
 ·split at h
  ·rename_i hl;exact rg (tO gx h λi hi=>hi) hl
  ·cases h
 ·cases h
theorem Au {c:Str} {k0:Nat} (h:vj c (g.xs.map (·.1))=some k0):∃ts,g.xs[k0]?=some (c,ts):=by have:=il h;rw[JR] at this;obtain⟨⟨a,ts⟩,h1,h2⟩:=JN.mp this;cases h2;exact⟨ts,h1⟩
theorem Ff {k0:Nat} {vs:List Nat} {ts:List (Str×Bool)} {c:Str} {arg:Expr} {np cL pos:Pos} (hX:HX g xv CX k F Φ X) (gx:GX g Γ X) (hx:g.xs[k0]?=some (c,ts)) (hg:Gl X c) (mD:(c==("__debug__":Str))=false) (he:PM X arg (pV vs)) (q9:starEach [arg] X.env=[(false,eval arg X.env)]):
  PS X (.Raise (some (.Call (.Name c np) [arg] [] cL)) none pos) (gF Φ Γ F W fF (.rs k0 vs)):=by
 intro pins s σ H D I q;obtain⟨o,ρ,S,oi,er,q⟩:=q;unfold ex at q;obtain⟨hm,q⟩:=aC q;obtain⟨C,e1,e2,e3,_⟩:=hX.xk _ _ _ hx;refine tS (E:=gM Φ xv) (I.ok.hd gx.calm) hX.st.pn hg e2 e3 hX.xgx he q9 mD pins s σ H D I ⟨λi hi=>?_,k0,e1.symm,q,er.ent⟩;have:=J9.mp hm i hi;unfold C2 at this;split at this
 ·rename_i n hn;rw[Jz] at this;obtain⟨m,rfl⟩:=Int.eq_ofNat_of_zero_le (JB this.1);obtain⟨v,h1,h2⟩:=er.val i _ hn;have h3:RV Φ.K o.A H v (.int (m:Int)):=by split at h2 <;> exact h2
  rw[h3.int_inv] at h1;exact⟨m,h1,by have:=JB this.2;lia⟩
 ·cases this
end
noncomputable def gf:Expr->Bool
 | .ListComp ..=>true
 | .SetComp ..=>true
 | .DictComp ..=>true
 | _=>false
noncomputable def yX (n:Nat) (g:G) (Γ:Gm) (i:Nat) (e:Expr):Option T:=match e with
 | .Name y p=>match slot Γ y with
  | some j=>if dg Γ j then some (.mov i j) else(cE n g Γ (.Name y p)).bind λc=>some (.asg i c)
  | none=>(cE n g Γ (.Name y p)).bind λc=>some (.asg i c)
 | e=>(cE n g Γ e).bind λc=>some (if fresh g.fr c&&lk c != 0 then .asgM i c else .asg i c)
noncomputable def yV (n:Nat) (g:G) (Γ:Gm) (fF:Bool) (e:Expr):Option T:=match e with
 | .Name y p=>match slot Γ y with
  | some j=>if dg Γ j then(if Γ.δ==some j then none else some (.ret (.mvr j))) else(cE n g Γ (.Name y p)).bind λc=>if fF then none else some (.ret c)
  | none=>(cE n g Γ (.Name y p)).bind λc=>if fF then none else some (.ret c)
 | e=>(cE n g Γ e).bind λc=>if !fF||fresh g.fr c then some (.ret c) else none
mutual
noncomputable def cS:Nat->G->Gm->Bool->Bool->Stmt->Option T
 | 0,_,_,_,_,_=>none
 | n + 1,g,Γ,dp,fF,st=>match st with
  | .Assign tgs e _=>match tgs with
   | [.Name x _]=>(dM Γ x).bind λi=>
     if Γ.δ==some i then none
     else if dg Γ i then(cE n g Γ e).bind λc=>if fresh g.fr c then some (.asgM i c) else none
     else yX n g Γ i e
   | [.Subscript (.Name x _) k _]=>(slot Γ x).bind λi=>if dg Γ i then(cE n g Γ e).bind λv'=>(cE n g Γ k).bind λk'=>some (.tG i k' v') else none
   | _=>none
  | .Expr ex _=>match ex with
   | .Call (.Attribute (.Name x _) m ap) [a] [] cp=>(slot Γ x).bind λi=>if dg Γ i&&ap.endLine==cp.line then(cE n g Γ a).bind λa'=>
     (if m==("append":Str) then some (.app i a') else if m==("extend":Str) then some (.xtd i a') else none) else none
   | .Call (.Attribute (.Name x _) m ap) [] [] cp=>(slot Γ x).bind λi=>if dg Γ i&&ap.endLine==cp.line&&m==("clear":Str) then some (.clr i) else none
   | e=>if gf e then none else(cE n g Γ e).bind λc=>some (.Bv c)
  | .Return (some e) _=>yV n g Γ fF e
  | .Return none _=>some .retN
  | .If t a b _=>(cE n g Γ t).bind λt'=>(xQ n g Γ dp fF a).bind λa'=>(xQ n g Γ dp fF b).bind λb'=>some (.ifs t' a' b')
  | .For tg it b els _=>match els with
   | []=>(cI n g Γ tg it).bind λhV=>(ot Γ tg).bind λi5=>(xQ n g Γ dp fF b).bind λb'=>some (.fr i5 hV b')
   | _=>none
  | .Raise ra rb _=>match ra,rb with
   | some (.Call (.Name c _) [arg] [] _),none=>if qk (Γ.names.lookup c)&&bS c then(vj c (g.xs.map (·.1))).bind λk=>(mS g Γ arg).bind λvs=>some (.rs k vs) else none
   | _,_=>none
  | .Break _=>some .brk
  | .Continue _=>some .cnt
  | .Pass _=>some .pas
  | _=>none
noncomputable def xQ:Nat->G->Gm->Bool->Bool->List Stmt->Option Ts
 | 0,_,_,_,_,_=>none
 | n + 1,g,Γ,dp,fF,jn=>match jn with
  | []=>some .nil
  | st::jn=>(cS n g Γ dp fF st).bind λt=>(xQ n g Γ dp fF jn).bind λts=>some (.cons t ts)
end
section
variable {g:G} {xv:Nat->Value} {CX:ib} {k:Nat} {F:FT} {X:Cx} {Φ:Fm} {Γ:Gm} {W:Addr->Prop}
theorem je {e:Expr} (h:gf e=false) (t:Option Expr) (l:Nat) (env:Env):swapsWith e t l env=pure false:=by cases e <;> first | rfl | (simp[gf] at h)
theorem qW {e:Expr} {t:Expr} (ht:∀x p,t≠ .Name x p) (l:Nat) (env:Env):swapsWith e (some t) l env=pure false:=by cases e <;> first | rfl | (cases t <;> first | rfl | exact absurd rfl (ht _ _))
theorem mT {n:Nat} {elt:Expr} {gens:List Comprehension} {sc:Scope} {cL:Pos} {c:C} (h:cE (n + 1) g Γ (.ListComp elt gens sc cL)=some c):sc.kind= .function/\tE sc.names Γ.names (aN Γ sc).1.N Γ.N (aN Γ sc).2=true/\(aN Γ sc).1.N.Nodup/\
  ((∃tg it ifs hV i5 lg e',gens=[⟨tg,it,ifs,0⟩]/\cI n g Γ tg it=some hV/\ot (aN Γ sc).1 tg=some i5/\vB n g (aN Γ sc).1 ifs=some lg/\cE n g (aN Γ sc).1 elt=some e'/\c= .comp (aN Γ sc).2 hV i5 lg e')\/
   (∃tg it ifs fY eK bJ hV i5 lg mG jl mV e',gens=[⟨tg,it,ifs,0⟩,⟨fY,eK,bJ,0⟩]/\cI n g Γ tg it=some hV/\ot (aN Γ sc).1 tg=some i5/\vB n g (aN Γ sc).1 ifs=some lg/\cI n g (aN Γ sc).1 fY eK=some mG/\ot (aN Γ sc).1 fY=some jl/\vB n g (aN Γ sc).1 bJ=some mV/\cE n g (aN Γ sc).1 elt=some e'/\
   (∀i∈aJ jl,i∉aJ i5)/\c= .gH (aN Γ sc).2 hV i5 lg mG jl mV e')):=by
 unfold cE at h;simp only at h;split at h
 ·rename_i hk;split at h
  ·rename_i tg it ifs;obtain⟨hV,h1,h⟩:=Jw.mp h;obtain⟨i5,h2,h⟩:=Jw.mp h;obtain⟨lg,h3,h⟩:=Jw.mp h;obtain⟨e',h4,h⟩:=Jw.mp h;split at h
   ·rename_i hb;cases h;rw[Jz] at hb;exact⟨JV hk,hb.1,JB hb.2,.inl ⟨tg,it,ifs,hV,i5,lg,e',rfl,h1,h2,h3,h4,rfl⟩⟩
   ·cases h
  ·rename_i tg it ifs fY eK bJ;obtain⟨hV,h1,h⟩:=Jw.mp h;obtain⟨i5,h2,h⟩:=Jw.mp h;obtain⟨lg,h3,h⟩:=Jw.mp h;obtain⟨mG,h5,h⟩:=Jw.mp h;obtain⟨jl,h6,h⟩:=Jw.mp h;obtain⟨mV,h7,h⟩:=Jw.mp h;obtain⟨e',h4,h⟩:=Jw.mp h;split at h
   ·rename_i hb;cases h;rw[Jz,Jz] at hb;refine⟨JV hk,hb.1.1,JB hb.1.2,.inr ⟨tg,it,ifs,fY,eK,bJ,hV,i5,lg,mG,jl,mV,e',rfl,h1,h2,h3,h5,h6,h7,h4,λi hi z=>?_,rfl⟩⟩;have:=J9.mp hb.2 i hi;simp[z] at this
   ·cases h
  ·cases h
 ·cases h
theorem fq {n i:Nat} {x:Str} {e:Expr} {c:C} {pos' pos:Pos} (gx:GX g Γ X) (hX:HX g xv CX k F Φ X) (hs:dM Γ x=some i) (h:cE n g Γ e=some c):PS X (.Assign [.Name x pos'] e pos) (lC (bz Φ Γ F g.fr c) (cG i)):=by
 have S:=fS (F:=F) n Γ X Φ gx hX;obtain⟨a1,a2,a3⟩:=c7 hs;obtain⟨l1,l2⟩:=gx.loc x a1;have hN:X.N.Nodup:=gx.N▸gx.nd;have hi:X.N[i]?=some x:=by rw[gx.N];exact a3
 by_cases hc:gf e=true
 ·cases n with
  | zero=>simp[cE] at h
  | succ n=>
   cases e with
   | ListComp elt gens sc cL=>
    have II:=(S.e _ _ h).1;obtain⟨hk,hb,gQ,BN⟩:=mT h;cases zf:(X.env.blockKind== .function&&X.env.kindOf x==some .local&&pos'.line==(Expr.ListComp elt gens sc cL).pos.line&& !(sc.names.any λ(n,k)=>n==x&&(k== .local||k== .cell))) with
    | false=>exact kN hN hi l1 II (by show pure (X.env.blockKind== .function&&X.env.kindOf x==some .local&&pos'.line==(Expr.ListComp elt gens sc cL).pos.line&& !(sc.names.any λ(n,k)=>n==x&&(k== .local||k== .cell)))=_;rw[zf]) l2
    | true=>
     have hl:X.env.kindOf x=some .local:=by rw[Jz,Jz,Jz] at zf;exact JV zf.1.1.2
     have B:=nZ gx hk hb;have S1:=fS (F:=F) n Γ X Φ gx hX;have J:=λC s H fp=>fS (F:=F) n (aN Γ sc).1 (dW X sc (aN Γ sc).1.N C s H fp (oY X sc (aN Γ sc).1.N (gM Φ xv) C s H fp)) Φ (dF gx B gQ) (ow hX)
     rcases BN with ⟨tg,it,ifs,hV,i5,lg,e',rfl,h1,h2,h3,h4,rfl⟩ | ⟨tg,it,ifs,fY,eK,bJ,hV,i5,lg,mG,jl,mV,e',rfl,h1,h2,h3,h5,h6,h7,h4,Dh,rfl⟩
     ·refine aZ (gJ (xb:=oY X sc (aN Γ sc).1.N (gM Φ xv)) (body:=λacc env=>fg elt acc env) (i:=i) gx.calm hN hi hl B (iy hX.st hX.xgx) (S1.i _ _ _ h1).1 (λlJ acc env=>lS ..) (λC s H fp=>oh (dF gx B gQ) h2) (λC s H fp=>(J C s H fp).ts _ _ h3) (λC s H fp D=>ij ((J C s H fp).e _ _ h4).1) (eZ (S1.i _ _ _ h1).2 _) ?_) λD σ H q=>ua hX.K B gQ h2 q
      show pure (X.env.blockKind== .function&&X.env.kindOf x==some .local&&pos'.line==(Expr.ListComp elt [⟨tg,it,ifs,0⟩] sc cL).pos.line&& !(sc.names.any λ(n,k)=>n==x&&(k== .local||k== .cell)))=_;rw[zf]
     ·refine aZ (gJ (xb:=oY X sc (aN Γ sc).1.N (gM Φ xv)) (body:=λacc env=>nextOf (.ListComp elt [⟨tg,it,ifs,0⟩,⟨fY,eK,bJ,0⟩] sc cL) 1 eK acc env) (i:=i) gx.calm hN hi hl B (iy hX.st hX.xgx) (S1.i _ _ _ h1).1 (λlJ acc env=>mI ..) (λC s H fp=>oh (dF gx B gQ) h2) (λC s H fp=>(J C s H fp).ts _ _ h3)
       (λC s H fp D=>pL gx.calm (qm hX.st) ((J C s H fp).i _ _ _ h5).1 (oh (dF gx B gQ) h6) ((J C s H fp).ts _ _ h7) (ij ((J C s H fp).e _ _ h4).1) (eZ ((J C s H fp).i _ _ _ h5).2 _)) (eZ (S1.i _ _ _ h1).2 _) ?_) λD σ H q=>pA hX.K B gQ h2 h6 Dh q
      show pure (X.env.blockKind== .function&&X.env.kindOf x==some .local&&pos'.line==(Expr.ListComp elt [⟨tg,it,ifs,0⟩,⟨fY,eK,bJ,0⟩] sc cL).pos.line&& !(sc.names.any λ(n,k)=>n==x&&(k== .local||k== .cell)))=_;rw[zf]
   | SetComp=>simp[cE] at h
   | DictComp=>simp[cE] at h
   | _=>simp[gf] at hc
 ·exact kN hN hi l1 (S.e _ _ h).1 (je (by simpa using hc) _ _ _) l2
structure E6 (g:G) (F:FT) (n:Nat) (Γ:Gm) (X:Cx) (Φ:Fm) (W:Addr->Prop) (dp fF:Bool):Prop where
 s:∀st t,cS n g Γ dp fF st=some t->PS X st (gF Φ Γ F W fF t)
 ss:∀jn ts,xQ n g Γ dp fF jn=some ts->lT X jn (iV Φ Γ F W fF ts)
theorem gp {x:Str} {i:Nat} {p:Pos} (gx:GX g Γ X) (h:slot Γ x=some i):PE X (.Name x p) (gz i):=by obtain⟨v1,v2,v3⟩:=gW h;obtain⟨n1,n2,n3⟩:=bf v2;exact oj (by rw[gx.N];exact v3) (gx.vis x v1) n1 n2
theorem zl {n i:Nat} {x:Str} {e:Expr} {t:T} {pos' pos:Pos} {fF:Bool} (gx:GX g Γ X) (hX:HX g xv CX k F Φ X) (hs:dM Γ x=some i) (hp:plainS Γ i=true) (h:yX n g Γ i e=some t):PS X (.Assign [.Name x pos'] e pos) (gF Φ Γ F W fF t):=by
 have Ao:∀{e:Expr} {t:T},((cE n g Γ e).bind λc=>some (T.asg i c))=some t->PS X (.Assign [.Name x pos'] e pos) (gF Φ Γ F W fF t):=λ {e t} h=>by obtain⟨c,h1,h⟩:=Jw.mp h;cases h;exact xR hp (fq gx hX hs h1)
 unfold yX at h;split at h
 ·rename_i y p;split at h
  ·rename_i j hj;split at h
   ·rename_i hm;cases h;obtain⟨a1,a2,a3⟩:=c7 hs;obtain⟨l1,l2⟩:=gx.loc x a1;exact BO hp hm (kN (gx.N▸gx.nd) (by rw[gx.N];exact a3) l1 (gp gx hj) rfl l2)
   ·exact Ao h
  ·exact Ao h
 ·obtain⟨c,h1,h⟩:=Jw.mp h;cases h;split
  ·rename_i hf;rw[Jz] at hf;exact Aj hp hf.1 (fq gx hX hs h1)
  ·exact xR hp (fq gx hX hs h1)
theorem Af {n:Nat} {e:Expr} {t:T} {pos:Pos} {fF:Bool} (gx:GX g Γ X) (hX:HX g xv CX k F Φ X) (h:yV n g Γ fF e=some t):PS X (.Return (some e) pos) (gF Φ Γ F W fF t):=by
 have S:=fS (F:=F) n Γ X Φ gx hX;have plain:∀{e:Expr} {t:T},((cE n g Γ e).bind λc=>if fF then none else some (T.ret c))=some t->PS X (.Return (some e) pos) (gF Φ Γ F W fF t):=λ {e t} h=>by
  obtain⟨c,h1,h⟩:=Jw.mp h;split at h
  ·cases h
  ·rename_i hf;cases h;exact xZ (λz=>absurd z hf) (jh (S.e _ _ h1).1)
 unfold yV at h;split at h
 ·rename_i y p;split at h
  ·rename_i j hj;split at h
   ·rename_i hm;split at h
    ·cases h
    ·cases h;exact AF hm (jh (gp gx hj))
   ·exact plain h
  ·exact plain h
 ·obtain⟨c,h1,h⟩:=Jw.mp h;split at h
  ·rename_i hf;cases h;refine xZ (λz=>?_) (jh (S.e _ _ h1).1);rw[z] at hf;simpa using hf
  ·cases h
theorem mn {dp fF:Bool} (n:Nat):∀(Γ:Gm) (X:Cx) (Φ:Fm),GX g Γ X->HX g xv CX k F Φ X->(dp=false->Φ.d0=none)->PassesOwn (model X.prog X.w) X.A X.env X.xe->E6 g F n Γ X Φ W dp fF:=by
 induction n with
 | zero=>intro Γ X Φ gx hX hd ho;exact⟨λst t h=>by simp[cS] at h,λst t h=>by simp[xQ] at h⟩
 | succ n ih=>
  intro Γ X Φ gx hX hd ho;have I:=ih Γ X Φ gx hX hd ho;have S:=fS (F:=F) n Γ X Φ gx hX;have hK:=hX.K;refine⟨λst t h=>?_,λjn ts h=>?_⟩
  ·unfold cS at h;split at h
   ·split at h
    ·rename_i e pos x xp;obtain⟨i,hs,h⟩:=Jw.mp h;split at h
     ·cases h
     ·rename_i hδ;have hδ':Γ.δ≠some i:=λz=>hδ (by rw[z];exact beq_self_eq_true _)
      split at h
      ·rename_i hm;obtain⟨c,h1,h⟩:=Jw.mp h;split at h
       ·rename_i hf;cases h;exact yv hm hδ' hf (fq gx hX hs h1)
       ·cases h
      ·rename_i hm;refine zl gx hX hs ?_ h;unfold plainS;rw[Jz];exact⟨by simpa using hm,by simpa using hδ'⟩
    ·rename_i v pos tg0 x xp kx sp;obtain⟨i,hs,h⟩:=Jw.mp h;split at h
     ·rename_i hm;obtain⟨v',h1,h⟩:=Jw.mp h;obtain⟨k',h2,h⟩:=Jw.mp h;cases h;have HC:=(S.e _ _ h2).2.2;refine yd hm (zJ (S.e _ _ h1).1 (Al (gp gx hs) (S.e _ _ h2).1 set_list (by intro _;cases kx <;> first | rfl | (simp[qK] at HC))) (show swapsWithSole [Expr.Subscript (Expr.Name x xp) kx sp] v pos.line X.env=pure false from qW (e:=v) (t:=Expr.Subscript (Expr.Name x xp) kx sp) (λx p z=>by cases z) pos.line X.env) ?_);cases v <;> rfl
     ·cases h
    ·cases h
   ·split at h
    ·rename_i pos x xp m ap a cp;obtain⟨i,hs,h⟩:=Jw.mp h;split at h
     ·rename_i hm;rw[Jz] at hm;obtain⟨a',h1,h9⟩:=Jw.mp h;clear h;have q9:=bV (S.e _ _ h1).2.2 [] X.env;split at h9
      ·rename_i hma;have em:=JV hma;subst em;cases h9;exact BP hm.1 (iw (xq PySem.F.plainAttrs_list PySem.F.slot_list_append PySem.F.type_list_append jz (gp gx hs) (bG (S.e _ _ h1).1 d8 q9) rfl (by rw[q9];rfl) hm.2 q9 rfl))
      split at h9
      ·rename_i hma;have em:=JV hma;subst em;cases h9;exact Bx hm.1 (iw (xq PySem.F.plainAttrs_list PySem.F.slot_list_extend PySem.F.type_list_extend rn (gp gx hs) (bG (S.e _ _ h1).1 d8 q9) rfl (by rw[q9];rfl) hm.2 q9 rfl))
      ·cases h9
     ·cases h
    ·rename_i pos x xp m ap cp;obtain⟨i,hs,h9⟩:=Jw.mp h;clear h;split at h9
     ·rename_i hm;rw[Jz,Jz] at hm;have em:=JV hm.2;subst em;cases h9;exact CC hm.1.1 (iw (Ay PySem.F.plainAttrs_list PySem.F.slot_list_clear PySem.F.type_list_clear r8 (gp gx hs) rfl hm.1.2))
     ·cases h9
    ·split at h
     ·cases h
     ·rename_i hc;obtain⟨c,h1,h⟩:=Jw.mp h;cases h;exact C4 (iw (S.e _ _ h1).1 (je (by simpa using hc) _ _ _))
   ·exact Af gx hX h
   ·cases h;exact yG wJ
   ·obtain⟨t',h1,h⟩:=Jw.mp h;obtain⟨a',h2,h⟩:=Jw.mp h;obtain⟨b',h3,h⟩:=Jw.mp h;cases h;exact Da (Ce (S.e _ _ h1).2.1 (I.ss _ _ h2) (I.ss _ _ h3))
   ·split at h
    ·obtain⟨hV,h1,h⟩:=Jw.mp h;obtain⟨i5,h2,h⟩:=Jw.mp h;obtain⟨b',h3,h⟩:=Jw.mp h;cases h;exact C1 hK (λi hi=>(d9 h2 i hi).1) (zF ho gx.calm (S.i _ _ _ h1).1 (oh gx h2) (I.ss _ _ h3) (eZ (S.i _ _ _ h1).2 _))
    ·cases h
   ·split at h
    ·split at h
     ·rename_i hg;rw[Jz] at hg;obtain⟨k0,h1,h⟩:=Jw.mp h;obtain⟨vs,h2,h⟩:=Jw.mp h;cases h;obtain⟨ts,h3⟩:=Au h1;obtain⟨n1,n2,n3⟩:=bf hg.2;exact Ff hX gx h3 (gx.gl _ hg.1) n1 (CM gx h2) (vV h2 _)
     ·cases h
    ·cases h
   ·cases h;exact B2 uM
   ·cases h;exact Bp mZ
   ·cases h;exact yi wG
   ·cases h
  ·unfold xQ at h;split at h
   ·cases h;exact uU
   ·obtain⟨t,h1,h⟩:=Jw.mp h;obtain⟨lg,h2,h⟩:=Jw.mp h;cases h;exact xg (I.s _ _ h1) (I.ss _ _ h2)
end
noncomputable def hE:Nat->G->Gm->Nat->List (Str×Bool)->Option (Nat×Bool)->Expr->Option Bool
 | 0,_,_,_,_,_,_=>none
 | n + 1,g,Γ,i,ts,vb,e=>match e with
  | .Call fe as ks _=>match fe,as,ks with
   | .Name f _,[.Name x _,.Name t _],[]=>if f==("isinstance":Str)&&qk (Γ.names.lookup f)&&g.bls.contains f&&slot Γ x==some i&&qk (Γ.names.lookup t)&&bS t then ts.lookup t else none
   | _,_,_=>none
  | .Name x _=>vb.bind λv=>if slot Γ x==some v.1 then some v.2 else none
  | .UnaryOp o a _=>match o with
   | .Not=>(hE n g Γ i ts vb a).bind λb=>some !b
   | _=>none
  | .BoolOp o es p=>match es with
   | [a]=>hE n g Γ i ts vb a
   | a::b::es=>(hE n g Γ i ts vb a).bind λx=>(hE n g Γ i ts vb (.BoolOp o (b::es) p)).bind λy=>some (match o with | .And=>x&&y | .Or=>x||y)
   | []=>none
  | _=>none
noncomputable def hS (n:Nat) (g:G) (Γ:Gm) (i:Nat) (ts:List (Str×Bool)):List Stmt->Option Bool
 | [.Return (some e) _]=>hE n g Γ i ts none e
 | [.Assign [.Name x _] e _,.Return (some r) _]=>if Γ.names.lookup x==some .local&& !gf e then(dM Γ x).bind λj=>if j==i then none else(hE n g Γ i ts none e).bind λb=>hE n g Γ i ts (some (j,b)) r else none
 | _=>none
noncomputable def wB (n:Nat) (g:G) (Γ:Gm) (dp fF:Bool):Stmt->Option T
 | .Try body [.ExceptHandler (some (.Name t _)) (some e) (b0::fP) _] [] [] _=>
  if Γ.names.lookup e==some .local&&qk (Γ.names.lookup t)&&bS t&& !(t==("ValueError":Str))&&g.xs.any (λx=>x.2.lookup t==some true) then(dM Γ e).bind λi=>(xQ n g Γ dp fF body).bind λb=>
   some (.tr b (g.xs.map λx=>if x.2.lookup t==some true then hS n g Γ i x.2 (b0::fP) else none))
  else none
 | _=>none
noncomputable def zu (n:Nat) (g:G) (Γ:Gm) (dp fF:Bool):List Stmt->Option Ts
 | []=>some .nil
 | st::jn=>((wB n g Γ dp fF st).or (cS n g Γ dp fF st)).bind λt=>(zu n g Γ dp fF jn).bind λts=>some (.cons t ts)
section
variable {g:G} {xv:Nat->Value} {CX:ib} {k:Nat} {F:FT} {X:Cx} {Φ:Fm} {Γ:Gm} {W:Addr->Prop}
theorem wR:bootBuiltins "ValueError"=some (.type "ValueError"):=by decide +kernel
noncomputable def hG (i:Nat) (a:Addr) (vb:Option (Nat×Bool)) (σ:L2.St):Prop:=σ[i]?=some (some (.ref a))/\∀j b,vb=some (j,b)->σ[j]?=some (some (.bl b))
theorem pZ {C a:Addr} {o:Obj} {i:Nat} {ts:List (Str×Bool)} (gx:GX g Γ X) (xr:ni X C a o) (xk:Cg X.K X.mg C ts):∀(n:Nat) (vb:Option (Nat×Bool)) (e:Expr) (b:Bool),hE n g Γ i ts vb e=some b->PE (X.hand a o) e (λσ H Q=>hG i a vb σ/\Q (.bl b) H)
 | 0,vb,e,b,h=>by simp[hE] at h
 | n + 1,vb,e,b,h=>by
  have ih:=pZ (i:=i) gx xr xk n vb;have var:∀{x:Str} {j:Nat} {p:Pos},slot Γ x=some j->PE (X.hand a o) (.Name x p) (gz j):=λ {x j p} hs=>by obtain⟨v1,v2,v3⟩:=gW hs;obtain⟨n1,n2,n3⟩:=bf v2;exact oj (X:=X.hand a o) (by rw[gx.N];exact v3) (gx.vis x v1) n1 n2
  unfold hE at h;split at h
  ·split at h
   ·split at h
    ·rename_i hc;simp only[Jz] at hc;obtain⟨⟨⟨⟨⟨h1,h2⟩,h3⟩,h4⟩,h5⟩,h6⟩:=hc;have e1:=JV h1;subst e1;obtain⟨n1,n2,n3⟩:=bf h6;obtain⟨c,hc,k1,_⟩:=xk.2.2 _ _ h;rcases hc with ⟨m1,D,rfl⟩ | ⟨m1,rfl,rfl⟩
     ·intro pins s σ H Q I q;exact rV xr xk.1 xk.2.1 (gx.gl _ h2) (gx.bl _ (eX h3)) (var (JV h4)) (qd (X:=X.hand a o) (v:= .ref D) (gx.gl _ h5) m1 rfl n1) (λu r=>r) k1 pins s σ H Q I ⟨q.1.1,q.2⟩
     ·intro pins s σ H Q I q;exact rV xr xk.1 xk.2.1 (gx.gl _ h2) (gx.bl _ (eX h3)) (var (JV h4)) (pY (X:=X.hand a o) (v:= .ty "ValueError") (gx.gl _ h5) m1 wR rfl (by decide) n1) (λu r=>r) k1 pins s σ H Q I ⟨q.1.1,q.2⟩
    ·cases h
   ·cases h
  ·obtain⟨v,h1,h⟩:=Jw.mp h;split at h
   ·rename_i hs;cases h;intro pins s σ H Q I q;exact var (JV hs) pins s σ H Q I ⟨_,q.1.2 v.1 v.2 h1,q.2⟩
   ·cases h
  ·split at h
   ·obtain⟨x,h1,h⟩:=Jw.mp h;cases h;intro pins s σ H Q I q;exact tx (ih _ _ h1) pins s σ H Q I ⟨q.1,_,rfl,q.2⟩
   ·cases h
  ·split at h
   ·intro pins s σ H Q I q;exact si (ih _ _ h) pins s σ H Q I q
   ·rename_i op p es0 a1 b1 es;obtain⟨x,h1,h⟩:=Jw.mp h;obtain⟨y,h2,h⟩:=Jw.mp h;cases h;intro pins s σ H Q I q;cases op with
    | And=>
     refine sP (ih _ _ h1) (ih _ _ h2) pins s σ H Q I ⟨q.1,_,rfl,?_⟩;cases x with
     | true=>exact⟨q.1,q.2⟩
     | false=>exact q.2
    | Or=>
     refine xV (ih _ _ h1) (ih _ _ h2) pins s σ H Q I ⟨q.1,_,rfl,?_⟩;cases x with
     | true=>exact q.2
     | false=>exact⟨q.1,q.2⟩
   ·cases h
  ·cases h
theorem CO {C a:Addr} {o:Obj} {i n:Nat} {ts:List (Str×Bool)} {jn:List Stmt} {b:Bool} (gx:GX g Γ X) (xr:ni X C a o) (xk:Cg X.K X.mg C ts) (h:hS n g Γ i ts jn=some b):
  lT (X.hand a o) jn (λD σ H=>σ[i]?=some (some (.ref a))/\σ.length=X.N.length/\D.rt (.bl b) H):=by
 unfold hS at h;split at h
 ·intro pins s σ H D I q;exact pH (jh (pZ gx xr xk n none _ b h)) pins s σ H D I ⟨⟨q.1,λj b z=>by cases z⟩,q.2.2⟩
 ·split at h
  ·rename_i x xp e ap r rp hx;rw[Jz] at hx;obtain⟨j,h1,h⟩:=Jw.mp h;split at h
   ·cases h
   ·rename_i hj;obtain⟨v,h2,h3⟩:=Jw.mp h;obtain⟨a1,a2,a3⟩:=c7 h1;obtain⟨l1,l2⟩:=gx.loc x a1;have Hj:j≠i:=λz=>hj (by rw[z];exact beq_self_eq_true _)
    have hN:(X.hand a o).N[j]?=some x:=by show X.N[j]?=_;rw[gx.N];exact a3
    have Hu:(X.hand a o).N.Nodup:=by show X.N.Nodup;rw[gx.N];exact gx.nd
    intro pins s σ H D I q;refine lP (kN (X:=X.hand a o) Hu hN l1 (pZ gx xr xk n none _ v h2) (je (by simpa using hx.2) _ _ _) l2) (pH (jh (pZ gx xr xk n (some (j,v)) _ b h3))) pins s σ H D I ⟨⟨q.1,λj b z=>by cases z⟩,⟨?_,λj' b' z=>?_⟩,q.2.2⟩
    ·rw[JP Hj];exact q.1
    ·cases z;have:j < σ.length:=by rw[q.2.1];exact(JC.mp hN).1
     simp[this]
  ·cases h
 ·cases h
theorem GX.bN {Γ:Gm} {X:Cx} {E:Value->Shared->Prop} (gx:GX g Γ X):GX g Γ (X.bN E):=⟨gx.N,gx.nd,gx.vis,gx.loc,gx.gl,gx.fre,gx.calm,gx.un,gx.con,gx.bl⟩
theorem dB {X:Cx} {E:Value->Shared->Prop} {E':XK} {e:Value} {s':Shared} (h:fU (X.bN E) E' e s'):fU X E' e s':=by obtain⟨σ,H',a,cls,e1,I,f,q⟩:=h;exact⟨σ,H',a,cls,e1,I.cT,f,q⟩
theorem lL {X:Cx} {E:Value->Shared->Prop} {E':XK} {e:Value} {s':Shared} (h:fU X E' e s'):fU (X.bN E) E' e s':=by obtain⟨σ,H',a,cls,e1,I,f,q⟩:=h;exact⟨σ,H',a,cls,e1,I.bN E,f,q⟩
theorem D6 {dp fF:Bool} {n:Nat} {st:Stmt} {t:T} (DK:X.env.scope.names=Γ.names) (gx:GX g Γ X) (hX:HX g xv CX k F Φ X) (hd:dp=false->Φ.d0=none) (h:wB n g Γ dp fF st=some t):DG X st (gF Φ Γ F W fF t):=by
 unfold wB at h;split at h
 ·rename_i body t tp e b0 fP hp pos;split at h
  ·rename_i hc;simp only[Jz] at hc;obtain⟨⟨⟨⟨c1,c2⟩,c3⟩,c4⟩,c5⟩:=hc;obtain⟨i,h1,h⟩:=Jw.mp h;obtain⟨b,h2,h⟩:=Jw.mp h;cases h;obtain⟨a1,a2,a3⟩:=c7 h1;obtain⟨l1,l2⟩:=gx.loc e a1;obtain⟨n1,n2,n3⟩:=bf c3;intro s σ H D I q;obtain⟨o,ρ,S,oi,er,q⟩:=q;unfold ex at q;obtain⟨hS,q⟩:=aC q;have Hk:S=none:=by simpa using hS
   have rM:∀z,Φ.d0≠some z:=λz hz=>by obtain⟨ns,e1,_⟩:=er.drw z (oi.d z hz);rw[Hk] at e1;cases e1
   generalize htbl:(g.xs.map λx=>if x.2.lookup t==some true then Rx.hS n g Γ i x.2 (b0::fP) else none)=rH at q
   let Φ':Fm:=⟨Φ.K,Φ.H0,Φ.d0,λkk=>∃v,rH[kk]?=some (some v)/\∀H',aI (λb=>Φ.d0=some b) Φ.H0 H'->D.rt (.bl v) H'⟩
   have X1:HX g xv CX k F Φ' (X.bN (fU X (gM Φ' xv))):=⟨hX.K,hX.fx,hX.room,hX.cx,⟨hX.st.pn,hX.st.st⟩,λe s' z=>dB z,hX.xk⟩;have own:PassesOwn (model X.prog X.w) X.A X.env (fU X (gM Φ' xv)):=lA (X:=X.bN (fU X (gM Φ' xv))) (E:=gM Φ' xv) ⟨hX.st.pn,hX.st.st⟩ (λe s' z=>dB z) λe s' z=>lL z
   have B:=(mn (dp:=dp) (fF:=fF) (W:=W) n Γ _ Φ' gx.bN X1 hd own).ss _ _ h2;have f7:t≠"ValueError":=iF (by simpa using c4);obtain⟨y,HD,B0⟩:=Ka.mp c5;obtain⟨ky,HR⟩:=List.mem_iff_getElem?.mp HD;obtain⟨Cy,_,_,yk⟩:=hX.xk ky y.1 y.2 HR;obtain⟨c,hc,_⟩:=yk.2.2 t true (JV B0);have rL:X.mg t=some c:=hc.elim (λz=>z.1) λz=>absurd z.2.1 f7
   have hle:X.env.scope.names.lookup e=some .local:=by rw[DK];exact JV c1
   refine vE (X:=X) (E:=gM Φ' xv) (c:=c) (tp:=tp) (hpos:=hp) (pos:=pos) hX.st (λz=>I.ok.hd z) (gx.gl _ c2) rL n1 (gx.N▸gx.nd) (by rw[gx.N];exact a3) hle B (λcls H' z=>?_) I ⟨o,ρ,S,⟨oi.w,oi.d⟩,⟨er.len,er.wa,er.da,er.al,er.val,er.inj,er.drw,er.drn,er.drs,er.dr0,er.ent⟩,?_⟩
   ·obtain⟨kk,rfl,⟨v,hv,HM⟩,yT⟩:=z;rw[<-htbl,JR] at hv;obtain⟨⟨x,ts⟩,hx,hv⟩:=JN.mp hv;split at hv
    ·rename_i hl;obtain⟨C,e1,e2,xk⟩:=hX.xk kk x ts hx;obtain⟨c',jr,_,kx⟩:=xk.2.2 t true (JV hl);have:c'=c:=by
      have h9:X.mg t=some c':=jr.elim (λz=>z.1) λz=>absurd z.2.1 f7
      rw[rL] at h9;exact(Option.some.inj h9).symm
     subst this;exact⟨C,e1,kx rfl,λa o xr=>⟨_,CO gx xr xk hv,λσ s1 s2=>⟨s1,s2,HM H' yT⟩⟩⟩
    ·cases hv
   ·cases he:aQ F b ρ S with
    | ok p=>
     rw[he] at q;have q:bF Φ Γ W fF o H D p:=q;show bF Φ' Γ W fF o H D p;unfold bF at q ⊢;cases iX:p.1 with
     | next=>rw[iX] at q;intro σ' H' so;exact q σ' H' ⟨so.ex.imp λo' z=>⟨⟨z.1.w,z.1.d⟩,⟨z.2.1.len,z.2.1.wa,z.2.1.da,z.2.1.al,z.2.1.val,z.2.1.inj,z.2.1.drw,z.2.1.drn,z.2.1.drs,z.2.1.dr0,z.2.1.ent⟩,z.2.2⟩,so.ext,so.al⟩
     | brk=>rw[iX] at q;intro σ' H' so;exact q σ' H' ⟨so.ex.imp λo' z=>⟨⟨z.1.w,z.1.d⟩,⟨z.2.1.len,z.2.1.wa,z.2.1.da,z.2.1.al,z.2.1.val,z.2.1.inj,z.2.1.drw,z.2.1.drn,z.2.1.drs,z.2.1.dr0,z.2.1.ent⟩,z.2.2⟩,so.ext,so.al⟩
     | cnt=>rw[iX] at q;intro σ' H' so;exact q σ' H' ⟨so.ex.imp λo' z=>⟨⟨z.1.w,z.1.d⟩,⟨z.2.1.len,z.2.1.wa,z.2.1.da,z.2.1.al,z.2.1.val,z.2.1.inj,z.2.1.drw,z.2.1.drn,z.2.1.drs,z.2.1.dr0,z.2.1.ent⟩,z.2.2⟩,so.ext,so.al⟩
     | ret d=>rw[iX] at q;intro v H' ro;exact q v H' ⟨ro.val,ro.ent,ro.drw,ro.dh⟩
    | ex kk=>
     rw[he] at q;simp only at q;split at q
     ·rename_i v hv;exact⟨v,hv,λH' yT=>q _ _ ⟨RV.jJ,yT,λa ha=>absurd ha (rM a),λ_ ds z=>by cases z⟩⟩
     ·exact q.elim
    | bad=>rw[he] at q;exact q.elim
  ·cases h
 ·cases h
theorem tK {st:Stmt} {jn:List Stmt} {t:T} {ts:Ts} {fF:Bool} (h1:DG X st (gF Φ Γ F W fF t)) (h2:kI X jn (iV Φ Γ F W fF ts)):kI X (st::jn) (iV Φ Γ F W fF (.cons t ts)):=λs σ H D I q=>qH h1 h2 s σ H D I (by
 obtain⟨o,ρ,S,oi,er,q⟩:=q;unfold aQ at q;rw[ae] at q;refine⟨o,ρ,S,oi,er,af q λp _ q=>?_⟩;unfold bF;cases hp:p.1 with
 | next=>rw[hp] at q;intro σ1 H1 so;obtain⟨⟨o1,FD,ax,F8⟩,e1,a1⟩:=so;exact⟨o1,p.2.1,p.2.2,FD,ax,af q λp2 _ q=>bF.go e1 F8 a1 (λ_ _ z=>z) (λ_ _ z=>z) (λ_ _ z=>z) (λ_ _ z=>z) q⟩
 | brk=>rw[hp] at q;unfold mR bF at q;exact q
 | cnt=>rw[hp] at q;unfold mR bF at q;exact q
 | ret d=>rw[hp] at q;unfold mR bF at q;exact q)
theorem sC {dp fF:Bool} {n:Nat} (DK:X.env.scope.names=Γ.names) (gx:GX g Γ X) (hX:HX g xv CX k F Φ X) (hd:dp=false->Φ.d0=none) (own:PassesOwn (model X.prog X.w) X.A X.env X.xe):∀{jn:List Stmt} {ts:Ts},zu n g Γ dp fF jn=some ts->kI X jn (iV Φ Γ F W fF ts)
 | [],ts,h=>by cases h;exact vv uU
 | st::jn,ts,h=>by
  obtain⟨t,h1,h⟩:=Jw.mp h;obtain⟨lg,h2,h⟩:=Jw.mp h;cases h;refine tK ?_ (sC DK gx hX hd own h2);cases ht:wB n g Γ dp fF st with
  | none=>rw[ht] at h1;exact zS ((mn (dp:=dp) (fF:=fF) (W:=W) n Γ X Φ gx hX hd own).s _ _ h1)
  | some t'=>rw[ht] at h1;cases h1;exact D6 DK gx hX hd ht
theorem lZ {X:Cx} {E:Value->Shared->Prop} {st:List Stmt} {t:TS} (h:kI (X.bN E) st t) (hx:∀e s',E e s'->X.xe e s'):kI X st t:=λs σ H D I hw=>
 wpAny_mono (h s σ H D (I.bN _) hw) (λ_ _ q=>q.cT) λe s' z=>hx e s' z
end
section
variable {P:Program} {w:World} {K:Frag} {mg:Str->Option Value} {base:Heap} {g:G} {xv:Nat->Value} {F:FT} {k:Nat}
structure MG (g:G) (mg:Str->Option Value):Prop where
 con:∀x d,g.cons.lookup x=some d->∃u,lI d=true/\mg x=some u/\RelV (nq d) u
 bl:∀x∈g.bls,mg x=none
noncomputable def XG (g:G) (K:Frag) (mg:Str->Option Value) (xv:Nat->Value):Prop:=∀k x ts,g.xs[k]?=some (x,ts)->∃C,xv k= .ref C/\mg x=some (.ref C)/\Cg K mg C ts
noncomputable def rB (aT:Bool) (args:List Dt) (n ps:Nat):ai:=(if aT then[none] else[])++args.map some++List.replicate (n - ps) none
theorem mY {aT:Bool} {args:List Dt} {n ps i:Nat} {d:Dt} (h:(rB aT args n ps)[i]?=some (some d)):∃j,args[j]?=some d/\i=j + (if aT then 1 else 0):=by
 unfold rB at h;have tail:∀{i:Nat},(args.map some++List.replicate (n - ps) (none:Option Dt))[i]?=some (some d)->args[i]?=some d:=λ {i} h=>by
  by_cases hi:i < args.length
  ·rw[Kf (by simpa using hi),JR] at h;cases e:args[i]? with
   | none=>rw[e] at h;cases h
   | some a=>rw[e] at h;cases h;rfl
  ·rw[Kg (by simpa using hi),List.getElem?_replicate] at h;split at h <;> cases h
 cases aT with
 | false=>simp only[Bool.false_eq_true,if_false,List.nil_append] at h;exact⟨i,tail h,rfl⟩
 | true=>
  simp only[if_true,JM] at h;cases i with
  | zero=>cases h
  | succ i=>have h:(args.map some++List.replicate (n - ps) (none:Option Dt))[i]?=some (some d):=h;exact⟨i,tail h,rfl⟩
theorem jE {N:List Str} {vs:List V} {i:Nat} {v:V} (h:vs[i]?=some v):(start N vs)[i]?=some (some v):=by unfold L2.start;have hi:=(JC.mp h).1;rw[Kf (by simpa using hi),JR,h];rfl
theorem vc {M:List Bool} {δ:Option Nat} {names:List (Str×NameKind)} {N:List Str} {np:Nat} {aT:Bool} {vs rT:List V} {H:Hp} {W:Addr->Prop} {dr:Option Addr} {args:List Dt} {S:Sx} {Ek:Nat->Prop}
  (hM:∀i,i < np->M[i]?≠some true) (hδ:aT=true->δ=some 0) (Jo:np<=N.length) (hl:vs.length=np)
  (hd:if aT=true then∃(a:Addr) (ns:List Int),vs= .ref a::rT/\dr=some a/\W a/\S=some ns/\H a=some (.lst (ns.map V.int)) else vs=rT/\dr=none/\S=none)
  (ha:aj K W H rT args) (hw:∀a,W a->∃x,H a=some x):ER ⟨K,H,dr,Ek⟩ ⟨names,N,M,δ⟩ ⟨W,W,dr⟩ (rB aT args N.length np) S (start N vs) H/\args.length + (if aT then 1 else 0)=np:=by
 have He:=ha.length;have Bh:args.length + (if aT then 1 else 0)=np:=by
  cases aT with
  | false=>
   simp only[Bool.false_eq_true,if_false] at hd ⊢;obtain⟨e,_,_⟩:=hd;subst e
   lia
  | true=>
   simp only[if_true] at hd ⊢;obtain⟨a,ns,e,_⟩:=hd;rw[e] at hl;simp at hl
   lia
 refine⟨⟨?_,λa z=>z,λa z=>?_,hw,λi d h=>?_,λi j a d e hm hm' h1 h2 _ _=>?_,λa z=>?_,λz=>?_,λi a hi z=>?_,λa z=> .inl z,aI.refl⟩,Bh⟩
 ·unfold L2.start rB;simp only[JO,JH,List.length_replicate];cases aT <;> simp at Bh ⊢ <;> lia
 ·cases aT with
  | false=>simp only[Bool.false_eq_true,if_false] at hd;rw[hd.2.1] at z;cases z
  | true=>simp only[if_true] at hd;obtain⟨b,ns,_,e,hb,_⟩:=hd;rw[e] at z;cases z;exact hb
 ·obtain⟨j,hj,rfl⟩:=mY h;obtain⟨v,h1,h2⟩:=ha.getD hj;have HP:=(JC.mp hj).1;have hm:dg ⟨names,N,M,δ⟩ (j + if aT=true then 1 else 0)=false:=by unfold dg;have:=hM (j + if aT=true then 1 else 0) (by lia);simpa using this
  refine⟨v,jE ?_,?_⟩
  ·cases aT with
   | false=>simp only[Bool.false_eq_true,if_false] at hd ⊢;rw[hd.1];exact h1
   | true=>simp only[if_true] at hd ⊢;obtain⟨b,ns,e,_⟩:=hd;rw[e];simpa using h1
  ·rw[hm,if_neg (by simp)];exact h2
 ·obtain⟨j1,hj,rfl⟩:=mY h1;have HP:=(JC.mp hj).1;exfalso;unfold dg at hm;exact hM (j1 + if aT=true then 1 else 0) (by lia) (JV hm)
 ·cases aT with
  | false=>simp only[Bool.false_eq_true,if_false] at hd;rw[hd.2.1] at z;cases z
  | true=>simp only[if_true] at hd;obtain⟨b,ns,_,e,_,e2,e3⟩:=hd;rw[e] at z;cases z;exact⟨ns,e2,e3⟩
 ·cases aT with
  | false=>simp only[Bool.false_eq_true,if_false] at hd;exact hd.2.2
  | true=>simp only[if_true] at hd;obtain⟨b,ns,_,e,_⟩:=hd;rw[e] at z;cases z
 ·cases aT with
  | false=>simp only[Bool.false_eq_true,if_false] at hd;rw[hd.2.1] at z;cases z
  | true=>simp only[if_true] at hd;obtain⟨b,ns,e1,e,_⟩:=hd;rw[e] at z;cases z;have hi:δ=some i:=hi;rw[hδ rfl] at hi;cases hi;exact jE (by rw[e1];rfl)
theorem Df {CX:ib} {N ps:List Str} {sc:Scope} {M:List Bool} {δ:Option Nat} {qual:Str} {f:Addr} {dU:Value} {A:Around} {outer:List Env} {s:Shared} {H:Hp} {E:XK} (m:MG g mg) (S:dC N ps sc) (hr:fK k (A.deeper (envOfC qual sc s.heap.objs.size f dU))):
  GX g ⟨sc.names,N,M,δ⟩ (iH CX P w K mg base N qual sc f dU A outer s H E) where
 N:=rfl
 nd:=S.nd
 vis:=λx h=>by
  have h:sk (sc.names.lookup x)=true:=h;show AN sc x;unfold AN;cases hl:sc.names.lookup x with
  | none=>rw[hl] at h;cases h
  | some kk=>
   rw[hl] at h;cases kk with
   | «local»=>exact .inl rfl
   | cell=>exact .inr (.inl rfl)
   | free=>exact .inr (.inr rfl)
   | globalExplicit=>cases h
   | globalImplicit=>cases h
 loc:=λx h=>by
  have h:sR (sc.names.lookup x)=true:=h;refine⟨?_,.inl rfl⟩;show L2.Loc sc x;unfold L2.Loc;cases hl:sc.names.lookup x with
  | none=>rw[hl] at h;cases h
  | some kk=>
   rw[hl] at h;cases kk with
   | «local»=>exact .inl rfl
   | cell=>exact .inr rfl
   | free=>cases h
   | globalExplicit=>cases h
   | globalImplicit=>cases h
 gl:=λx h=>by
  have h:qk (sc.names.lookup x)=true:=h;show sc.names.lookup x=_;cases hl:sc.names.lookup x with
  | none=>rw[hl] at h;cases h
  | some kk=>
   rw[hl] at h;cases kk with
   | globalImplicit=>rfl
   | «local»=>cases h
   | cell=>cases h
   | free=>cases h
   | globalExplicit=>cases h
 fre:=λx h=>h
 calm:=rfl
 un:=by have:=hr.un;show (A.deeper (envOfC qual sc s.heap.objs.size f dU)).units + 150 < cLine;lia
 con:=m.con
 bl:=m.bl
theorem j7 {name qual:Str} {params:Arguments} {body:List Stmt} {scope:Scope} {dV kV doc pm dU ct oc:Value} {an od:Option Addr} {qa:Array (Option Value)} {f:Addr} {N ps:List Str} {M:List Bool} {δ:Option Nat} {aT fF:Bool} {n m:Nat} {ts:Ts}
  (lk:K.lookup f=some ⟨oc,od,.func (PySem.W.fnOf name qual params body scope dV kV doc pm an dU ct),qa⟩) (rN:PySem.W.codeIn K dU qual=true) (S:dC N ps scope) (hm:MG g mg) (wD:XG g K mg xv) (fx:FX g xv (lH P w) P w K mg base m k F)
  (hM:∀i,i < ps.length->M[i]?≠some true) (hδ:aT=true->δ=some 0) (hc:zu n g ⟨scope.names,N,M,δ⟩ aT fF body=some ts):
  gw P w K mg base (lH P w) (k + 1) f (PySem.W.fnOf name qual params body scope dV kV doc pm an dU ct) ps (Gh K xv (eP F ⟨ps.length,N.length,aT,ts⟩) ps.length fF aT):=by
 have jW:ps.length<=N.length:=by have:=congrArg List.length S.pre;rw[List.length_take] at this;lia
 refine yf lk rN S (λvs H Q E h=>h.1) λA outer s H vs Q E hr h=>?_
 obtain⟨hl,W,dr,args,S0,rT,hd,ha,hw,h⟩:=h;have er:=vc (K:=K) (names:=scope.names) (N:=N) (Ek:=λkk=>∀H',aI (λb=>dr=some b) H H'->E (xv kk) none H') hM hδ jW hl hd ha hw;obtain⟨er,Cd⟩:=er;generalize hXX:iH (lH P w) P w K mg base N qual scope f dU A outer s H E=X;generalize hΦ:(⟨K,H,dr,λkk=>∀H',aI (λb=>dr=some b) H H'->E (xv kk) none H'⟩:Fm)=Φ at er;have hΦE:∀v a H',gM Φ xv v a H'->E v none H':=λv a H' z=>by obtain⟨kk,rfl,z1,z2⟩:=z;subst hΦ;exact z1 H' z2
 have Ir:∀e s',fU X (gM Φ xv) e s'->X.xe e s':=λe s' z=>by subst hXX;obtain⟨σ,H',a,cls,e1,I,fl,q⟩:=z;exact yK ⟨σ,H',a,cls,e1,I,fl,hΦE _ _ _ q⟩
 have st:cU X:=by subst hXX;exact tf
 have gx:GX g ⟨scope.names,N,M,δ⟩ X:=by subst hXX;exact Df (P:=P) (w:=w) (K:=K) (base:=base) (CX:=lH P w) (M:=M) (δ:=δ) (outer:=outer) (H:=H) (E:=E) hm S hr
 have Gx:cU (X.bN (fU X (gM Φ xv))):=⟨st.pn,st.st⟩;have hX:HX g xv (lH P w) k F Φ (X.bN (fU X (gM Φ xv))):=by
  refine⟨?_,⟨m,?_⟩,?_,?_,Gx,λe s' z=>dB z,?_⟩
  ·subst hΦ hXX;rfl
  ·subst hXX;exact fx
  ·subst hXX;exact hr
  ·subst hXX;rfl
  ·subst hXX;exact wD
 have own:PassesOwn (model (X.bN (fU X (gM Φ xv))).prog (X.bN (fU X (gM Φ xv))).w) (X.bN (fU X (gM Φ xv))).A (X.bN (fU X (gM Φ xv))).env (X.bN (fU X (gM Φ xv))).xe:=lA (E:=gM Φ xv) Gx (λe s' z=>dB z) λe s' z=>lL z
 have d0:Φ.d0=dr:=by subst hΦ;rfl
 have SS:=sC (dp:=aT) (fF:=fF) (W:=W) (n:=n) (Γ:=⟨scope.names,N,M,δ⟩) (by subst hXX;rfl) gx.bN hX (λz=>by
  rw[d0];subst z;simp only[Bool.false_eq_true,if_false] at hd;exact hd.2.1) own hc
 refine⟨_,lZ SS Ir,⟨W,W,dr⟩,_,S0,⟨rfl,λa z=>by rw[d0] at z;exact z⟩,er,?_⟩;subst hΦ;unfold eP at h;simp only at h;rw[if_pos Cd] at h;have h:(match (aQ F ts (rB aT args N.length ps.length) S0).bind (λp=>match p.1 with
   | .next=>R.ok (Dt.a6,p.2.2)
   | .ret d=>R.ok (d,p.2.2)
   | _=>R.bad) with
  | .ok p=>∀v H',FO K W dr fF H p.1 p.2 v H'->Q v H'
  | .ex kk=>∀H',aI (λb=>dr=some b) H H'->E (xv kk) none H'
  | .bad=>False):=h
 cases he:aQ F ts (rB aT args N.length ps.length) S0 with
 | ok p=>
  rw[he] at h;simp only[R.ak] at h;show bF _ _ _ _ _ _ _ p;unfold bF;cases hp:p.1 with
  | next=>rw[hp] at h;intro σ' H' so;obtain⟨o',oi,wo,_⟩:=so.ex;exact h _ _ ⟨wo.ent,RV.eS,λa z=>wo.drw a (oi.d a z),λ_ ds e=>by cases e⟩
  | ret d=>rw[hp] at h;intro v H' ro;exact h _ _ ⟨ro.ent,ro.val,ro.drw,ro.dh⟩
  | brk=>rw[hp] at h;exact h.elim
  | cnt=>rw[hp] at h;exact h.elim
 | ex kk=>rw[he] at h;exact h
 | bad=>rw[he] at h;exact h.elim
end
structure uE (g:G) (K:Frag) (mg:Str->Option Value) (e:Str×Nat×List Dt×Bool) (idx:Nat) (fn:Fn):Prop where
 ex:∃(fa:Addr) (ps N:List Str) (M:List Bool) (δ:Option Nat) (n:Nat) (oc:Value) (od an:Option Addr) (qa:Array (Option Value)) (params:Arguments) (body:List Stmt) (scope:Scope) (dV kV doc pm dU ct:Value),
  K.lookup fa=some ⟨oc,od,.func (PySem.W.fnOf e.1 e.1 params body scope dV kV doc pm an dU ct),qa⟩/\PySem.W.codeIn K dU e.1=true/\PySem.W.keepIn K (.ref fa)=true/\mg e.1=some (.ref fa)/\dC N ps scope/\(∀i,i < ps.length->M[i]?≠some true)/\
  (e.2.2.2=true->δ=some 0)/\ps.length=e.2.1/\zu n g ⟨scope.names,N,M,δ⟩ e.2.2.2 (g.fr idx) body=some fn.body/\fn.ps=ps.length/\fn.n=N.length/\fn.aT=e.2.2.2/\
  (∀j,j<=e.2.2.1.length->∃ds,au ((e.2.2.1.drop j).map nq) ds/\Binds K (PySem.W.fnOf e.1 e.1 params body scope dV kV doc pm an dU ct) ps ds)/\e.2.2.1.all lI=true
noncomputable def mE (g:G) (K:Frag) (mg:Str->Option Value):Nat->List (Str×Nat×List Dt×Bool)->List Fn->Prop
 | _,[],[]=>True
 | i,e::es,f::fs=>uE g K mg e i f/\mE g K mg (i + 1) es fs
 | _,_,_=>False
section
variable {g:G} {K:Frag} {mg:Str->Option Value}
theorem kS {x:Str}:∀{es:List (Str×Nat×List Dt×Bool)} {fs:List Fn} {i j:Nat} {r:Nat×List Dt×Bool},mE g K mg i es fs->oQ x es=some (j,r)->∃f,uE g K mg (x,r) (i + j) f/\fs[j]?=some f
 | [],fs,i,j,r,_,h=>by simp[oQ] at h
 | e::es,[],i,j,r,h,_=>h.elim
 | e::es,f::fs,i,j,r,ok,h=>by
  obtain⟨o1,o2⟩:=ok;unfold oQ at h;split at h
  ·rename_i hx;cases h;have ex:x=e.1:=JV hx;subst ex;exact⟨f,o1,rfl⟩
  ·obtain⟨p,h1,h2⟩:=JN.mp h;obtain⟨j',r'⟩:=p;cases h2;obtain⟨f',k1,k2⟩:=kS o2 h1;refine⟨f',?_,k2⟩;have:i + (j' + 1)=i + 1 + j':=by lia
   rw[this];exact k1
variable {P:Program} {w:World} {base:Heap} {xv:Nat->Value} {fs:List Fn}
theorem iQ (hm:MG g mg) (wD:XG g K mg xv) (ok:mE g K mg 0 g.fns fs):∀n,FX g xv (lH P w) P w K mg base n n (a9 fs n)
 | 0=>⟨λx f np ec aT h=>by
   obtain⟨fn,⟨fa,ps,N,M,δ,n,oc,od,an,qa,params,body,scope,dV,kV,doc,pm,dU,ct,h1,h2,h3,h4,h5,h6,h7,h8,h9,FA,EZ,Ep,Eb,EI⟩,hf⟩:=kS ok h;refine⟨fa,_,ps,h8,h4,h3,⟨λvs H Q E q=>q.1.trans h8.symm,λA outer s H args us vs Q E _ _ _ _ q=>?_⟩,Eb,EI⟩;obtain⟨_,W,dr,as,S,rT,_,_,_,q⟩:=q;exact q.elim⟩
 | n + 1=>⟨λx f np ec aT h=>by
   have ih:=iQ hm wD ok n;obtain⟨fn,⟨fa,ps,N,M,δ,m,oc,od,an,qa,params,body,scope,dV,kV,doc,pm,dU,ct,h1,h2,h3,h4,h5,h6,h7,h8,h9,FA,EZ,Ep,Eb,EI⟩,hf⟩:=kS ok h;rw[Nat.zero_add] at h9;refine⟨fa,_,ps,h8,h4,h3,?_,Eb,EI⟩;have:=j7 (xv:=xv) (P:=P) (w:=w) (base:=base) h1 h2 h5 hm wD ih h6 h7 h9;have e:(a9 fs (n + 1)) f=eP (a9 fs n) ⟨ps.length,N.length,aT,fn.body⟩:=by funext args S;show (match fs[f]? with | some g=>eP (a9 fs n) g args S | none=>R.bad)=_;rw[hf];obtain⟨a1,a2,a3,a4⟩:=fn;simp only at FA EZ Ep;subst FA EZ Ep;rfl
   have IX:ps.length=np:=h8;rw[e,<-IX];exact this⟩
noncomputable def pj (K:Frag):Sp:=λvs H Q _=>∃(a:Addr) (ns:List Int),vs=[.ref a]/\cW K H a (ns.map V.int)/\ns.length<=63/\∀H',Q (.bl true) H'
theorem binds0 {fd:FuncData} {ps:List Str} (h:∀us:List Value,us.length=ps.length->bindArgs fd ⟨us,[]⟩=pure (ps.zip us)):∀j,j<=([]:List Dt).length->∃ds,au ((([]:List Dt).drop j).map nq) ds/\Binds K fd ps ds:=λj hj=>by
 have:j=0:=by simpa using hj
 subst this;exact⟨[],.nil,Binds.all h⟩
noncomputable def IK (names:List (Str×NameKind)) (ps:List Str):List Str:=ps++names.filterMap λp=>if sR (some p.2)&& !ps.contains p.1 then some p.1 else none
noncomputable def AX (N ms:List Str):List Bool:=N.map λx=>ms.contains x
theorem CL {N ms ps:List Str} (h:((AX N ms).take ps.length).all (λb=> !b)=true):∀i,i < ps.length->(AX N ms)[i]?≠some true:=λi hi e=>by have hm:true∈(AX N ms).take ps.length:=List.mem_iff_getElem?.mpr ⟨i,by rw[List.getElem?_take_of_lt hi];exact e⟩;have:=J9.mp h true hm;cases this
end
end Rx
end
section
namespace Rx
open PySem PySem.W PySem.Spec PyProof.Rows L2
section
variable {F:FT} {S:Sx} {ρ:ai}
theorem cZ {tg:Tg} {body:ai->Sx->RS} {ds:List Dt} (P:List Dt->ai->Prop) (h0:P [] ρ)
  (step:∀pre x post ρ,ds=pre++x::post->P pre ρ->∃ρ1 ρ2,cm tg x ρ= .ok ρ1/\body ρ1 S= .ok (.next,ρ2,S)/\P (pre++[x]) ρ2):∃ρ',forL tg body ds ρ S= .ok (.next,ρ',S)/\P ds ρ':=by
 have key:∀(post pre:List Dt) (ρ:ai),ds=pre++post->P pre ρ->∃ρ',forL tg body post ρ S= .ok (.next,ρ',S)/\P ds ρ':=by
  intro post
  induction post with
  | nil=>intro pre ρ e h;rw[Kd] at e;subst e;exact⟨ρ,rfl,h⟩
  | cons x post ih=>intro pre ρ e h;obtain⟨ρ1,ρ2,h1,h2,h3⟩:=step pre x post ρ e h;obtain⟨ρ',h4,h5⟩:=ih (pre++[x]) ρ2 (by rw[e];simp) h3;refine⟨ρ',?_,h5⟩;rw[forL,h1,R.ak,h2,R.ak];exact h4
 exact key ds [] ρ rfl h0
theorem iZ {f:Dt->Sx->R (List Dt×Sx)} {g:Dt->List Dt}:∀{ds:List Dt},(∀x∈ds,f x S= .ok (g x,S))->bb f ds S= .ok (ds.flatMap g,S)
 | [],_=>rfl
 | x::ds,h=>by rw[bb,h x JF,R.ak,iZ λy hy=>h y (JD _ hy),R.ak,List.flatMap_cons]
theorem cM {α β:Type} (f:α->β):∀l:List α,(l.flatMap λx=>[f x])=l.map f
 | []=>rfl
 | x::l=>by rw[List.flatMap_cons,cM f l];rfl
theorem rk {f:Dt->Sx->R (List Dt×Sx)} {g:Dt->Dt} {ds:List Dt} (h:∀x∈ds,f x S= .ok ([g x],S)):bb f ds S= .ok (ds.map g,S):=by rw[iZ (g:=λx=>[g x]) h,cM]
end
theorem vK {fs:List Fn} {n k:Nat} {g:Fn} {args:List Dt} {S:Sx} (h:fs[k]?=some g):a9 fs (n + 1) k args S=eP (a9 fs n) g args S:=by show (match fs[k]? with | some g=>eP (a9 fs n) g args S | none=>R.bad)=_;rw[h]
noncomputable def CF (d:Dt) (S:Sx):R (Dt×Sx):=match d with | .int i=> .ok (.int (-i),S) | _=> .bad
noncomputable def Gq (d:Dt) (S:Sx):R (Dt×Sx):=match d with | .bl b=> .ok (.bl !b,S) | _=> .bad
noncomputable def CT (d:Dt) (S:Sx):R (Dt×Sx):=match d with | .bl c=> .ok (.bl c,S) | _=> .bad
noncomputable def yI (f:Sx->R (Dt×Sx)) (d:Dt) (S:Sx):R (Dt×Sx):=match d with | .bl true=>(f S).bind (λy=>CT y.1 y.2) | .bl false=> .ok (.bl false,S) | _=> .bad
noncomputable def EV (f:Sx->R (Dt×Sx)) (d:Dt) (S:Sx):R (Dt×Sx):=match d with | .bl false=>(f S).bind (λy=>CT y.1 y.2) | .bl true=> .ok (.bl true,S) | _=> .bad
noncomputable def ya (k:List Dt->Dt) (ds:List Dt) (S:Sx):R (Dt×Sx):=ah (decide (ds.length<=lim)) (.ok (k ds,S))
noncomputable def EA (o:Option (List Dt)) (S:Sx):R (List Dt×Sx):=match o with | some ds=> .ok (ds,S) | none=> .bad
noncomputable def CV (d e:Dt) (S:Sx):R (Dt×Sx):=match e with | .int i=>(eF d (some i) none).bind λd=> .ok (d,S) | _=> .bad
noncomputable def CB (d e:Dt) (S:Sx):R (Dt×Sx):=match e with | .int i=>(eF d none (some i)).bind λd=> .ok (d,S) | _=> .bad
theorem RX:
  (∀{F:FT} {S:Sx} {ρ:ai} {d:Dt},ev F (.con d) ρ S= .ok (d,S))/\
  (∀{F:FT} {S:Sx} {ρ:ai} {i:Nat},ev F (.var i) ρ S=(d5 ρ i).bind λd=> .ok (d,S))/\
  (∀{F:FT} {S:Sx} {ρ:ai} {i:Nat},ev F (.mvr i) ρ S=(d5 ρ i).bind λd=> .ok (d,S))/\
  (∀{F:FT} {S:Sx} {ρ:ai} {o:Operator} {a b:C},ev F (.bin o a b) ρ S=(ev F a ρ S).bind λx=>(ev F b ρ x.2).bind λy=>(mC o x.1 y.1).bind λd=> .ok (d,y.2))/\
  (∀{F:FT} {S:Sx} {ρ:ai} {o:CmpOp} {a b:C},ev F (.cmp o a b) ρ S=(ev F a ρ S).bind λx=>(ev F b ρ x.2).bind λy=>(cH o x.1 y.1).bind λd=> .ok (.bl d,y.2))/\
  (∀{F:FT} {S:Sx} {ρ:ai} {a:C},ev F (.neg a) ρ S=(ev F a ρ S).bind λx=>CF x.1 x.2)/\
  (∀{F:FT} {S:Sx} {ρ:ai} {a:C},ev F (.nt a) ρ S=(ev F a ρ S).bind λx=>Gq x.1 x.2)/\
  (∀{F:FT} {S:Sx} {ρ:ai} {a b:C},ev F (.and a b) ρ S=(ev F a ρ S).bind λx=>yI (ev F b ρ) x.1 x.2)/\
  (∀{F:FT} {S:Sx} {ρ:ai} {a b:C},ev F (.or a b) ρ S=(ev F a ρ S).bind λx=>EV (ev F b ρ) x.1 x.2)/\
  (∀{F:FT} {S:Sx} {ρ:ai} {a b c:C},ev F (.ite a b c) ρ S=(cg F a ρ S).bind λx=>if x.1=true then ev F b ρ x.2 else ev F c ρ x.2)/\
  (∀{F:FT} {S:Sx} {ρ:ai} {a b:C},ev F (.idx a b) ρ S=(ev F a ρ S).bind λx=>(ev F b ρ x.2).bind λy=>(bj x.1 y.1).bind λd=> .ok (d,y.2))/\
  (∀{F:FT} {S:Sx} {ρ:ai} {a b:C},ev F (.sliL a b) ρ S=(ev F a ρ S).bind λx=>(ev F b ρ x.2).bind λy=>CV x.1 y.1 y.2)/\
  (∀{F:FT} {S:Sx} {ρ:ai} {a b:C},ev F (.sliH a b) ρ S=(ev F a ρ S).bind λx=>(ev F b ρ x.2).bind λy=>CB x.1 y.1 y.2)/\
  (∀{F:FT} {S:Sx} {ρ:ai} {f:Nat} {es:Cs} {ds:List Dt},ev F (.call f es ds) ρ S=(fj F es ρ S).bind λx=>(F f (x.1++ds) none).bind λy=> .ok (y.1,x.2))/\
  (∀{F:FT} {S:Sx} {ρ:ai} {u:BI} {es:Cs},ev F (.bi u es) ρ S=(fj F es ρ S).bind λx=>(ez u x.1).bind λd=> .ok (d,x.2))/\
  (∀{F:FT} {S:Sx} {ρ:ai} {es:Cs},ev F (.tup es) ρ S=(fj F es ρ S).bind λx=>ya .tup x.1 x.2)/\
  (∀{F:FT} {S:Sx} {ρ:ai} {es:Cs},ev F (.lst es) ρ S=(fj F es ρ S).bind λx=>ya .lst x.1 x.2)/\
  (∀{F:FT} {S:Sx} {ρ:ai},fj F .nil ρ S= .ok ([],S))/\
  (∀{F:FT} {S:Sx} {ρ:ai} {a:C} {es:Cs},fj F (.cons a es) ρ S=(ev F a ρ S).bind λx=>(fj F es ρ x.2).bind λy=> .ok (x.1::y.1,y.2))/\
  (∀{F:FT} {S:Sx} {ρ:ai} {o:CmpOp} {a b:C},cg F (.cmp o a b) ρ S=(ev F a ρ S).bind λx=>(ev F b ρ x.2).bind λy=>(cH o x.1 y.1).bind λd=> .ok (d,y.2))/\
  (∀{F:FT} {S:Sx} {ρ:ai} {a b:C},cg F (.and a b) ρ S=(cg F a ρ S).bind λx=>if x.1=true then cg F b ρ x.2 else .ok (false,x.2))/\
  (∀{F:FT} {S:Sx} {ρ:ai} {a b:C},cg F (.or a b) ρ S=(cg F a ρ S).bind λx=>if x.1=true then .ok (true,x.2) else cg F b ρ x.2)/\
  (∀{F:FT} {S:Sx} {ρ:ai} {a:C},cg F (.nt a) ρ S=(cg F a ρ S).bind λx=> .ok (!x.1,x.2))/\
  (∀{F:FT} {S:Sx} {ρ:ai} {f:Nat} {es:Cs} {ds:List Dt},cg F (.call f es ds) ρ S=(fj F es ρ S).bind λx=>(F f (x.1++ds) none).bind λy=>(cK y.1).bind λb=> .ok (b,x.2))/\
  (∀{F:FT} {S:Sx} {ρ:ai} {u:BI} {es:Cs},cg F (.bi u es) ρ S=(fj F es ρ S).bind λx=>(ez u x.1).bind λd=>(cK d).bind λb=> .ok (b,x.2))/\
  (∀{F:FT} {S:Sx} {ρ:ai} {i:Nat},cg F (.var i) ρ S=(d5 ρ i).bind λd=>(cK d).bind λb=> .ok (b,S))/\
  (∀{F:FT} {S:Sx} {ρ:ai} {i:Nat},cg F (.mvr i) ρ S=(d5 ρ i).bind λd=>(cK d).bind λb=> .ok (b,S))/\
  (∀{F:FT} {S:Sx} {ρ:ai} {a b:C},cg F (.idx a b) ρ S=(ev F a ρ S).bind λx=>(ev F b ρ x.2).bind λy=>(bj x.1 y.1).bind λd=>(cK d).bind λb=> .ok (b,y.2))/\
  (∀{F:FT} {S:Sx} {ρ:ai},bY F .nil ρ S= .ok (true,S))/\
  (∀{F:FT} {S:Sx} {ρ:ai} {a:C},bY F (.cons a .nil) ρ S=cg F a ρ S)/\
  (∀{F:FT} {S:Sx} {ρ:ai} {a:C},cw F (.seq a) ρ S=(ev F a ρ S).bind λx=>EA (itemsOf x.1) x.2)/\
  (∀{F:FT} {S:Sx} {ρ:ai} {a:C},cw F (.enum a) ρ S=(ev F a ρ S).bind λx=>EA ((c6 x.1).map (bP 0)) x.2)/\
  (∀{d:Dt} {ρ:ai},d5 (some d::ρ) 0= .ok d)/\
  (∀{e:Option Dt} {ρ:ai} {i:Nat},d5 (e::ρ) (i + 1)=d5 ρ i)/\
  (∀{S:Sx} {i:Int},CF (.int i) S= .ok (.int (-i),S))/\
  (∀{S:Sx} {b:Bool},Gq (.bl b) S= .ok (.bl !b,S))/\
  (∀{S:Sx} {f:Sx->R (Dt×Sx)},yI f (.bl false) S= .ok (.bl false,S))/\
  (∀{S:Sx} {f:Sx->R (Dt×Sx)},yI f (.bl true) S=(f S).bind λy=>CT y.1 y.2)/\
  (∀{S:Sx} {f:Sx->R (Dt×Sx)},EV f (.bl true) S= .ok (.bl true,S))/\
  (∀{S:Sx} {f:Sx->R (Dt×Sx)},EV f (.bl false) S=(f S).bind λy=>CT y.1 y.2)/\
  (∀{S:Sx} {b:Bool},CT (.bl b) S= .ok (.bl b,S))/\
  (∀{S:Sx} {ds:List Dt},EA (some ds) S= .ok (ds,S))/\
  (∀{ds:List Dt} {f:List Dt->List Dt},(some ds).map f=some (f ds))/\
  (∀{S:Sx} {k:List Dt->Dt},ya k [] S= .ok (k [],S))/\
  (∀{S:Sx} {k:List Dt->Dt} {a:Dt},ya k [a] S= .ok (k [a],S))/\
  (∀{S:Sx} {k:List Dt->Dt} {a b:Dt},ya k [a,b] S= .ok (k [a,b],S))/\
  (∀{S:Sx} {k:List Dt->Dt} {a b c:Dt},ya k [a,b,c] S= .ok (k [a,b,c],S))/\
  (∀{S:Sx} {k:List Dt->Dt} {a b c d:Dt},ya k [a,b,c,d] S= .ok (k [a,b,c,d],S))/\
  (∀{S:Sx} {k:List Dt->Dt} {a b c d e:Dt},ya k [a,b,c,d,e] S= .ok (k [a,b,c,d,e],S))/\
  (∀{S:Sx} {d:Dt} {i:Int},CV d (.int i) S=(eF d (some i) none).bind λd=> .ok (d,S))/\
  (∀{S:Sx} {d:Dt} {i:Int},CB d (.int i) S=(eF d none (some i)).bind λd=> .ok (d,S))/\
  (∀{m n:Int},mC .Add (.int m) (.int n)= .ok (.int (m + n)))/\
  (∀{m n:Int},cH .Lt (.int m) (.int n)= .ok (decide (m < n)))/\
  (∀{m n:Int},cH .LtE (.int m) (.int n)= .ok (decide (m<=n)))/\
  (∀{m n:Int},cH .Gt (.int m) (.int n)= .ok (decide (n < m)))/\
  (∀{m n:Int},cH .GtE (.int m) (.int n)= .ok (decide (n<=m)))/\
  (∀{m n:Int},cH .Eq (.int m) (.int n)= .ok (m==n))/\
  (∀{m n:Int},cH .NotEq (.int m) (.int n)= .ok (!(m==n)))/\
  (∀{m n:Str},cH .Eq (.str m) (.str n)= .ok (m==n))/\
  (∀{m n:Str},cH .NotEq (.str m) (.str n)= .ok (!(m==n)))/\
  (∀{ns:List Int},ez .len [.bR ns]= .ok (.int ns.length))/\
  (∀{ds:List Dt},ez .len [.lst ds]= .ok (.int ds.length))/\
  (∀{ds:List Dt},ez .len [.tup ds]= .ok (.int ds.length))/\
  (∀{ds:List Dt},ez .tuple [.lst ds]= .ok (.tup ds))/\
  (∀{ds:List Dt},ez .tuple [.tup ds]= .ok (.tup ds))/\
  (∀{ds:List Dt},ez .list [.lst ds]= .ok (.lst ds))/\
  (∀{ds:List Dt},ez .list [.tup ds]= .ok (.lst ds))/\
  (∀{t:Bool},cK (.bl t)= .ok t)/\
  (∀{ds:List Dt},cK (.lst ds)= .ok !ds.isEmpty)/\
  (∀{ds:List Dt},cK (.tup ds)= .ok !ds.isEmpty)/\
  (∀{ds:List Dt},itemsOf (.lst ds)=some ds)/\
  (∀{ds:List Dt},itemsOf (.tup ds)=some ds)/\
  (∀{ds:List Dt},c6 (.lst ds)=some ds)/\
  (∀{ds:List Dt},c6 (.tup ds)=some ds)/\
  (∀{α β:Type} {x:α} {f:α->R β},(R.ok x).bind f=f x)/\
  (∀{α:Type} {r:R α},ah true r=r)/\
  (∀{ds:List Dt},(ds++[]:List Dt)=ds)/\
  (∀{e v:Option Dt} {ρ:ai},(e::ρ).set 0 v=v::ρ)/\
  (∀{e v:Option Dt} {ρ:ai} {i:Nat},(e::ρ).set (i + 1) v=e::ρ.set i v)/\
  (∀{d:Dt} {ρ:ai} {i:Nat},cm (.nm i) d ρ= .ok (ρ.set i (some d)))/\
  (∀{is:List Nat} {ds:List Dt} {ρ:ai},cm (.tp is) (.tup ds) ρ=fR is ds ρ)/\
  (∀{ρ:ai},fR [] [] ρ= .ok ρ)/\
  (∀{i:Nat} {is:List Nat} {d:Dt} {ds:List Dt} {ρ:ai},fR (i::is) (d::ds) ρ=fR is ds (ρ.set i (some d)))/\
  (∀{d:Dt},bj (.tup [d]) (.int 0)= .ok d)/\
  (∀{d d2:Dt},bj (.tup [d,d2]) (.int 0)= .ok d)/\
  (∀{d d2:Dt},bj (.tup [d,d2]) (.int 1)= .ok d2)/\
  (∀{d d2 d3:Dt},bj (.tup [d,d2,d3]) (.int 0)= .ok d)/\
  (∀{d d2 d3:Dt},bj (.tup [d,d2,d3]) (.int 1)= .ok d2)/\
  (∀{d d2 d3:Dt},bj (.tup [d,d2,d3]) (.int 2)= .ok d3):=
 ⟨@λ_ _ _ _=>rfl,
  @λ_ _ _ _=>rfl,
  @λ_ _ _ _=>rfl,
  @λ_ _ _ _ _ _=>rfl,
  @λ_ _ _ _ _ _=>rfl,
  @λ_ _ _ _=>rfl,
  @λ_ _ _ _=>rfl,
  @λ_ _ _ _ _=>rfl,
  @λ_ _ _ _ _=>rfl,
  @λ_ _ _ _ _ _=>rfl,
  @λ_ _ _ _ _=>rfl,
  @λ_ _ _ _ _=>rfl,
  @λ_ _ _ _ _=>rfl,
  @λ_ _ _ _ _ _=>rfl,
  @λ_ _ _ _ _=>rfl,
  @λ_ _ _ _=>rfl,
  @λ_ _ _ _=>rfl,
  @λ_ _ _=>rfl,
  @λ_ _ _ _ _=>rfl,
  @λ_ _ _ _ _ _=>rfl,
  @λ_ _ _ _ _=>rfl,
  @λ_ _ _ _ _=>rfl,
  @λ_ _ _ _=>rfl,
  @λ_ _ _ _ _ _=>rfl,
  @λ_ _ _ _ _=>rfl,
  @λ_ _ _ _=>rfl,
  @λ_ _ _ _=>rfl,
  @λ_ _ _ _ _=>rfl,
  @λ_ _ _=>rfl,
  @λ_ _ _ _=>rfl,
  @λ_ _ _ _=>rfl,
  @λF S ρ a=>by rw[cw];cases ev F a ρ S with | ok x=>(simp only[R.ak];cases c6 x.1 <;> rfl) | ex k=>rfl | bad=>rfl,
  @λ_ _=>rfl,
  @λ_ _ _=>rfl,
  @λ_ _=>rfl,
  @λ_ _=>rfl,
  @λ_ _=>rfl,
  @λ_ _=>rfl,
  @λ_ _=>rfl,
  @λ_ _=>rfl,
  @λ_ _=>rfl,
  @λ_ _=>rfl,
  @λ_ _=>rfl,
  @λ_ _=>rfl,
  @λ_ _ _=>rfl,
  @λ_ _ _ _=>rfl,
  @λ_ _ _ _ _=>rfl,
  @λ_ _ _ _ _ _=>rfl,
  @λ_ _ _ _ _ _ _=>rfl,
  @λ_ _ _=>rfl,
  @λ_ _ _=>rfl,
  @λ_ _=>rfl,
  @λ_ _=>rfl,
  @λ_ _=>rfl,
  @λ_ _=>rfl,
  @λ_ _=>rfl,
  @λ_ _=>rfl,
  @λ_ _=>rfl,
  @λ_ _=>rfl,
  @λ_ _=>rfl,
  @λ_=>rfl,
  @λ_=>rfl,
  @λ_=>rfl,
  @λ_=>rfl,
  @λ_=>rfl,
  @λ_=>rfl,
  @λ_=>rfl,
  @λ_=>rfl,
  @λ_=>rfl,
  @λ_=>rfl,
  @λ_=>rfl,
  @λ_=>rfl,
  @λ_=>rfl,
  @λ_=>rfl,
  @λ_ _ _ _=>rfl,
  @λ_ _=>rfl,
  @λds=>Kd ds,
  @λ_ _ _=>rfl,
  @λ_ _ _ _=>rfl,
  @λ_ _ _=>rfl,
  @λ_ _ _=>rfl,
  @λ_=>rfl,
  @λ_ _ _ _ _=>rfl,
  @λ_=>rfl,
  @λ_ _=>rfl,
  @λ_ _=>rfl,
  @λ_ _ _=>rfl,
  @λ_ _ _=>rfl,
  @λ_ _ _=>rfl⟩
section
variable {F:FT} {S:Sx} {ρ:ai}
theorem bp {i j:Int} (h:i.natAbs < 2 ^ 64\/j.natAbs < 2 ^ 64):mC .Mult (.int i) (.int j)= .ok (.int (i * j)):=by grind [ah,mC]
theorem cN {i j:Int} (h:0 < j):mC .Mod (.int i) (.int j)= .ok (.int (i % j)):=by show ah (decide (0 < j)) _=_;rw[J1 h];rfl
theorem sZ {i j:Int} (h:0 < j) (h2:j.natAbs.log2 < 9000):mC .FloorDiv (.int i) (.int j)= .ok (.int (i / j)):=by grind [ah,mC]
noncomputable def fin (r:RS):R (Dt×Sx):=r.bind λp=>match p.1 with
 | .next=> .ok (.a6,p.2.2)
 | .ret d=> .ok (d,p.2.2)
 | _=> .bad
noncomputable def Ts.app:Ts->Ts->Ts
 | .nil,b=>b
 | .cons t a,b=> .cons t (a.app b)
theorem lF:∀{a b:Ts} {ρ:ai} {S:Sx},aQ F (a.app b) ρ S=(aQ F a ρ S).bind λp=>match p.1 with
  | .next=>aQ F b p.2.1 p.2.2
  | f=> .ok (f,p.2)
 | .nil,b,ρ,S=>rfl
 | .cons t a,b,ρ,S=>by
  show aQ F (.cons t (a.app b)) ρ S=_;rw[aQ,aQ];cases ex F t ρ S with
  | ok p=>
   obtain⟨f,ρ1,S1⟩:=p;cases f with
   | next=>exact lF
   | brk=>rfl
   | cnt=>rfl
   | ret d=>rfl
  | ex k=>rfl
  | bad=>rfl
section
variable {r:R (Dt×Sx)} {ts:Ts}
theorem dZ {t:T} {ρ1:ai} {S1:Sx} (h:ex F t ρ S= .ok (.next,ρ1,S1)) (k:fin (aQ F ts ρ1 S1)=r):fin (aQ F (.cons t ts) ρ S)=r:=by rw[aQ,h];exact k
theorem qq {t:T} {ρ1:ai} {S1:Sx} {d:Dt} (h:ex F t ρ S= .ok (.ret d,ρ1,S1)):fin (aQ F (.cons t ts) ρ S)= .ok (d,S1):=by rw[aQ,h];rfl
theorem aG {i:Nat} {c:C} {d:Dt} {S1:Sx} (h:ev F c ρ S= .ok (d,S1)) (hs:b5 c d=true) (k:fin (aQ F ts (ρ.set i (some d)) S1)=r):fin (aQ F (.cons (.asg i c) ts) ρ S)=r:=by refine dZ ?_ k;rw[ex,h,R.ak,hs];rfl
theorem eh {i:Nat} {c:C} {d:Dt} {S1:Sx} (h:ev F c ρ S= .ok (d,S1)) (hs:gN c d=true) (k:fin (aQ F ts (ρ.set i (some d)) S1)=r):fin (aQ F (.cons (.asgM i c) ts) ρ S)=r:=by refine dZ ?_ k;rw[ex,h,R.ak,hs];rfl
theorem aK {c:C} {d:Dt} {S1:Sx} (h:ev F c ρ S= .ok (d,S1)):fin (aQ F (.cons (.ret c) ts) ρ S)= .ok (d,S1):=by refine qq (ρ1:=ρ) ?_;rw[ex,h];rfl
theorem tR {t:C} {a b:Ts} {x:Bool} {S1:Sx} (h:cg F t ρ S= .ok (x,S1)) (k:fin (aQ F ((if x=true then a else b).app ts) ρ S1)=r):fin (aQ F (.cons (.ifs t a b) ts) ρ S)=r:=by rw[<-k,lF,aQ,ex,h,R.ak];cases x <;> rfl
theorem gI {t:C} {a b:Ts} {S1:Sx} (h:cg F t ρ S= .ok (true,S1)) (k:fin (aQ F (a.app ts) ρ S1)=r):fin (aQ F (.cons (.ifs t a b) ts) ρ S)=r:=tR h (by rw[if_pos rfl];exact k)
theorem dN {t:C} {a b:Ts} {S1:Sx} (h:cg F t ρ S= .ok (false,S1)) (k:fin (aQ F (b.app ts) ρ S1)=r):fin (aQ F (.cons (.ifs t a b) ts) ρ S)=r:=tR h (by rw[if_neg (by simp)];exact k)
theorem dG {tg:Tg} {it:jV} {b:Ts} {ds:List Dt} {ρ1:ai} {S1 S2:Sx} (h:cw F it ρ S= .ok (ds,S1)) (hl:nu it=0) (hf:forL tg (aQ F b) ds ρ S1= .ok (.next,ρ1,S2)) (k:fin (aQ F ts ρ1 S2)=r):fin (aQ F (.cons (.fr tg it b) ts) ρ S)=r:=by refine dZ ?_ k;rw[ex,h,R.ak,J1 hl,Bool.true_or];exact hf
end
end
theorem bg {fs:List Fn} {n k ps m:Nat} {body:Ts} {args:List Dt} {r:R (Dt×Sx)} {S:Sx} (h:fs[k]?=some ⟨ps,m,false,body⟩) (hn:1<=n) (hl:args.length=ps) (q:fin (aQ (a9 fs (n - 1)) body (args.map some++List.replicate (m - ps) none) S)=r):a9 fs n k args S=r:=by obtain⟨n,rfl⟩:∃m,n=m + 1:=⟨n - 1,by lia⟩;rw[vK h];unfold eP;simp only[Bool.false_eq_true,if_false,Nat.add_zero,hl,if_true,List.nil_append];exact q
noncomputable def qe:Ts:=(.cons (.ifs (.cmp .Lt (.var 1) (.bi .len (.cons (.var 0) .nil))) (.cons (.ret (.idx (.var 0) (.var 1))) .nil) .nil) (.cons (.asg 2 (.bin .Add (.bin .Mult (.var 1) (.con (.int 7919))) (.con (.int 5)))) (.cons (.ifs (.cmp .Gt (.bi .len (.cons (.var 0) .nil)) (.con (.int 0))) (.cons (.asg 2 (.bin .Add (.bin .Add (.bin .Mult (.bin .Mod (.idx (.var 0) (.bin .Mod (.var 1) (.bi .len (.cons (.var 0) .nil)))) (.con (.int 2147483647))) (.con (.int 48271))) (.bin .Mult (.bin .Mult (.var 1) (.var 1)) (.con (.int 7919)))) (.con (.int 11)))) .nil) .nil) (.cons (.ret (.bin .Mod (.bin .Mult (.var 2) (.var 2)) (.con (.int 2147483629)))) .nil))))
theorem qy {ns:List Int} {k:Nat} (h:k < ns.length):bj (.bR ns) (.int k)= .ok (.int ns[k]):=by show u5 (ns.map Dt.int) k=_;unfold u5;rw[L2.iu (v:= .int ns[k]) (by simp[h])]
noncomputable def gL (ns:List Int) (k:Nat):Int:=if h:k < ns.length then ns[k] else
 let m:Int:=if h:0 < ns.length then ns[k % ns.length]'(Nat.mod_lt _ h) % 2147483647 * 48271 + k * k * 7919 + 11 else k * 7919 + 5
 m * m % 2147483629
theorem wW {fs:List Fn} {ic:Nat} (hc:fs[ic]?=some ⟨2,3,false,qe⟩) {n:Nat} (hn:1<=n) {ns:List Int} {k:Nat} (hk:k < 1000000):a9 fs n ic [.bR ns,.int k] none= .ok (.int (gL ns k),none):=by
 refine bg hc hn rfl ?_;show fin (aQ (a9 fs (n - 1)) qe [some (.bR ns),some (.int k),none] none)=_;by_cases h:k < ns.length
 ·refine gI (S1:=none) (by simp only[RX];simp[h]) ?_;exact(aK (d:= .int ns[k]) (S1:=none) (by simp only[RX,qy h])).trans (by simp[gL,h])
 ·have b1:(k:Int) * k<=1000000 * 1000000:=by
   have:k * k<=1000000 * 1000000:=Nat.mul_le_mul (by lia) (by lia);rw[<-Int.natCast_mul]
   lia
  have b0:(0:Int)<=(k:Int) * k:=Int.mul_nonneg (by lia) (by lia);have m1:=bp (i:=k) (j:=7919) (.inl (by lia));refine dN (S1:=none) (by simp only[RX];simp;lia) (aG (d:= .int (k * 7919 + 5)) (S1:=none) (by simp only[RX,m1]) rfl ?_);by_cases h2:0 < ns.length
  ·have hm:=Nat.mod_lt k h2;have e1:((k:Int) % (ns.length:Int))=((k % ns.length:Nat):Int):=by simp
   generalize hx:ns[k % ns.length]=x;have r1:=Kb x (b:=2147483647) (by decide);have r2:=Kc x (b:=2147483647) (by decide);have m2:=cN (i:=k) (j:=ns.length) (by lia);rw[e1] at m2;have m3:=cN (i:=x) (j:=2147483647) (by decide);have m4:=bp (i:=x % 2147483647) (j:=48271) (.inl (by lia));have m5:=bp (i:=k) (j:=k) (.inl (by lia));have m6:=bp (i:=(k:Int) * k) (j:=7919) (.inl (by lia));have m7:=bp (i:=x % 2147483647 * 48271 + k * k * 7919 + 11) (j:=x % 2147483647 * 48271 + k * k * 7919 + 11) (.inl (by lia));have m8:=cN (i:=(x % 2147483647 * 48271 + k * k * 7919 + 11) * (x % 2147483647 * 48271 + k * k * 7919 + 11)) (j:=2147483629) (by decide);refine gI (S1:=none) (by simp only[RX];simp;lia) (aG (d:= .int (x % 2147483647 * 48271 + k * k * 7919 + 11)) (S1:=none) ?_ rfl ?_)
   ·simp only[RX,m2,m3,m4,m5,m6,qy hm,hx]
   ·refine(aK (d:=_) (S1:=none) (by simp only[RX,m7,m8];rfl)).trans ?_;simp[gL,h,h2,hx]
  ·have z0:decide ((0:Int) < ns.length)=false:=JX (by lia);have m7:=bp (i:=k * 7919 + 5) (j:=k * 7919 + 5) (.inl (by lia));have m8:=cN (i:=((k:Int) * 7919 + 5) * (k * 7919 + 5)) (j:=2147483629) (by decide);refine dN (S1:=none) (by simp only[RX,z0]) ((aK (d:=_) (S1:=none) (by simp only[RX,m7,m8];rfl)).trans ?_);simp[gL,h,h2]
section
variable {F:FT} {S S1 S2:Sx} {ρ ρ1:ai} {ts:Ts} {r:RS} {d:Dt} {ds:List Dt}
theorem nx {t:T} (h:ex F t ρ S= .ok (.next,ρ1,S1)) (k:aQ F ts ρ1 S1=r):aQ F (.cons t ts) ρ S=r:=by rw[aQ,h];exact k
theorem kD {i:Nat} {c:C} (h:ev F c ρ S= .ok (d,S1)) (hs:b5 c d=true) (k:aQ F ts (ρ.set i (some d)) S1=r):aQ F (.cons (.asg i c) ts) ρ S=r:=by refine nx ?_ k;rw[ex,h,R.ak,hs];rfl
theorem vC {i:Nat} {c:C} (h:ev F c ρ S= .ok (d,S1)) (hs:gN c d=true) (k:aQ F ts (ρ.set i (some d)) S1=r):aQ F (.cons (.asgM i c) ts) ρ S=r:=by refine nx ?_ k;rw[ex,h,R.ak,hs];rfl
theorem xP {t:C} {a b:Ts} {x:Bool} (h:cg F t ρ S= .ok (x,S1)) (k:aQ F ((if x=true then a else b).app ts) ρ S1=r):aQ F (.cons (.ifs t a b) ts) ρ S=r:=by rw[<-k,lF,aQ,ex,h,R.ak];cases x <;> rfl
theorem y9 {t:C} {a b:Ts} (h:cg F t ρ S= .ok (true,S1)) (k:aQ F (a.app ts) ρ S1=r):aQ F (.cons (.ifs t a b) ts) ρ S=r:=xP h (by rw[if_pos rfl];exact k)
theorem wu {t:C} {a b:Ts} (h:cg F t ρ S= .ok (false,S1)) (k:aQ F (b.app ts) ρ S1=r):aQ F (.cons (.ifs t a b) ts) ρ S=r:=xP h (by rw[if_neg (by simp)];exact k)
theorem sr {tg:Tg} {it:jV} {b:Ts} (h:cw F it ρ S= .ok (ds,S1)) (hl:nu it=0) (hf:forL tg (aQ F b) ds ρ S1= .ok (.next,ρ1,S2)) (k:aQ F ts ρ1 S2=r):aQ F (.cons (.fr tg it b) ts) ρ S=r:=by refine nx ?_ k;rw[ex,h,R.ak,J1 hl,Bool.true_or];exact hf
theorem p8 {i:Nat} (hl:ρ[i]?=some (some (.lst ds))):isLE ρ i=true:=by unfold isLE;rw[hl]
theorem lh {i:Nat} (hl:ρ[i]?=some (some (.lst ds))):mH ρ i= .ok ds:=by unfold mH;rw[hl]
theorem Ae {i:Nat} {c:C} (hl:ρ[i]?=some (some (.lst ds))) (h:ev F c ρ S= .ok (d,S1)) (hs:b5 c d=true) (hz:ds.length<=lim):ex F (.app i c) ρ S= .ok (.next,ρ.set i (some (.lst (ds++[d]))),S1):=by simp_all [ex,p8,guard_true,R.ak,lh]
theorem wA {i:Nat} {k v:C} {n:Int} {j:Nat} (hl:ρ[i]?=some (some (.lst ds))) (h:ev F v ρ S= .ok (d,S1)) (h2:ev F k ρ S1= .ok (.int n,S2)) (hs:b5 v d=true) (hz:rO ds.length n=some j):ex F (.tG i k v) ρ S= .ok (.next,ρ.set i (some (.lst (ds.set j d))),S2):=by simp_all [ex,p8,guard_true,R.ak,lh,rO]
theorem za {i:Nat} (hl:ρ[i]?=some (some (.lst ds))):ex F (.clr i) ρ S= .ok (.next,ρ.set i (some (.lst [])),S):=by rw[ex,lh hl];rfl
theorem lj {i:Nat} {c:C} (hl:ρ[i]?=some (some (.lst ds))) (h:ev F c ρ S= .ok (d,S1)) (hs:b5 c d=true) (hz:ds.length<=lim) (k:aQ F ts (ρ.set i (some (.lst (ds++[d])))) S1=r):aQ F (.cons (.app i c) ts) ρ S=r:=nx (Ae hl h hs hz) k
theorem ei {c:C} {n:Nat} (h:ev F c ρ S= .ok (.int n,S1)) (hn:n<=lim):cw F (.rng1 c) ρ S= .ok (bc 0 n,S1):=by show (ev F c ρ S).bind (λx=>match x.1 with | .int j=>ah (decide (j<=lim)&&decide (-lim<=j)) (.ok (bc 0 j.toNat,x.2)) | _=> .bad)=_;rw[h,R.ak];show ah (decide ((n:Int)<=lim)&&decide (-lim<=(n:Int))) (R.ok (bc 0 (n:Int).toNat,S1))=_;rw[show (decide ((n:Int)<=lim)&&decide (-lim<=(n:Int)))=true by have:lim=1000000:=rfl;simp;lia];simp
theorem zd {a b:C} {da db:Dt} {xs ys:List Dt} (ha:ev F a ρ S= .ok (da,S1)) (hb:ev F b ρ S1= .ok (db,S2)) (h1:c6 da=some xs) (h2:c6 db=some ys):cw F (.zip a b) ρ S= .ok (gO xs ys,S2):=by grind [ev,c6,gO,R.ak,C,Dt,cw]
noncomputable def eg (F:FT) (e:C):ai->Sx->R (List Dt×Sx):=λρ1 S1=>(ev F e ρ1 S1).bind λy=>ah (b5 e y.1) (.ok ([y.1],y.2))
theorem fM {cap:List (Option Nat)} {it:jV} {tg:Tg} {cs:Cs} {e:C} {out:List Dt} (h:cw F it ρ S= .ok (ds,S1)) (hl:ds.length<=lim) (hk:(decide (nu it<=1)||iK F it ρ S)=true) (hc:bb (bu tg (bY F cs) (eg F e) (gS cap ρ)) ds S1= .ok (out,S2)):
  ev F (.comp cap it tg cs e) ρ S= .ok (.lst out,S2):=by
 rw[ev,h,R.ak,J1 hl,hk,Bool.and_true,guard_true];show (bb (bu tg (bY F cs) (eg F e) (gS cap ρ)) ds S1).bind _=_;rw[hc];rfl
theorem df {tg:Tg} {e:C} {y:Dt} (hs:cm tg d ρ= .ok ρ1) (he:ev F e ρ1 S= .ok (y,S1)) (hb:b5 e y=true):bu tg (bY F .nil) (eg F e) ρ d S= .ok ([y],S1):=by simp_all [bu,eg,R.ak,bY,guard_true]
theorem turn_if {tg:Tg} {c e:C} {b:Bool} {y:Dt} (hs:cm tg d ρ= .ok ρ1) (hc:cg F c ρ1 S= .ok (b,S)) (he:b=true->ev F e ρ1 S= .ok (y,S)/\b5 e y=true):bu tg (bY F (.cons c .nil)) (eg F e) ρ d S= .ok (if b=true then[y] else[],S):=by grind [bu,eg,R.ak,bY,guard_true]
theorem nS {k:Nat} (h:ds[k]?=some d):bj (.tup ds) (.int k)= .ok d/\bj (.lst ds) (.int k)= .ok d:=by
 have:u5 ds k= .ok d:=by unfold u5;rw[L2.iu h]
 exact⟨this,this⟩
end
mutual
theorem CN:∀m:Mx.D,pl (ofD m)=true
 | .int _=>by simp[ofD,pl]
 | .str _=>by simp[ofD,pl]
 | .tup ms=>by simp[ofD,pl,nE ms]
theorem nE:∀ms:List Mx.D,nr (aa ms)=true
 | []=>by simp[aa,nr]
 | m::ms=>by simp[aa,nr,CN m,nE ms]
end
mutual
theorem CI:∀m:Mx.D,dp (ofD m)=Mx.D.dep m
 | .int _=>by simp[ofD,dp,Mx.D.dep]
 | .str _=>by simp[ofD,dp,Mx.D.dep]
 | .tup ms=>by simp[ofD,dp,Mx.D.dep,kY ms]
theorem kY:∀ms:List Mx.D,qD (aa ms)=Mx.D.cj ms
 | []=>by simp[aa,qD,Mx.D.cj]
 | m::ms=>by simp[aa,qD,Mx.D.cj,CI m,kY ms]
end
mutual
theorem ff:∀m:Mx.D,jy (ofD m)=true
 | .int _=>by simp[ofD,jy]
 | .str _=>by simp[ofD,jy]
 | .tup ms=>by simp[ofD,jy,lD ms]
theorem lD:∀ms:List Mx.D,eU (aa ms)=true
 | []=>by simp[aa,eU]
 | m::ms=>by simp[aa,eU,ff m,lD ms]
end
mutual
theorem Bi:∀a b:Mx.D,bM (ofD a) (ofD b)=Mx.D.eL a b
 | .int i,.int j=>by simp[ofD,bM,Mx.D.eL]
 | .str i,.str j=>by simp[ofD,bM,Mx.D.eL]
 | .tup i,.tup j=>by simp[ofD,bM,Mx.D.eL,nM i j]
 | .int _,.str _=>by simp[ofD,bM,Mx.D.eL]
 | .int _,.tup _=>by simp[ofD,bM,Mx.D.eL]
 | .str _,.int _=>by simp[ofD,bM,Mx.D.eL]
 | .str _,.tup _=>by simp[ofD,bM,Mx.D.eL]
 | .tup _,.int _=>by simp[ofD,bM,Mx.D.eL]
 | .tup _,.str _=>by simp[ofD,bM,Mx.D.eL]
theorem nM:∀a b:List Mx.D,bE (aa a) (aa b)=Mx.D.eqs a b
 | [],[]=>by simp[aa,bE,Mx.D.eqs]
 | [],_::_=>by simp[aa,bE,Mx.D.eqs]
 | _::_,[]=>by simp[aa,bE,Mx.D.eqs]
 | a::as,b::bs=>by simp[aa,bE,Mx.D.eqs,Bi a b,nM as bs]
end
theorem aY (a b:List Mx.D):aa (a++b)=aa a++aa b:=by simp[aO]
theorem ao (a:List Mx.D):(aa a).length=a.length:=by simp[aO]
theorem oI {pre post:List Dt} {x:Dt} {a:List Mx.D} (h:aa a=pre++x::post):∃p y q,a=p++y::q/\pre=aa p/\x=ofD y/\post=aa q:=by rw[aO] at h;obtain⟨p,r,e1,e2,e3⟩:=List.map_eq_append_iff.mp h;obtain⟨y,q,e4,e5,e6⟩:=List.map_eq_cons_iff.mp e3;exact⟨p,y,q,by rw[e1,e4],by rw[aO,e2],e5.symm,by rw[aO,e6]⟩
theorem ek {ms:List Mx.D} (h:gu ms=true):ez .sorted [.lst (aa ms)]= .ok (.lst (aa (aW ms)))/\ez .sorted [.tup (aa ms)]= .ok (.lst (aa (aW ms))):=by
 constructor
 ·show (match iR (aa ms) with | some ms=>ah (gu ms) (R.ok (Dt.lst (aa (aW ms)))) | none=> .bad)=_;rw[eD];show ah (gu ms) _=_;rw[h];rfl
 ·show (match iR (aa ms) with | some ms=>ah (gu ms) (R.ok (Dt.lst (aa (aW ms)))) | none=> .bad)=_;rw[eD];show ah (gu ms) _=_;rw[h];rfl
theorem nU {ms:List Mx.D} (k:Mx.SK) (hl:ms.length < 64) (hd:Mx.D.cj ms<=100) (hk:∀d∈ms,Bq k d=true) (hp:∀d∈ms,∀e∈ms,gh d e=true):gu ms=true:=by
 have AI:([Mx.SK.tt,.ts,.ti,.s,.i].any λk=>ms.all (Bq k))=true:=by rw[Ka];exact⟨k,by cases k <;> simp,J9.mpr hk⟩
 unfold gu;rw[AI,J1 hl,J1 hd];simp only[Bool.true_and,Ke,Jz];exact .inr (J9.mpr λd h=>J9.mpr λe h2=>hp d h e h2)
theorem bI {n:Nat}:∀{ms:List Mx.D},(∀d∈ms,Mx.D.dep d<=n)->Mx.D.cj ms<=n
 | [],_=>by simp[Mx.D.cj]
 | m::ms,h=>by
  have h1:=h m JF;have h2:=bI λd hd=>h d (JD _ hd)
  simp only[Mx.D.cj]
  lia
theorem dz (ms:List Mx.D):(aW ms).Perm ms:=List.mergeSort_perm ..
theorem eB {d:Mx.D} {ms:List Mx.D}:d∈aW ms↔d∈ms:=(dz ms).mem_iff
theorem qM (a b c:Mx.D) (h1:nv a b=true) (h2:nv b c=true):nv a c=true:=by
 unfold nv at *;simp only[Bool.not_eq_true'] at *;cases h:Mx.D.lt c a with
 | false=>rfl
 | true=>
  exfalso;cases h3:Mx.D.lt a b with
  | true=>rw[Mx.D.lt_trans c a b h h3] at h2;cases h2
  | false=>have:=Mx.D.cY a b h3 h1;subst this;rw[h] at h2;cases h2
theorem qX (a b:Mx.D):(nv a b||nv b a)=true:=by
 unfold nv;cases h:Mx.D.lt b a with
 | false=>rfl
 | true=>
  cases h2:Mx.D.lt a b with
  | false=>rfl
  | true=>have:=Mx.D.lt_trans a b a h2 h;rw[Mx.D.lt_irrefl] at this;cases this
theorem kv (ms:List Mx.D):(aW ms).Pairwise λa b=>nv a b=true:=List.pairwise_mergeSort qM qX ms
theorem iN:∀{a b:List Mx.D},a.Pairwise (λx y=>Mx.D.lt x y=true)->b.Pairwise (λx y=>Mx.D.lt x y=true)->(∀x,x∈a↔x∈b)->a=b
 | [],[],_,_,_=>rfl
 | [],y::b,_,_,h=>by have:=(h y).mpr JF;cases this
 | x::a,[],_,_,h=>by have:=(h x).mp JF;cases this
 | x::a,y::b,ha,hb,h=>by
  have Fu:=List.pairwise_cons.mp ha;have rR:=List.pairwise_cons.mp hb;have HJ:x=y:=by
   rcases JK.mp ((h x).mp JF) with e | e
   ·exact e
   ·rcases JK.mp ((h y).mpr JF) with e2 | e2
    ·exact e2.symm
    ·have:=Mx.D.lt_trans x y x (Fu.1 y e2) (rR.1 x e);rw[Mx.D.lt_irrefl] at this;cases this
  subst HJ;rw[iN Fu.2 rR.2 λz=>?_];constructor
  ·intro hz;rcases JK.mp ((h z).mp (JD _ hz)) with e | e
   ·subst e;have:=Fu.1 z hz;rw[Mx.D.lt_irrefl] at this;cases this
   ·exact e
  ·intro hz;rcases JK.mp ((h z).mpr (JD _ hz)) with e | e
   ·subst e;have:=rR.1 z hz;rw[Mx.D.lt_irrefl] at this;cases this
   ·exact e
theorem uL {a b:Mx.D} (h:nv a b=true) (n:a≠b):Mx.D.lt a b=true:=by
 unfold nv at h;cases h2:Mx.D.lt a b with
 | true=>rfl
 | false=>exact absurd (Mx.D.cY a b h2 (by simpa using h)) n
theorem gC {ms:List Mx.D} (h:ms.Nodup):(aW ms).Pairwise λa b=>Mx.D.lt a b=true:=by have h1:=kv ms;have h2:(aW ms).Nodup:=(dz ms).nodup_iff.mpr h;exact h1.imp₂ (λa b x y=>uL x y) h2
variable {fs:List Fn}
noncomputable def sX (ic:Nat):Ts:=(.cons (.asg 3 (.bin .Add (.bin .Mult (.bin .Mod (.call ic (.cons (.var 0) (.cons (.var 1) .nil)) []) (.con (.int 2147483647))) (.bin .Add (.con (.int 48271)) (.bin .Mult (.con (.int 2)) (.var 1)))) (.bin .Mult (.con (.int 31)) (.var 1)))) (.cons (.ret (.bin .Mod (.bin .FloorDiv (.bin .Mod (.var 3) (.con (.int 2147483629))) (.con (.int 7))) (.var 2))) .nil))
noncomputable def bH (ns:List Int) (k many:Nat):Nat:=((((gL ns k % 2147483647) * (48271 + 2 * k) + 31 * k) % 2147483629 / 7) % many).toNat
theorem cc {ns:List Int} {k many:Nat} (h:0 < many):bH ns k many < many:=by
 unfold bH;have h1:=Kb (((gL ns k % 2147483647) * (48271 + 2 * k) + 31 * k) % 2147483629 / 7) (b:=many) (by lia);have h2:=Kc (((gL ns k % 2147483647) * (48271 + 2 * k) + 31 * k) % 2147483629 / 7) (b:=many) (by lia)
 lia
structure kL (fs:List Fn) (ip:Nat):Prop where
 ex:∃ic,fs[ic]?=some ⟨2,3,false,qe⟩/\fs[ip]?=some ⟨3,4,false,sX ic⟩
theorem pN {ip:Nat} (hp:kL fs ip) {n:Nat} (hn:2<=n) {ns:List Int} {k many:Nat} (hk:k < 1000000) (hm:0 < many):a9 fs n ip [.bR ns,.int k,.int many] none= .ok (.int (bH ns k many),none):=by
 obtain⟨ic,h1,h2⟩:=hp.ex;refine bg h2 (by lia) rfl ?_;show fin (aQ (a9 fs (n - 1)) (sX ic) [some (.bR ns),some (.int k),some (.int many),none] none)=_;have hc:=wW h1 (n:=n - 1) (by lia) (ns:=ns) hk;generalize hx:gL ns k=x at hc;have r1:=Kb x (b:=2147483647) (by decide);have r2:=Kc x (b:=2147483647) (by decide);have m1:=cN (i:=x) (j:=2147483647) (by decide);have m2:=bp (i:=2) (j:=k) (.inl (by decide));have m3:=bp (i:=x % 2147483647) (j:=48271 + 2 * k) (.inl (by lia));have m4:=bp (i:=31) (j:=k) (.inl (by decide));have m5:=cN (i:=x % 2147483647 * (48271 + 2 * k) + 31 * k) (j:=2147483629) (by decide);have m6:=sZ (i:=(x % 2147483647 * (48271 + 2 * k) + 31 * k) % 2147483629) (j:=7) (by decide) (by decide);have m7:=cN (i:=(x % 2147483647 * (48271 + 2 * k) + 31 * k) % 2147483629 / 7) (j:=many) (by lia);refine aG (d:= .int (x % 2147483647 * (48271 + 2 * k) + 31 * k)) (S1:=none) (by simp only[RX,hc,m1,m2,m3,m4]) rfl ?_;refine(aK (d:=_) (S1:=none) (by simp only[RX,m5,m6,m7];rfl)).trans ?_;have h1:=Kb (((x % 2147483647) * (48271 + 2 * k) + 31 * k) % 2147483629 / 7) (b:=many) (by lia);have e:((bH ns k many:Nat):Int)=((x % 2147483647) * (48271 + 2 * k) + 31 * k) % 2147483629 / 7 % many:=by unfold bH;rw[hx];omega
 rw[e]
theorem lu {z:Str} {k:Nat} (hz:z.length<=lim) (h:k < z.length):∃c,bj (.str z) (.int k)= .ok (.str ⟨#[c]⟩):=by
 have GO:z.cps.toList.length=z.length:=by simp[Str.length]
 refine⟨z.cps.toList[k],?_⟩;show ah (decide (z.length<=lim)) (match mB z.cps.toList k with | some c=>R.ok (Dt.str ⟨#[c]⟩) | none=> .bad)=_;rw[J1 hz,guard_true,L2.iu (v:=z.cps.toList[k]) (JW _)]
theorem dq {a b:Str} (h:a.length + b.length<=lim):mC .Add (.str a) (.str b)= .ok (.str (a++b)):=by show ah (decide (a.length + b.length<=lim)) _=_;rw[J1 h];rfl
theorem len_str {z:Str} (h:z.length<=lim):ez .len [.str z]= .ok (.int z.length):=by show ah (decide (z.length<=lim)) _=_;rw[J1 h];rfl
theorem ko {z:Str} {lo hi:Option Int} (h:z.length<=lim):eF (.str z) lo hi= .ok (.str (PySem.Txt.slice z lo hi)):=by show ah (decide (z.length<=lim)) _=_;rw[J1 h];rfl
theorem len_cat (a b:Str):(a++b).length=a.length + b.length:=Str.length_append ..
theorem mM {z:Str} {k:Nat} {d} (hz:z.length<=lim) (h:k < z.length):bj (.str z) (.int k)= .ok (.str ⟨#[z.cps.toList.getD k d]⟩):=by
 have GO:k < z.cps.toList.length:=by simpa [Str.length] using h
 show ah (decide (z.length<=lim)) (match mB z.cps.toList k with | some c=>R.ok (Dt.str ⟨#[c]⟩) | none=> .bad)=_;rw[J1 hz,guard_true,L2.iu (v:=z.cps.toList[k]) (JW _)];rw[List.getD,JW GO];rfl
theorem oF {a b:Str} {x y} (h:a++⟨#[x]⟩++b=a++⟨#[y]⟩++b):x=y:=by
 have h2:=congrArg (λz:Str=>z.cps.toList) h;have e:∀u v:Str,(u++v).cps.toList=u.cps.toList++v.cps.toList:=λu v=>by show (u.cps++v.cps).toList=_;simp
 simp only[e,JM] at h2;simpa using List.append_cancel_left h2
theorem eV {α:Type} {l:List α} {d:α} (hn:l.Nodup) {i j:Nat} (hi:i < l.length) (hj:j < l.length) (h:l.getD i d=l.getD j d):i=j:=by
 simp only[List.getD,JW hi,JW hj,Option.getD_some] at h;have hp:=List.pairwise_iff_getElem.mp hn;rcases Nat.lt_trichotomy i j with z | z | z
 ·exact absurd h (hp i j hi hj z)
 ·exact z
 ·exact absurd h.symm (hp j i hj hi z)
noncomputable def qw:Ts:=(.cons (.asg 8 (.idx (.var 2) (.bin .Mod (.bin .Add (.var 6) (.bin .Mult (.con (.int 7)) (.var 4))) (.con (.int 26))))) (.cons (.app 7 (.bin .Add (.bin .Add (.sliH (.var 3) (.var 5)) (.var 8)) (.sliL (.var 3) (.var 5)))) .nil))
noncomputable def oy (ip:Nat):Ts:=(.cons (.asg 3 (.con (.str ""))) (.cons (.fr (.nm 4) (.rng1 (.call ip (.cons (.var 0) (.cons (.var 1) (.cons (.con (.int 6)) .nil))) [])) (.cons (.asg 3 (.bin .Add (.var 3) (.idx (.var 2) (.call ip (.cons (.var 0) (.cons (.bin .Add (.bin .Add (.var 1) (.bin .Mult (.con (.int 11)) (.var 4))) (.con (.int 1))) (.cons (.con (.int 26)) .nil))) [])))) .nil)) (.cons (.asg 5 (.call ip (.cons (.var 0) (.cons (.bin .Add (.var 1) (.con (.int 2))) (.cons (.bin .Add (.bi .len (.cons (.var 3) .nil)) (.con (.int 1))) .nil))) [])) (.cons (.asg 6 (.call ip (.cons (.var 0) (.cons (.bin .Add (.var 1) (.con (.int 3))) (.cons (.con (.int 26)) .nil))) [])) (.cons (.ifs (.cmp .Eq (.call ip (.cons (.var 0) (.cons (.bin .Add (.var 1) (.con (.int 4))) (.cons (.con (.int 3)) .nil))) []) (.con (.int 0))) (.cons (.asg 3 (.bin .Add (.sliH (.var 3) (.con (.int 3))) (.idx (.var 2) (.var 6)))) (.cons (.ret (.lst (.cons (.var 3) (.cons (.bin .Add (.var 3) (.idx (.var 2) (.var 5))) (.cons (.bin .Add (.bin .Add (.var 3) (.idx (.var 2) (.var 5))) (.idx (.var 2) (.var 6))) .nil))))) .nil)) .nil) (.cons (.asgM 7 (.lst .nil)) (.cons (.fr (.nm 4) (.rng1 (.con (.int 3))) qw) (.cons (.ret (.mvr 7)) .nil))))))))
theorem gv {n:Nat} {pre post:List Dt} {x:Dt} (h:bc 0 n=pre++x::post):pre.length < n/\x= .int pre.length:=by
 have hl:(bc 0 n).length=n:=by simp[bc]
 have h1:pre.length < n:=by rw[<-hl,h];simp
 refine⟨h1,?_⟩;have e:(bc 0 n)[pre.length]?=some x:=by rw[h];simp
 unfold bc at e;simp[h1] at e;exact e.symm
theorem tw {ip im:Nat} (hp:kL fs ip) (hf:fs[im]?=some ⟨3,9,false,oy ip⟩) {n:Nat} (hn:3<=n) {ns:List Int} {k:Nat} {L:Str} (hk:k < 100000) (hL:L.length=26) (hD:L.cps.toList.Nodup):∃a b c,a9 fs n im [.bR ns,.int k,.str L] none= .ok (.lst [.str a,.str b,.str c],none)/\a≠b/\b≠c/\a≠c:=by
 have jo:lim=1000000:=rfl;have iX:=cc (ns:=ns) (k:=k) (many:=6) (by decide);have P:=λ(k many:Nat) (h1:k < 1000000) (h2:0 < many)=>pN hp (n:=n - 1) (by lia) (ns:=ns) h1 h2
 have loop:=cZ (S:=none) (tg:= .nm 4) (body:=aQ (a9 fs (n - 1)) (.cons (.asg 3 (.bin .Add (.var 3) (.idx (.var 2) (.call ip (.cons (.var 0) (.cons (.bin .Add (.bin .Add (.var 1) (.bin .Mult (.con (.int 11)) (.var 4))) (.con (.int 1))) (.cons (.con (.int 26)) .nil))) [])))) .nil)) (ds:=bc 0 (bH ns k 6))
  (ρ:=[some (.bR ns),some (.int k),some (.str L),some (.str ""),none,none,none,none,none])
  (λpre ρ=>∃w jv,w.length<=pre.length/\ρ=[some (.bR ns),some (.int k),some (.str L),some (.str w),jv,none,none,none,none]) ⟨"",none,JE _,rfl⟩ (by
   rintro pre x post ρ e ⟨w,jv,hw,rfl⟩;obtain⟨h1,rfl⟩:=gv e;have Gz:=P (k + 11 * pre.length + 1) 26 (by lia) (by decide);have cO:=cc (ns:=ns) (k:=k + 11 * pre.length + 1) (many:=26) (by decide);obtain⟨c,hc⟩:=lu (z:=L) (k:=bH ns (k + 11 * pre.length + 1) 26) (by lia) (by lia);have m1:=bp (i:=11) (j:=pre.length) (.inl (by decide));have ca:=dq (a:=w) (b:=⟨#[c]⟩) (by show w.length + 1<=lim;lia);refine⟨_,_,rfl,kD (d:= .str (w++⟨#[c]⟩)) (S1:=none) ?_ rfl rfl,w++⟨#[c]⟩,_,?_,rfl⟩
   ·rw[show ((k + 11 * pre.length + 1:Nat):Int)=(k:Int) + 11 * pre.length + 1 by lia] at Gz;simp only[RX,m1];rw[show ([Dt.bR ns,.int ((k:Int) + 11 * pre.length + 1),.int 26]:List Dt)=[.bR ns,.int ((k:Int) + 11 * pre.length + 1),.int (26:Nat)] from rfl,Gz];simp only[RX,hc,ca]
   ·rw[len_cat,JO];show w.length + 1<=_;simp;lia)
 obtain⟨ρ1,dI,w,jv,hw,rfl⟩:=loop;have DS:w.length<=5:=by
  have:(bc 0 (bH ns k 6)).length=bH ns k 6:=by simp[bc]
  lia
 have p2:=P (k + 2) (w.length + 1) (by lia) (by lia);have l2:=cc (ns:=ns) (k:=k + 2) (many:=w.length + 1) (by lia);have p3:=P (k + 3) 26 (by lia) (by decide);have l3:=cc (ns:=ns) (k:=k + 3) (many:=26) (by decide);have p4:=P (k + 4) 3 (by lia) (by decide);generalize bH ns (k + 2) (w.length + 1)=at' at p2 l2;generalize bH ns (k + 3) 26=fi at p3 l3;generalize bH ns (k + 4) 3=q4 at p4;have hlen:=len_str (z:=w) (by lia);obtain⟨cf,Gw⟩:=lu (z:=L) (k:=fi) (by lia) (by lia);obtain⟨ca,Gj⟩:=lu (z:=L) (k:=at') (by lia) (by lia);have s3:=ko (z:=w) (lo:=none) (hi:=some 3) (by lia);have e3:=PySem.Txt.slice_le w none (some 3);generalize PySem.Txt.slice w none (some 3)=w3 at s3 e3;have Jt:((26:Nat):Int)=26:=rfl;have head:∃a b c,fin (aQ (a9 fs (n - 1)) (oy ip) [some (.bR ns),some (.int k),some (.str L),none,none,none,none,none,none] none)= .ok (.lst [.str a,.str b,.str c],none)/\a≠b/\b≠c/\a≠c:=by
  by_cases h4:q4=0
  ·subst h4;have c1:=dq (a:=w3) (b:=⟨#[cf]⟩) (by show w3.length + 1<=lim;lia);have c2:=dq (a:=w3++⟨#[cf]⟩) (b:=⟨#[ca]⟩) (by rw[len_cat];show w3.length + 1 + 1<=lim;lia);have c3:=dq (a:=w3++⟨#[cf]⟩++⟨#[ca]⟩) (b:=⟨#[cf]⟩) (by rw[len_cat,len_cat];show w3.length + 1 + 1 + 1<=lim;lia);refine⟨w3++⟨#[cf]⟩,w3++⟨#[cf]⟩++⟨#[ca]⟩,w3++⟨#[cf]⟩++⟨#[ca]⟩++⟨#[cf]⟩,?_,λz=>?_,λz=>?_,λz=>?_⟩
   rotate_left
   ·have:=congrArg Str.length z;simp only[len_cat] at this;have:(⟨#[ca]⟩:Str).length=1:=rfl;lia
   ·have:=congrArg Str.length z;simp only[len_cat] at this;have:(⟨#[cf]⟩:Str).length=1:=rfl;lia
   ·have:=congrArg Str.length z;simp only[len_cat] at this;have:(⟨#[cf]⟩:Str).length=1:=rfl;lia
   refine aG (d:= .str "") (S1:=none) rfl rfl (dG (ds:=bc 0 (bH ns k 6)) (S1:=none) (ei (by simp only[RX];exact congrArg (R.bind · _) (P k 6 (by lia) (by decide))) (by lia)) rfl dI ?_);refine aG (d:= .int at') (S1:=none) (by simp only[RX,hlen];exact congrArg (R.bind · _) p2) rfl ?_;refine aG (d:= .int fi) (S1:=none) (by simp only[RX];exact congrArg (R.bind · _) p3) rfl ?_;refine gI (S1:=none) (by simp only[RX];rw[show a9 fs (n - 1) ip [.bR ns,.int ((k:Int) + 4),.int 3] none=_ from p4];rfl) ?_;refine aG (d:= .str (w3++⟨#[cf]⟩)) (S1:=none) (by simp only[RX,s3,Gw,c1]) rfl ?_;exact aK (by simp only[RX,Gj,Gw,c2,c3])
  ·have l4:=λj:Nat=>Nat.mod_lt (fi + 7 * j) (y:=26) (by decide)
   have s5:=ko (z:=w) (lo:=none) (hi:=some (at':Int)) (by lia);have e5:=PySem.Txt.slice_le w none (some (at':Int));have s6:=ko (z:=w) (lo:=some (at':Int)) (hi:=none) (by lia);have e6:=PySem.Txt.slice_le w (some (at':Int)) none;generalize PySem.Txt.slice w none (some (at':Int))=wa at s5 e5;generalize PySem.Txt.slice w (some (at':Int)) none=wb at s6 e6;have hl:L.cps.toList.length=26:=by rw[<-hL];simp[Str.length]
   have Cn:=cZ (S:=none) (tg:= .nm 4) (body:=aQ (a9 fs (n - 1)) qw) (ds:=bc 0 3)
    (ρ:=[some (.bR ns),some (.int k),some (.str L),some (.str w),jv,some (.int at'),some (.int fi),some (.lst []),none])
    (λpre ρ=>∃jv s8,ρ=[some (.bR ns),some (.int k),some (.str L),some (.str w),jv,some (.int at'),some (.int fi),some (.lst ((List.range pre.length).map λj=>Dt.str (wa++⟨#[L.cps.toList.getD ((fi + 7 * j) % 26) cf]⟩++wb))),s8]) ⟨jv,none,rfl⟩ (by
     rintro pre x post ρ e ⟨jv,s8,rfl⟩;obtain⟨h1,rfl⟩:=gv e;have hc:=mM (z:=L) (k:=(fi + 7 * pre.length) % 26) (d:=cf) (by lia) (by have:=l4 pre.length;lia);rw[show (((fi + 7 * pre.length) % 26:Nat):Int)=((fi:Int) + 7 * pre.length) % 26 by lia] at hc;generalize hcc:L.cps.toList.getD ((fi + 7 * pre.length) % 26) cf=c at hc;have m1:=bp (i:=7) (j:=pre.length) (.inl (by decide));have m2:=cN (i:=(fi:Int) + 7 * pre.length) (j:=26) (by decide);have c1:=dq (a:=wa) (b:=⟨#[c]⟩) (by show wa.length + 1<=lim;lia);have c2:=dq (a:=wa++⟨#[c]⟩) (b:=wb) (by rw[len_cat];show wa.length + 1 + wb.length<=lim;lia);refine⟨_,_,rfl,kD (d:= .str ⟨#[c]⟩) (S1:=none) (by simp only[RX,m1,m2,hc]) rfl (lj (ds:=(List.range pre.length).map λj=>Dt.str (wa++⟨#[L.cps.toList.getD ((fi + 7 * j) % 26) cf]⟩++wb)) (d:= .str (wa++⟨#[c]⟩++wb)) (S1:=none) rfl (by simp only[RX,s5,s6,c1,c2]) rfl (by simp;lia) rfl),some (.int pre.length),some (.str ⟨#[c]⟩),?_⟩;rw[JO,List.length_singleton,List.range_succ,Ki,List.map_singleton,hcc];rfl)
   obtain⟨ρ2,yt,Jg,s8,rfl⟩:=Cn;refine⟨wa++⟨#[L.cps.toList.getD ((fi + 7 * 0) % 26) cf]⟩++wb,wa++⟨#[L.cps.toList.getD ((fi + 7 * 1) % 26) cf]⟩++wb,wa++⟨#[L.cps.toList.getD ((fi + 7 * 2) % 26) cf]⟩++wb,?_,λz=>?_,λz=>?_,λz=>?_⟩
   rotate_left
   ·have:=eV hD (by rw[hl];exact l4 0) (by rw[hl];exact l4 1) (oF z);lia
   ·have:=eV hD (by rw[hl];exact l4 1) (by rw[hl];exact l4 2) (oF z);lia
   ·have:=eV hD (by rw[hl];exact l4 0) (by rw[hl];exact l4 2) (oF z);lia
   refine aG (d:= .str "") (S1:=none) rfl rfl (dG (ds:=bc 0 (bH ns k 6)) (S1:=none) (ei (by simp only[RX];exact congrArg (R.bind · _) (P k 6 (by lia) (by decide))) (by lia)) rfl dI ?_);refine aG (d:= .int at') (S1:=none) (by simp only[RX,hlen];exact congrArg (R.bind · _) p2) rfl ?_;refine aG (d:= .int fi) (S1:=none) (by simp only[RX];exact congrArg (R.bind · _) p3) rfl ?_;refine dN (S1:=none) (by simp only[RX];rw[show a9 fs (n - 1) ip [.bR ns,.int ((k:Int) + 4),.int 3] none=_ from p4];simp only[RX];simp[h4]) ?_;refine eh (d:= .lst []) (S1:=none) rfl rfl (dG (ds:=bc 0 3) (S1:=none) (ei (n:=3) rfl (by decide)) rfl yt ?_);exact aK (by simp only[RX];rfl)
 obtain⟨a,b,c,h1,h2⟩:=head;exact⟨a,b,c,bg hf (by lia) rfl h1,h2⟩
variable {fs:List Fn}
mutual
noncomputable def sm:Dt->Bool
 | .int _=>true
 | .str _=>true
 | .tup ds=>vJ ds
 | .lst ds=>vJ ds
 | _=>false
noncomputable def vJ:List Dt->Bool
 | []=>true
 | d::ds=>sm d&&vJ ds
end
mutual
theorem CK:∀m:Mx.D,sm (ofD m)=true
 | .int _=>by simp[ofD,sm]
 | .str _=>by simp[ofD,sm]
 | .tup ms=>by simp[ofD,sm,nC ms]
theorem nC:∀ms:List Mx.D,vJ (aa ms)=true
 | []=>by simp[aa,vJ]
 | m::ms=>by simp[aa,vJ,CK m,nC ms]
end
theorem p9:∀{ds:List Dt} {d:Dt},vJ ds=true->d∈ds->sm d=true/\dp d<=qD ds
 | d::ds,x,h,hx=>by
  simp only[vJ,Jz] at h;simp only[qD];rcases JK.mp hx with rfl | hx
  ·exact⟨h.1,by lia⟩
  ·have:=p9 h.2 hx;exact⟨this.1,by lia⟩
noncomputable def mF (is:Nat):Ts:=(.cons (.ifs (.bi (.isi "str") (.cons (.var 1) .nil)) (.cons (.ret (.and (.bi (.isi "str") (.cons (.var 0) .nil)) (.cmp .Eq (.var 0) (.var 1)))) .nil) .nil) (.cons (.ifs (.bi (.isi "int") (.cons (.var 1) .nil)) (.cons (.ret (.and (.bi (.isi "int") (.cons (.var 0) .nil)) (.and (.nt (.bi (.isi "bool") (.cons (.var 0) .nil))) (.cmp .Eq (.var 0) (.var 1))))) .nil) .nil) (.cons (.ifs (.or (.cmp .NotEq (.bi (.isi "list") (.cons (.var 1) .nil)) (.bi (.isi "list") (.cons (.var 0) .nil))) (.cmp .NotEq (.bi (.isi "tuple") (.cons (.var 1) .nil)) (.bi (.isi "tuple") (.cons (.var 0) .nil)))) (.cons (.ret (.con (.bl false))) .nil) .nil) (.cons (.ifs (.cmp .NotEq (.bi .len (.cons (.var 0) .nil)) (.bi .len (.cons (.var 1) .nil))) (.cons (.ret (.con (.bl false))) .nil) .nil) (.cons (.fr (.tp [2,3]) (.zip (.var 0) (.var 1)) (.cons (.ifs (.nt (.call is (.cons (.var 2) (.cons (.var 3) .nil)) [])) (.cons (.ret (.con (.bl false))) .nil) .nil) .nil)) (.cons (.ret (.con (.bl true))) .nil))))))
theorem rf {ds pre post:List Dt} {x:Dt} (h:gO ds ds=pre++x::post):∃y∈ds,x= .tup [y,y]:=by
 have hx:x∈gO ds ds:=by rw[h];simp
 unfold gO at hx;have:List.zipWith (λx y=>Dt.tup [x,y]) ds ds=ds.map λy=>Dt.tup [y,y]:=by
  clear h hx
  induction ds with
  | nil=>rfl
  | cons d ds ih=>simp[ih]
 rw[this,J8] at hx;obtain⟨y,h1,h2⟩:=hx;exact⟨y,h1,h2.symm⟩
theorem pG {is:Nat} (hf:fs[is]?=some ⟨2,4,false,mF is⟩):∀(n:Nat) (d:Dt),sm d=true->dp d < n->a9 fs n is [d,d] none= .ok (.bl true,none)
 | 0,d,_,h=>by lia
 | n + 1,d,h,hd=>by
  have ih:=pG hf n;have main:∀ds:List Dt,vJ ds=true->qD ds < n->(d= .tup ds\/d= .lst ds)->a9 fs (n + 1) is [d,d] none= .ok (.bl true,none):=by
   intro ds hs hl hd;have hlen:ez .len [d]= .ok (.int ds.length):=by rcases hd with rfl | rfl <;> rfl
   have Dr:c6 d=some ds:=by rcases hd with rfl | rfl <;> rfl
   have i1:ez (.isi "str") [d]= .ok (.bl false):=by rcases hd with rfl | rfl <;> rfl
   have i2:ez (.isi "int") [d]= .ok (.bl false):=by rcases hd with rfl | rfl <;> rfl
   have i3:(∃b,ez (.isi "list") [d]= .ok (.bl b))/\∃b,ez (.isi "tuple") [d]= .ok (.bl b):=by rcases hd with rfl | rfl <;> exact⟨⟨_,rfl⟩,⟨_,rfl⟩⟩
   obtain⟨⟨b3,i3⟩,⟨b4,i4⟩⟩:=i3;have e3:∀b:Bool,cH .NotEq (.bl b) (.bl b)= .ok false:=λb=>by cases b <;> rfl
   have loop:=cZ (S:=none) (tg:= .tp [2,3]) (body:=aQ (a9 fs n) (.cons (.ifs (.nt (.call is (.cons (.var 2) (.cons (.var 3) .nil)) [])) (.cons (.ret (.con (.bl false))) .nil) .nil) .nil)) (ds:=gO ds ds)
    (ρ:=[some d,some d,none,none]) (λpre ρ=>∃a b,ρ=[some d,some d,a,b]) ⟨none,none,rfl⟩ (by
     rintro pre x post ρ e ⟨a,b,rfl⟩;obtain⟨y,hy,rfl⟩:=rf e;have:=p9 hs hy;have hc:=ih y this.1 (by lia);exact⟨[some d,some d,some y,some y],_,rfl,wu (S1:=none) (by simp only[RX,hc];rfl) rfl,some y,some y,rfl⟩)
   obtain⟨ρ1,dI,a,b,rfl⟩:=loop;refine bg hf (by lia) rfl ?_;show fin (aQ (a9 fs n) (mF is) [some d,some d,none,none] none)=_;refine dN (S1:=none) (by simp only[RX,i1]) (dN (S1:=none) (by simp only[RX,i2]) (dN (S1:=none) (by simp only[RX,i3,i4,e3];rfl) (dN (S1:=none) (by simp only[RX,hlen];simp) ?_)));refine dG (ds:=gO ds ds) (S1:=none) (zd (S1:=none) (S2:=none) rfl rfl Dr Dr) rfl dI (aK rfl)
  cases d with
  | str x=>refine bg hf (by lia) rfl ?_;show fin (aQ (a9 fs n) (mF is) [some (.str x),some (.str x),none,none] none)=_;have i1:ez (.isi "str") [.str x]= .ok (.bl true):=rfl;exact gI (S1:=none) (by simp only[RX,i1]) (aK (by simp only[RX,i1];simp))
  | int x=>refine bg hf (by lia) rfl ?_;show fin (aQ (a9 fs n) (mF is) [some (.int x),some (.int x),none,none] none)=_;have i1:ez (.isi "str") [.int x]= .ok (.bl false):=rfl;have i2:ez (.isi "int") [.int x]= .ok (.bl true):=rfl;have i3:ez (.isi "bool") [.int x]= .ok (.bl false):=rfl;exact dN (S1:=none) (by simp only[RX,i1]) (gI (S1:=none) (by simp only[RX,i2]) (aK (by simp only[RX,i2,i3,Bool.not_false];simp)))
  | tup ds=>exact main ds (by simpa [sm] using h) (by simp only[dp] at hd;lia) (.inl rfl)
  | lst ds=>exact main ds (by simpa [sm] using h) (by simp only[dp] at hd;lia) (.inr rfl)
  | _=>simp[sm] at h
noncomputable def kn (x:Str):Mx.D:= .tup [.str "any",.str x]
noncomputable def ofT (x:Str) (ps:List Mx.D):Mx.D:= .tup [.str "of",.str x,.tup ps]
noncomputable def Br (Q:Mx.D->Prop) (it:Mx.D):Prop:=(∃x,it=kn x)\/∃x ps,it=ofT x ps/\ps.length<=3/\∀p∈ps,Q p
noncomputable def DE (Q:Mx.D->Prop) (r:Mx.D):Prop:=∃it c,r= .tup [it,.int c]/\Br Q it
noncomputable def wM:Nat->Mx.D->Prop
 | 0,_=>False
 | n + 1,d=>∃rs,d= .tup rs/\rs.length<=4/\∀r∈rs,DE (wM n) r
theorem me {n m:Nat} {it:Mx.D} {Q:Mx.D->Prop} (hQ:∀d,Q d->Mx.D.dep d<=m) (hn:n=m + 2) (h:Br Q it):Mx.D.dep it<=n:=by
 rcases h with ⟨x,rfl⟩ | ⟨x,ps,rfl,_,hp⟩
 ·simp[kn,Mx.D.dep,Mx.D.cj];lia
 ·have:=bI λp yb=>hQ p (hp p yb)
  simp[ofT,Mx.D.dep,Mx.D.cj]
  lia
theorem lM:∀{n:Nat} {d:Mx.D},wM n d->Mx.D.dep d<=4 * n
 | 0,d,h=>h.elim
 | n + 1,d,⟨rs,e,_,h⟩=>by
  subst e;have:Mx.D.cj rs<=4 * n + 3:=bI λr hr=>by
   obtain⟨it,c,rfl,hi⟩:=h r hr;have:=me (n:=4 * n + 2) (λd hd=>lM hd) rfl hi;simp[Mx.D.dep,Mx.D.cj]
   lia
  simp only[Mx.D.dep]
  lia
theorem gq:∀{xs ys:List Mx.D},(∀x∈xs,∀y∈ys,gh x y=true)->f6 xs ys=true
 | [],_,_=>by simp[f6]
 | _::_,[],_=>by simp[f6]
 | x::xs,y::ys,h=>by simp only[f6,Jz];exact⟨h x JF y JF,gq λa ha b hb=>h a (JD _ ha) b (JD _ hb)⟩
theorem qu {P Q:Mx.D->Prop} {a b:Mx.D} (G6:∀p q,P p->Q q->gh p q=true) (ha:Br P a) (hb:Br Q b):gh a b=true:=by
 rcases ha with ⟨x,rfl⟩ | ⟨x,ps,rfl,_,hp⟩ <;> rcases hb with ⟨y,rfl⟩ | ⟨y,qs,rfl,_,hq⟩
 ·simp[kn,gh,f6]
 ·simp[kn,ofT,gh,f6]
 ·simp[kn,ofT,gh,f6]
 ·simp only[ofT,gh,f6,Bool.true_and,Bool.and_true];exact gq λp yb q hq'=>G6 p q (hp p yb) (hq q hq')
theorem lk_row {P Q:Mx.D->Prop} {a b:Mx.D} (G6:∀p q,P p->Q q->gh p q=true) (ha:DE P a) (hb:DE Q b):gh a b=true:=by grind [gh,f6,qu,DE]
theorem pX:∀{n m:Nat} {a b:Mx.D},wM n a->wM m b->gh a b=true
 | 0,_,_,_,h,_=>h.elim
 | _ + 1,0,_,_,_,h=>h.elim
 | n + 1,m + 1,a,b,⟨rs,e1,_,h1⟩,⟨qs,e2,_,h2⟩=>by subst e1 e2;simp only[gh];exact gq λr hr q hq=>lk_row (λp q hp hq=>pX hp hq) (h1 r hr) (h2 q hq)
variable {fs:List Fn}
theorem wU {n:Nat} {x:Dt} (h:x∈bc 0 n):∃i:Nat,i < n/\x= .int i:=by grind [bc]
variable {fs:List Fn}
theorem l7 {α β:Type} {f:α->List β} {k:Nat}:∀{l:List α},(∀x∈l,(f x).length<=k)->(l.flatMap f).length<=l.length * k
 | [],_=>by simp
 | x::l,h=>by
  have h1:=h x JF;have h2:=l7 λy hy=>h y (JD _ hy)
  rw[List.flatMap_cons,JO,JQ,Nat.succ_mul]
  lia
theorem Cz (x:Str):ofD (kn x)= .tup [.str "any",.str x]:=by simp[kn,ofD,aa]
theorem zj (x:Str) (ps:List Mx.D):ofD (ofT x ps)= .tup [.str "of",.str x,.tup (aa ps)]:=by simp[ofT,ofD,aa]
theorem kU {a b:List Dt} (h:a.length + b.length<=lim):mC .Add (.lst a) (.lst b)= .ok (.lst (a++b)):=by show ah (decide (a.length + b.length<=lim)) _=_;rw[J1 h];rfl
theorem lN {a b:List Mx.D} (h:aa a=aa b):a=b:=by have:=eD a;rw[h,eD] at this;exact(Option.some.inj this).symm
theorem zK {tg:Tg} {body:ai->Sx->RS} {ds:List Mx.D} {ρ:ai} {S:Sx} (P:List Mx.D->ai->Prop) (h0:P [] ρ)
  (step:∀pre x post ρ,ds=pre++x::post->P pre ρ->∃ρ1 ρ2,cm tg (ofD x) ρ= .ok ρ1/\body ρ1 S= .ok (.next,ρ2,S)/\P (pre++[x]) ρ2):∃ρ',forL tg body (aa ds) ρ S= .ok (.next,ρ',S)/\P ds ρ':=by
 obtain⟨ρ',h1,p,h2,h3⟩:=cZ (S:=S) (tg:=tg) (body:=body) (ds:=aa ds) (ρ:=ρ) (λpre ρ=>∃p,pre=aa p/\P p ρ) ⟨[],by simp[aa],h0⟩ (by
  rintro pre x post ρ e ⟨p,e0,hp⟩;obtain⟨p',y,q,e1,e2,rfl,rfl⟩:=oI e;have ep:p=p':=lN (e0.symm.trans e2);subst ep;obtain⟨ρ1,ρ2,s1,s2,s3⟩:=step p y q ρ e1 hp;exact⟨ρ1,ρ2,s1,s2,p++[y],by rw[e2,aY];simp[aa],s3⟩)
 exact⟨ρ',h1,lN h2▸h3⟩
variable {fs:List Fn}
theorem j9 {f:Dt->Sx->R (List Dt×Sx)} {S:Sx} (g:Mx.D->List Dt):∀{ds:List Mx.D},(∀m∈ds,f (ofD m) S= .ok (g m,S))->bb f (aa ds) S= .ok (ds.flatMap g,S)
 | [],_=>by simp[aa,bb]
 | d::ds,h=>by rw[aa,bb,h d JF,R.ak,j9 g λm hm=>h m (JD _ hm),R.ak,List.flatMap_cons]
noncomputable def vR:Mx.D->List Str
 | .tup [_,.str x]=>[x]
 | _=>[]
theorem mf {α β γ:Type} {f:α->List β} {g:β->γ}:∀l:List α,(l.flatMap λx=>(f x).map g)=(l.flatMap f).map g
 | []=>rfl
 | x::l=>by rw[List.flatMap_cons,List.flatMap_cons,Ki,mf l]
theorem zo {F:FT} {its:List Mx.D} {Q:Mx.D->Prop} (h:∀m∈its,Br Q m):bb (bu (.nm 1) (bY F (.cons (.cmp .Eq (.idx (.var 1) (.con (.int 0))) (.con (.str "any"))) .nil)) (eg F (.idx (.var 1) (.con (.int 1)))) [none,none]) (aa its) none= .ok (aa ((its.flatMap vR).map Mx.D.str),none):=by
 rw[j9 (λm=>aa ((vR m).map Mx.D.str)) λm hm=>?_]
 ·have:∀m:Mx.D,aa ((vR m).map Mx.D.str)=(vR m).map λx=>ofD (.str x):=λm=>by rw[aO,List.map_map];rfl
  simp only[this];rw[mf,aO,List.map_map];rfl
 ·rcases h m hm with ⟨x,rfl⟩ | ⟨x,ps,rfl,_⟩
  ·rw[Cz];exact turn_if (b:=true) (y:= .str x) (ρ1:=[none,some (.tup [.str "any",.str x])]) rfl (by simp only[RX];rfl) λ_=>⟨by simp only[RX],rfl⟩
  ·rw[zj];exact turn_if (b:=false) (y:= .a6) (ρ1:=[none,some (.tup [.str "of",.str x,.tup (aa ps)])]) rfl (by simp only[RX];rfl) λz=>by cases z
theorem IJ {F:FT} {u:BI} {e:C} {ρ:ai} {S S1:Sx} {d d':Dt} (h:ev F e ρ S= .ok (d,S1)) (hb:ez u [d]= .ok d'):ev F (.bi u (.cons e .nil)) ρ S= .ok (d',S1):=by simp only[RX,h,hb]
theorem dw {a b:List Dt} (h:a.length + b.length<=lim):mC .Add (.tup a) (.tup b)= .ok (.tup (a++b)):=by show ah (decide (a.length + b.length<=lim)) _=_;rw[J1 h];rfl
variable {fs:List Fn}
noncomputable def pv (F:FT) (n:Nat) (eK:jV) (fY:Tg) (xy:Cs) (e:C):ai->Sx->R (List Dt×Sx):=λρ1 S1=>(cw F eK ρ1 S1).bind λx2=>ah (decide (n * x2.1.length<=lim)&&decide (nu eK=0)) (bb (bu fY (bY F xy) (eg F e) ρ1) x2.1 x2.2)
theorem sV {F:FT} {ρ:ai} {S S1 S2:Sx} {ds:List Dt} {cap:List (Option Nat)} {it eK:jV} {tg fY:Tg} {cs xy:Cs} {e:C} {out:List Dt} (h:cw F it ρ S= .ok (ds,S1)) (hl:ds.length<=lim) (hk:(decide (nu it<=1)||iK F it ρ S)=true) (hc:bb (bu tg (bY F cs) (pv F ds.length eK fY xy e) (gS cap ρ)) ds S1= .ok (out,S2)):
  ev F (.gH cap it tg cs eK fY xy e) ρ S= .ok (.lst out,S2):=by
 rw[ev,h,R.ak,J1 hl,hk,Bool.and_true,guard_true];show (bb (bu tg (bY F cs) (pv F ds.length eK fY xy e) (gS cap ρ)) ds S1).bind _=_;rw[hc];rfl
theorem Cm {F:FT} {ρ ρ1:ai} {S S1 S2:Sx} {d:Dt} {ds out:List Dt} {n:Nat} {eK:jV} {tg fY:Tg} {xy:Cs} {e:C} (hs:cm tg d ρ= .ok ρ1) (h:cw F eK ρ1 S= .ok (ds,S1)) (hl:n * ds.length<=lim) (hk:nu eK=0) (hc:bb (bu fY (bY F xy) (eg F e) ρ1) ds S1= .ok (out,S2)):
  bu tg (bY F .nil) (pv F n eK fY xy e) ρ d S= .ok (out,S2):=by
 unfold bu pv;rw[hs,R.ak,bY,R.ak];simp only[if_true,h,R.ak,J1 hl,J1 hk,Bool.and_true,guard_true,hc]
variable {fs:List Fn}
theorem t7 (ds:List Dt) (j:Nat):Rx.cutD ds none (some (j:Int))=ds.take j:=by unfold Rx.cutD;rw[HT.l6,HT.pJ,List.drop_zero,Nat.sub_zero];exact List.take_eq_take_iff.mpr (by lia)
theorem tu (ds:List Dt) (j:Nat):Rx.cutD ds (some (j:Int)) none=ds.drop j:=by
 unfold Rx.cutD;rw[HT.pJ,HT.l6,List.take_of_length_le (by simp)];by_cases h:j<=ds.length
 ·rw[Nat.min_eq_left h]
 ·rw[Nat.min_eq_right (by lia),List.drop_eq_nil_of_le (JE _),List.drop_eq_nil_of_le (by lia)]
theorem wz (ds:List Dt) (j:Nat):eF (.tup ds) none (some (j:Int))= .ok (.tup (ds.take j)):=by show R.ok (Dt.tup (Rx.cutD ds none (some (j:Int))))=_;rw[t7]
theorem xl (ds:List Dt) (j:Nat):eF (.tup ds) (some (j:Int)) none= .ok (.tup (ds.drop j)):=by show R.ok (Dt.tup (Rx.cutD ds (some (j:Int)) none))=_;rw[tu]
noncomputable def b9:Mx.D->Str×Nat
 | .tup [_,.str s,.tup ps]=>(s,ps.length)
 | _=>("",0)
noncomputable def vh (a b:Mx.D):Bool:=(b9 a).1==(b9 b).1&&decide ((b9 a).2=(b9 b).2)
noncomputable def gY (t:Mx.D):Prop:=∃s ps,t=ofT s ps/\ps.length<=3/\∀p∈ps,wM 1 p
noncomputable def ja:Ts:=(.cons (.ret (.and (.cmp .Eq (.idx (.var 0) (.con (.int 1))) (.idx (.var 1) (.con (.int 1)))) (.cmp .Eq (.bi .len (.cons (.idx (.var 0) (.con (.int 2))) .nil)) (.bi .len (.cons (.idx (.var 1) (.con (.int 2))) .nil))))) .nil)
theorem pF {ik N:Nat} (hf:fs[ik]?=some ⟨2,2,false,ja⟩) (hN:1<=N) {a b:Mx.D} (ha:gY a) (hb:gY b):a9 fs N ik [ofD a,ofD b] none= .ok (.bl (vh a b),none):=by
 obtain⟨s,ps,rfl,_⟩:=ha;obtain⟨s',BJ,rfl,_⟩:=hb;refine bg hf hN rfl ?_;rw[zj,zj];show fin (aQ (a9 fs (N - 1)) ja [some (.tup [.str "of",.str s,.tup (aa ps)]),some (.tup [.str "of",.str s',.tup (aa BJ)])] none)=_;refine aK ?_;show _=R.ok (Dt.bl (s==s'&&decide (ps.length=BJ.length)),none);cases h:s==s' with
 | false=>simp only[RX,h,Bool.false_and]
 | true=>
  have e:((ps.length:Int)==(BJ.length:Int))=decide (ps.length=BJ.length):=by by_cases q:ps.length=BJ.length <;> simp[q] <;> lia
  simp only[RX,h,ao,Bool.true_and,e]
noncomputable def cJ (t:Mx.D):List (List Mx.D)->List (List (List Mx.D))
 | []=>[]
 | g::p=>(if vh (g.headD t) t=true then[(g++[t])::p] else[])++(cJ t p).map (g:: ·)
noncomputable def br (p:List (List Mx.D)) (t:Mx.D):List (List (List Mx.D)):=(p++[[t]])::cJ t p
noncomputable def pD (p:List (List Mx.D)):Mx.D:= .tup (p.map Mx.D.tup)
noncomputable def wq (n:Nat) (p:List (List Mx.D)):Prop:=p.length<=n/\∀g∈p,g≠[]/\g.length<=n/\∀x∈g,gY x
theorem k7 (t:Mx.D):∀p:List (List Mx.D),(cJ t p).length<=p.length
 | []=>by simp[cJ]
 | g::p=>by have:=k7 t p;rw[cJ,JO,JH,JQ];split <;> simp <;> lia
theorem ju (p:List (List Mx.D)):ofD (pD p)= .tup (aa (p.map Mx.D.tup)):=by rw[pD,ofD]
theorem tY {F:FT} {p:List (List Mx.D)} {g:List Mx.D} {t:Mx.D} {j n:Nat} {ρ:ai} {e0 e1 e2 e3 e4:C} (hn:n<=1000) (hp:wq n p) (hg:p[j]?=some g)
  (h0:ev F e0 ρ none= .ok (ofD (pD p),none)) (h1:ev F e1 ρ none= .ok (.int j,none)) (h2:ev F e2 ρ none= .ok (ofD (.tup g),none)) (h3:ev F e3 ρ none= .ok (ofD t,none)) (h4:ev F e4 ρ none= .ok (.int ((j:Int) + 1),none)):
  ev F (.bin .Add (.bin .Add (.sliH e0 e1) (.tup (.cons (.bin .Add e2 (.tup (.cons e3 .nil))) .nil))) (.sliL e0 e4)) ρ none= .ok (ofD (pD (p.take j++(g++[t])::p.drop (j + 1))),none):=by
 have jo:lim=1000000:=rfl;have Ju:=(hp.2 g (List.mem_of_getElem? hg)).2.1;have jW:=hp.1;have c1:=dw (a:=aa g) (b:=[ofD t]) (by simp[ao];lia);have c2:=dw (a:=(aa (p.map Mx.D.tup)).take j) (b:=[.tup (aa g++[ofD t])]) (by simp[ao];lia);have c3:=dw (a:=(aa (p.map Mx.D.tup)).take j++[.tup (aa g++[ofD t])]) (b:=(aa (p.map Mx.D.tup)).drop (j + 1)) (by simp[ao];lia);have s1:=wz (aa (p.map Mx.D.tup)) j;have s2:eF (.tup (aa (p.map Mx.D.tup))) (some ((j:Int) + 1)) none=_:=xl (aa (p.map Mx.D.tup)) (j + 1);rw[ju] at h0;rw[ofD] at h2;simp only[RX,h0,h1,h2,h3,h4,s1,s2,c1,c2,c3];rw[ju];congr 3;simp[aO,List.map_take,List.map_drop,ofD]
theorem nk:∀(l:List Dt) (i j:Nat),(bP i l)[j]?=(l[j]?).map λy=>Dt.tup [.int ((i + j:Nat):Int),y]
 | [],i,j=>by simp[bP]
 | x::l,i,0=>by simp[bP]
 | x::l,i,j + 1=>by rw[bP,List.getElem?_cons_succ,List.getElem?_cons_succ,nk l (i + 1) j,show i + 1 + j=i + (j + 1) by lia]
theorem oX {l pre post:List Dt} {x:Dt} (h:bP 0 l=pre++x::post):∃y,l[pre.length]?=some y/\x= .tup [.int pre.length,y]:=by have:=nk l 0 pre.length;rw[h] at this;simp at this;obtain⟨y,h1,h2⟩:=JN.mp this.symm;exact⟨y,h1,by rw[<-h2]⟩
noncomputable def qr (ik:Nat):Ts:=(.cons (.ifs (.call ik (.cons (.idx (.var 4) (.con (.int 0))) (.cons (.var 1) .nil)) []) (.cons (.app 2 (.bin .Add (.bin .Add (.sliH (.var 0) (.var 3)) (.tup (.cons (.bin .Add (.var 4) (.tup (.cons (.var 1) .nil))) .nil))) (.sliL (.var 0) (.bin .Add (.var 3) (.con (.int 1)))))) .nil) .nil) .nil)
noncomputable def kd (ik:Nat):Ts:=(.cons (.asgM 2 (.lst (.cons (.bin .Add (.var 0) (.tup (.cons (.tup (.cons (.var 1) .nil)) .nil))) .nil))) (.cons (.fr (.tp [3,4]) (.enum (.var 0)) (qr ik)) (.cons (.ret (.mvr 2)) .nil)))
theorem ma {p fnd:List (List Mx.D)} {acc full:List (List (List Mx.D))} {t:Mx.D} {g:List Mx.D} {j:Nat} (hg:p[j]?=some g) (h:acc++(cJ t (p.drop j)).map (p.take j++ ·)=full):
  (acc++(if vh (g.headD t) t=true then[p.take j++(g++[t])::p.drop (j + 1)] else[]))++(cJ t (p.drop (j + 1))).map (p.take (j + 1)++ ·)=full:=by
 obtain⟨h1,h2⟩:=JC.mp hg;have e2:p.take (j + 1)=p.take j++[g]:=by rw[<-h2];exact(List.take_append_getElem h1).symm
 rw[<-h,List.drop_eq_getElem_cons h1,h2,cJ,Ki,List.map_map,JM,e2];congr 2
 ·split <;> simp
 ·refine List.map_congr_left λq _=>?_
  simp
theorem sy {ik ig N n:Nat} (hk:fs[ik]?=some ⟨2,2,false,ja⟩) (hf:fs[ig]?=some ⟨2,5,false,kd ik⟩) (hN:2<=N) (hn:n<=1000) {p:List (List Mx.D)} {t:Mx.D} (hp:wq n p) (ht:gY t):a9 fs N ig [ofD (pD p),ofD t] none= .ok (.lst (aa ((br p t).map pD)),none):=by
 have jo:lim=1000000:=rfl;have jW:=hp.1;have c1:=dw (a:=aa (p.map Mx.D.tup)) (b:=[.tup [ofD t]]) (by simp[ao];lia);have e1:Dt.tup (aa (p.map Mx.D.tup)++[.tup [ofD t]])=ofD (pD (p++[[t]])):=by rw[ju];simp[aO,ofD]
 have loop:=cZ (S:=none) (tg:= .tp [3,4]) (ds:=bP 0 (aa (p.map Mx.D.tup))) (ρ:=[some (ofD (pD p)),some (ofD t),some (.lst [ofD (pD (p++[[t]]))]),none,none]) (body:=aQ (a9 fs (N - 1)) (qr ik))
  (λpre ρ=>∃fnd x3 x4,ρ=[some (ofD (pD p)),some (ofD t),some (.lst (aa (fnd.map pD))),x3,x4]/\fnd++(cJ t (p.drop pre.length)).map (p.take pre.length++ ·)=br p t/\fnd.length<=pre.length + 1) ⟨[p++[[t]]],none,none,by simp[aa],by simp[br],by simp⟩ (by
   rintro pre x post ρ e ⟨fnd,x3,x4,rfl,kf,HW⟩;obtain⟨y,hy,rfl⟩:=oX e;rw[aO,List.map_map,JR] at hy;obtain⟨g,hg,rfl⟩:=JN.mp hy;have Js:=(JC.mp hg).1;obtain⟨g1,g2,g3⟩:=hp.2 g (List.mem_of_getElem? hg);have st:=ma (fnd:=[]) hg kf;obtain⟨h0,gr,rfl⟩:∃h0 gr,g=h0::gr:=match g,g1 with | a::b,_=>⟨a,b,rfl⟩
   have kk:=pF hk (N:=N - 1) (by lia) (g3 h0 (by simp)) ht;have hi:bj (.tup (aa (h0::gr))) (.int 0)= .ok (ofD h0):=(nS (k:=0) (by simp[aa])).1;have ee:=tY (F:=a9 fs (N - 1)) (t:=t) (ρ:=[some (ofD (pD p)),some (ofD t),some (.lst (aa (fnd.map pD))),some (.int pre.length),some (ofD (.tup (h0::gr)))]) (e0:= .var 0) (e1:= .var 3) (e2:= .var 4) (e3:= .var 1) (e4:= .bin .Add (.var 3) (.con (.int 1))) hn hp hg (by simp only[RX]) (by simp only[RX]) (by simp only[RX]) (by simp only[RX]) (by simp only[RX]);refine⟨[some (ofD (pD p)),some (ofD t),some (.lst (aa (fnd.map pD))),some (.int pre.length),some (ofD (.tup (h0::gr)))],[some (ofD (pD p)),some (ofD t),some (.lst (aa ((fnd++(if vh h0 t=true then[p.take pre.length++(h0::gr++[t])::p.drop (pre.length + 1)] else[])).map pD))),some (.int pre.length),some (ofD (.tup (h0::gr)))],by simp[cm,fR],?_,_,_,_,rfl,by rw[JO];exact st,by rw[JO,JO];split <;> simp <;> lia⟩;cases hl:vh h0 t with
   | true=>rw[hl] at kk;refine(y9 (S1:=none) (by rw[ofD];simp only[RX,hi,kk]) (lj (ds:=aa (fnd.map pD)) (d:=ofD (pD (p.take pre.length++(h0::gr++[t])::p.drop (pre.length + 1)))) (S1:=none) rfl ee rfl (by rw[ao,JH];lia) rfl)).trans ?_;rw[if_pos rfl,Ki,aY];simp[aa,Ts.app,aQ]
   | false=>
    rw[hl] at kk;refine(wu (S1:=none) (by rw[ofD];simp only[RX,hi,kk]) rfl).trans ?_;simp[Ts.app,aQ])
 obtain⟨ρ1,dI,fnd,x3,x4,rfl,kf,_⟩:=loop;have Hw:(bP 0 (aa (p.map Mx.D.tup))).length=p.length:=by
  have:∀(l:List Dt) (i:Nat),(bP i l).length=l.length:=by
   intro l
   induction l with
   | nil=>intro i;rfl
   | cons x l ih=>intro i;simp[bP,ih]
  rw[this,ao,JH]
 rw[Hw,List.drop_length,cJ,List.map_nil,Kd] at kf;subst kf;refine bg hf (by lia) rfl ?_;show fin (aQ (a9 fs (N - 1)) (kd ik) [some (ofD (pD p)),some (ofD t),none,none,none] none)=_;refine eh (d:= .lst [ofD (pD (p++[[t]]))]) (S1:=none) (by rw[ju];simp only[RX,c1];rw[e1]) rfl (dG (ds:=bP 0 (aa (p.map Mx.D.tup))) (S1:=none) ?_ rfl dI (aK (by simp only[RX])));show cw _ (.enum (.var 0)) [some (ofD (pD p)),some (ofD t),some (.lst [ofD (pD (p++[[t]]))]),none,none] none=_;rw[ju];simp only[RX]
noncomputable def aB (ts:List Mx.D):List (List (List Mx.D)):=ts.foldl (λL t=>L.flatMap (br · t)) [[]]
theorem de (pre:List Mx.D) (t:Mx.D):aB (pre++[t])=(aB pre).flatMap (br · t):=by simp[aB,List.foldl_append]
theorem uH {n:Nat} {t:Mx.D} (ht:gY t):∀{p q:List (List Mx.D)},(∀g∈p,g≠[]/\g.length<=n/\∀x∈g,gY x)->q∈cJ t p->q.length=p.length/\∀g∈q,g≠[]/\g.length<=n + 1/\∀x∈g,gY x
 | [],q,_,h=>by simp[cJ] at h
 | g::p,q,hp,h=>by
  rw[cJ,JU] at h;obtain⟨g1,g2,g3⟩:=hp g JF;rcases h with h | h
  ·split at h
   ·rw[J7] at h;subst h;refine⟨rfl,λg' hg=>?_⟩;rcases JK.mp hg with rfl | hg
    ·refine⟨by simp,by simp;lia,λx hx=>?_⟩;rcases JU.mp hx with hx | hx
     ·exact g3 x hx
     ·rw[J7] at hx;subst hx;exact ht
    ·obtain⟨a,b,c⟩:=hp g' (JD _ hg);exact⟨a,by lia,c⟩
   ·cases h
  ·obtain⟨q',hq,rfl⟩:=J8.mp h;obtain⟨h1,h2⟩:=uH ht (λg hg=>hp g (JD _ hg)) hq;refine⟨by simp[h1],λg' hg=>?_⟩;rcases JK.mp hg with rfl | hg
   ·exact⟨g1,by lia,g3⟩
   ·exact h2 g' hg
theorem sM {n:Nat} {t:Mx.D} (ht:gY t) {p q:List (List Mx.D)} (hp:wq n p) (h:q∈br p t):wq (n + 1) q:=by
 rcases JK.mp h with rfl | h
 ·refine⟨by have:=hp.1;simp;lia,λg hg=>?_⟩;rcases JU.mp hg with hg | hg
  ·obtain⟨a,b,c⟩:=hp.2 g hg;exact⟨a,by lia,c⟩
  ·rw[J7] at hg;subst hg;exact⟨by simp,by simp,λx hx=>by rw[J7] at hx;subst hx;exact ht⟩
 ·obtain⟨h1,h2⟩:=uH ht hp.2 h;exact⟨by have:=hp.1;lia,h2⟩
theorem fV {α:Type} {P:List α->Prop} (h0:P []) (h1:∀l x,P l->P (l++[x])):∀l,P l:=λl=>by
 rw[<-List.reverse_reverse l]
 induction l.reverse with
 | nil=>exact h0
 | cons x r ih=>rw[List.reverse_cons];exact h1 _ _ ih
theorem dH:∀{ts:List Mx.D},(∀t∈ts,gY t)->∀p∈aB ts,wq ts.length p:=λ {ts}=>fV (P:=λts=>(∀t∈ts,gY t)->∀p∈aB ts,wq ts.length p) (λ_ p hp=>by
  have:p=[]:=by simpa [aB] using hp
  subst this;exact⟨by simp,by simp⟩) (λl x ih h p hp=>by
  rw[de,List.mem_flatMap] at hp;obtain⟨q,hq,hp⟩:=hp;rw[JO];exact sM (h x (by simp)) (ih (λt ht=>h t (by simp[ht])) q hq) hp) ts
theorem p7 {α β:Type} {f:α->List β} (hf:∀a,1<=(f a).length):∀l:List α,l.length<=(l.flatMap f).length
 | []=>by simp
 | a::l=>by
  have:=p7 hf l;have:=hf a;rw[List.flatMap_cons,JO,JQ]
  lia
theorem jH (pre post:List Mx.D):(aB pre).length<=(aB (pre++post)).length:=by refine fV (P:=λpost=>(aB pre).length<=(aB (pre++post)).length) (by simp) (λl x ih=>?_) post;rw[<-JM,de];exact JJ ih (p7 (λp=>by simp[br]) _)
theorem kK {α:Type} {f:Dt->Sx->R (List Dt×Sx)} {S:Sx} (h:α->Mx.D) (g:α->List Dt):∀{L:List α},(∀a∈L,f (ofD (h a)) S= .ok (g a,S))->bb f (aa (L.map h)) S= .ok (L.flatMap g,S)
 | [],_=>by simp[aa,bb]
 | d::ds,hh=>by rw[Kh,aa,bb,hh d JF,R.ak,kK h g λm hm=>hh m (JD _ hm),R.ak,List.flatMap_cons]
theorem zx {tg:Tg} {body:ai->Sx->RS} {ds:List Mx.D} {ρ:ai} {S:Sx} {k:Nat} (P:List Mx.D->ai->Prop) (B:List Mx.D->Prop) (h0:P [] ρ)
  (step:∀pre x post ρ,ds=pre++x::post->P pre ρ->∃ρ1,cm tg (ofD x) ρ= .ok ρ1/\((∃ρ2,body ρ1 S= .ok (.next,ρ2,S)/\P (pre++[x]) ρ2)\/(body ρ1 S= .ex k/\B (pre++[x])))):
  (∃ρ',forL tg body (aa ds) ρ S= .ok (.next,ρ',S)/\P ds ρ')\/(forL tg body (aa ds) ρ S= .ex k/\∃pre post,ds=pre++post/\B pre):=by
 have key:∀(post pre:List Mx.D) (ρ:ai),ds=pre++post->P pre ρ->(∃ρ',forL tg body (aa post) ρ S= .ok (.next,ρ',S)/\P ds ρ')\/(forL tg body (aa post) ρ S= .ex k/\∃pre post,ds=pre++post/\B pre):=by
  intro post
  induction post with
  | nil=>intro pre ρ e h;rw[Kd] at e;subst e;exact .inl ⟨ρ,by simp[aa,forL],h⟩
  | cons x post ih=>
   intro pre ρ e h;obtain⟨ρ1,h1,⟨ρ2,h2,h3⟩ | ⟨h2,h3⟩⟩:=step pre x post ρ e h
   ·rw[aa,forL,h1,R.ak,h2,R.ak];exact ih (pre++[x]) ρ2 (by rw[e];simp) h3
   ·exact .inr ⟨by rw[aa,forL,h1,R.ak,h2];rfl,pre++[x],post,by rw[e];simp,h3⟩
 exact key ds [] ρ rfl h0
noncomputable def uZ (ig:Nat):C:=(.gH [none,none,none,some 2] (.seq (.var 1)) (.nm 1) .nil (.seq (.call ig (.cons (.var 1) (.cons (.var 3) .nil)) [])) (.nm 2) .nil (.var 2))
noncomputable def ny (ig:Nat):Ts:=(.cons (.asg 1 (uZ ig)) (.cons (.ifs (.cmp .Gt (.bi .len (.cons (.var 1) .nil)) (.con (.int 15))) (.cons (.rs 0 []) .nil) .nil) .nil))
noncomputable def qg (ig:Nat):Ts:=(.cons (.ifs (.cmp .Gt (.bi .len (.cons (.var 0) .nil)) (.con (.int 8))) (.cons (.rs 0 []) .nil) .nil) (.cons (.asg 1 (.lst (.cons (.tup .nil) .nil))) (.cons (.fr (.nm 2) (.seq (.var 0)) (ny ig)) (.cons (.ret (.bi .sorted (.cons (.comp [none,none] (.seq (.var 1)) (.nm 1) .nil (.bi .tuple (.cons (.bi .sorted (.cons (.var 1) .nil)) .nil))) .nil))) .nil))))
theorem yy {a b:Mx.D} (ha:gY a) (hb:gY b):gh a b=true:=qu (P:=wM 1) (Q:=wM 1) (λp q hp hq=>pX hp hq) (.inr ha) (.inr hb)
theorem sQ {a:Mx.D} (ha:gY a):Mx.D.dep a<=6:=me (Q:=wM 1) (m:=4) (λd hd=>lM hd) rfl (.inr ha)
theorem tU {g:List Mx.D} (h:∀x∈g,gY x):Mx.D.dep (.tup g)<=7:=by
 have:=bI λx hx=>sQ (h x hx)
 simp only[Mx.D.dep]
 lia
theorem nJ {n:Nat} {p:List (List Mx.D)} (hn:n<=60) (h:wq n p):gu (p.map Mx.D.tup)=true:=by
 refine nU .tt (by have:=h.1;rw[JH];lia) (bI λd hd=>?_) (λd hd=>?_) λd hd e he=>?_
 ·obtain⟨g,hg,rfl⟩:=J8.mp hd;have:=tU (h.2 g hg).2.2
  lia
 ·obtain⟨g,hg,rfl⟩:=J8.mp hd;obtain⟨g1,_,g3⟩:=h.2 g hg
  match g,g1,g3 with
  | x::r,_,g3=>obtain⟨s,ps,rfl,_⟩:=g3 x (by simp);rfl
 ·obtain⟨g,hg,rfl⟩:=J8.mp hd;obtain⟨g',D7,rfl⟩:=J8.mp he;simp only[gh];exact gq λx hx y hy=>yy ((h.2 g hg).2.2 x hx) ((h.2 g' D7).2.2 y hy)
theorem jQ {n:Nat} {L:List (List (List Mx.D))} (hn:n<=60) (hl:L.length<=60) (h:∀p∈L,wq n p) (f7:L.length < 2\/∀p∈L,p≠[]):gu (L.map pD)=true:=by
 rcases f7 with h2 | f7
 ·unfold gu;rw[J1 (show (L.map pD).length < 64 by rw[JH];lia),J1 (show (L.map pD).length < 2 by rw[JH];exact h2)];rfl
 refine nU .tt (by rw[JH];lia) (bI λd hd=>?_) (λd hd=>?_) λd hd e he=>?_
 ·obtain⟨p,hp,rfl⟩:=J8.mp hd;have:Mx.D.cj (p.map Mx.D.tup)<=7:=bI λd hd=>by obtain⟨g,hg,rfl⟩:=J8.mp hd;exact tU ((h p hp).2 g hg).2.2
  simp only[pD,Mx.D.dep]
  lia
 ·obtain⟨p,hp,rfl⟩:=J8.mp hd
  match p,f7 p hp with
  | g::r,_=>rfl
 ·obtain⟨p,hp,rfl⟩:=J8.mp hd;obtain⟨q,hq,rfl⟩:=J8.mp he;simp only[pD,gh];refine gq λx hx y hy=>?_
  obtain⟨g,hg,rfl⟩:=J8.mp hx;obtain⟨g',D7,rfl⟩:=J8.mp hy;simp only[gh];exact gq λx hx y hy=>yy (((h p hp).2 g hg).2.2 x hx) (((h q hq).2 g' D7).2.2 y hy)
theorem vY {ik ig ip N:Nat} (hk:fs[ik]?=some ⟨2,2,false,ja⟩) (hg:fs[ig]?=some ⟨2,5,false,kd ik⟩) (hf:fs[ip]?=some ⟨1,3,false,qg ig⟩) (hN:3<=N) {ts:List Mx.D} (ht:∀t∈ts,gY t) {d:Dt} (hd:d= .lst (aa ts)\/d= .tup (aa ts)) (Ap:∀p∈aB ts,aW (p.map Mx.D.tup)=p.map Mx.D.tup) (f7:ts=[]\/∀p∈aB ts,p≠[]):
  (8 < ts.length\/15 < (aB ts).length->a9 fs N ip [d] none= .ex 0)/\(ts.length<=8->(aB ts).length<=15->a9 fs N ip [d] none= .ok (.lst (aa (aW ((aB ts).map pD))),none)):=by
 have jo:lim=1000000:=rfl;have hlen:ez .len [d]= .ok (.int ts.length):=by rcases hd with rfl | rfl <;> simp only[RX,ao]
 have hit:itemsOf d=some (aa ts):=by rcases hd with rfl | rfl <;> rfl
 have body:∀{r},fin (aQ (a9 fs (N - 1)) (qg ig) [some d,none,none] none)=r->a9 fs N ip [d] none=r:=λh=>bg hf (by lia) rfl h
 by_cases h8:8 < ts.length
 ·have e8:fin (aQ (a9 fs (N - 1)) (qg ig) [some d,none,none] none)= .ex 0:=gI (S1:=none) (by simp only[RX,hlen];rw[J1 (by lia)]) rfl;exact⟨λ_=>body e8,λz=>by lia⟩
 have loop:=zx (S:=none) (tg:= .nm 2) (ds:=ts) (k:=0) (ρ:=[some d,some (.lst (aa ((aB []).map pD))),none]) (body:=aQ (a9 fs (N - 1)) (ny ig))
  (λpre ρ=>∃x,ρ=[some d,some (.lst (aa ((aB pre).map pD))),x]/\(aB pre).length<=15) (λpre=>15 < (aB pre).length) ⟨none,rfl,by decide⟩ (by
   rintro pre t post ρ e ⟨x,rfl,xI⟩;have qV:pre.length < ts.length:=by rw[e];simp
   have hP:=dH (ts:=pre) λt' h'=>ht t' (by rw[e];simp[h'])
   have hO:=ht t (by rw[e];simp);refine⟨[some d,some (.lst (aa ((aB pre).map pD))),some (ofD t)],rfl,?_⟩;have hc:ev (a9 fs (N - 1)) (uZ ig) [some d,some (.lst (aa ((aB pre).map pD))),some (ofD t)] none= .ok (.lst (aa ((aB (pre++[t])).map pD)),none):=by
    refine sV (S1:=none) (ds:=aa ((aB pre).map pD)) (by simp only[RX]) (by rw[ao,JH];lia) rfl ?_;rw[kK pD (λp=>aa ((br p t).map pD)) λp hp=>?_]
    ·rw[de,List.map_flatMap];congr 2;generalize aB pre=L
     induction L with
     | nil=>rfl
     | cons q L ih=>rw[List.flatMap_cons,List.flatMap_cons,aY,ih]
    ·have G1:=hP p hp;have gk:=sy hk hg (N:=N - 1) (by lia) (n:=pre.length) (by lia) G1 hO;have gl:(br p t).length<=9:=by have:=k7 t p;have:=G1.1;rw[br,JQ];lia
     refine Cm (ρ1:=[none,some (ofD (pD p)),none,some (ofD t)]) rfl (ds:=aa ((br p t).map pD)) (S1:=none) (by simp only[RX,gk]) ?_ rfl ?_
     ·rw[ao,ao,JH,JH];have:(aB pre).length * (br p t).length<=15 * 9:=Nat.mul_le_mul xI gl
      lia
     ·rw[j9 (λm=>[ofD m]) λm hm=>df (ρ1:=[none,some (ofD (pD p)),some (ofD m),some (ofD t)]) rfl (by simp only[RX]) (by simp[b5,ff])];rw[cM,aO]
   have hl:ez .len [.lst (aa ((aB (pre++[t])).map pD))]= .ok (.int (aB (pre++[t])).length):=by simp only[RX,ao,JH]
   by_cases hb:15 < (aB (pre++[t])).length
   ·exact .inr ⟨kD (S1:=none) hc rfl (y9 (S1:=none) (by simp only[RX,hl];rw[J1 (by lia)]) rfl),hb⟩
   ·exact .inl ⟨_,kD (S1:=none) hc rfl (wu (S1:=none) (by simp only[RX,hl];rw[JX (by lia)]) rfl),some (ofD t),rfl,by lia⟩)
 have start:∀{r},fin (aQ (a9 fs (N - 1)) (.cons (.fr (.nm 2) (.seq (.var 0)) (ny ig)) (.cons (.ret (.bi .sorted (.cons (.comp [none,none] (.seq (.var 1)) (.nm 1) .nil (.bi .tuple (.cons (.bi .sorted (.cons (.var 1) .nil)) .nil))) .nil))) .nil)) [some d,some (.lst (aa ((aB []).map pD))),none] none)=r->a9 fs N ip [d] none=r:=λh=>
  body (dN (S1:=none) (by simp only[RX,hlen];rw[JX (by lia)]) (aG (d:= .lst (aa ((aB []).map pD))) (S1:=none) (by simp only[RX];simp[aB,pD,aa,ofD]) rfl h))
 rcases loop with ⟨ρ1,dI,x,rfl,xI⟩ | ⟨dI,pre,post,e,hb⟩
 ·refine⟨λz=>by lia,λ_ _=>start (dG (ds:=aa ts) (S1:=none) (by simp only[RX,hit]) rfl dI (aK (IJ (fM (ds:=aa ((aB ts).map pD)) (S1:=none) (out:=aa ((aB ts).map pD)) (by simp only[RX]) (by rw[ao,JH];lia) rfl ?_) ?_)))⟩
  ·have hP:=dH ht;rw[kK pD (λp=>[ofD (pD p)]) λp hp=>?_]
   ·rw[cM,aO,List.map_map];rfl
   ·have hs:=(ek (nJ (by lia) (hP p hp))).2;rw[Ap p hp] at hs;exact df (ρ1:=[none,some (ofD (pD p))]) rfl (by rw[ju];simp only[RX,hs]) (by simp[b5,ff])
  ·refine(ek (jQ (n:=ts.length) (by lia) (by lia) (dH ht) ?_)).1;rcases f7 with rfl | f7
   ·exact .inl (by decide)
   ·exact .inr f7
 ·have hm:=jH pre post;rw[<-e] at hm;refine⟨λ_=>start ?_,λ_ z=>by lia⟩;rw[aQ,ex,show cw (a9 fs (N - 1)) (.seq (.var 0)) [some d,some (.lst (aa ((aB []).map pD))),none] none= .ok (aa ts,none) by simp only[RX,hit],R.ak];show fin ((ah _ (forL _ _ _ _ _)).bind _)=_;rw[dI];rfl
variable {fs:List Fn}
noncomputable def x9 (ik:Nat):Ts:=(.cons (.ifs (.call ik (.cons (.idx (.idx (.var 4) (.var 5)) (.con (.int 0))) (.cons (.var 2) .nil)) []) (.cons (.app 3 (.bin .Add (.bin .Add (.sliH (.var 4) (.var 5)) (.tup (.cons (.bin .Add (.idx (.var 4) (.var 5)) (.tup (.cons (.var 2) .nil))) .nil))) (.sliL (.var 4) (.bin .Add (.var 5) (.con (.int 1)))))) .nil) .nil) .nil)
noncomputable def xD (ik:Nat):Ts:=(.cons (.app 3 (.bin .Add (.var 4) (.tup (.cons (.tup (.cons (.var 2) .nil)) .nil)))) (.cons (.fr (.nm 5) (.rng1 (.bi .len (.cons (.var 4) .nil))) (x9 ik)) .nil))
noncomputable def xN (ik:Nat):Ts:=(.cons (.asgM 3 (.lst .nil)) (.cons (.fr (.nm 4) (.seq (.var 1)) (xD ik)) (.cons (.mov 1 3) .nil)))
noncomputable def ym (ik:Nat):Ts:=(.cons (.asg 1 (.lst (.cons (.tup .nil) .nil))) (.cons (.fr (.nm 2) (.seq (.var 0)) (xN ik)) (.cons (.ret (.bi .sorted (.cons (.var 1) .nil))) .nil)))
theorem zc {α:Type} {tg:Tg} {body:ai->Sx->RS} {L:List α} {ρ:ai} {S:Sx} (h:α->Mx.D) (P:List α->ai->Prop) (h0:P [] ρ)
  (step:∀pre x post ρ,L=pre++x::post->P pre ρ->∃ρ1 ρ2,cm tg (ofD (h x)) ρ= .ok ρ1/\body ρ1 S= .ok (.next,ρ2,S)/\P (pre++[x]) ρ2):∃ρ',forL tg body (aa (L.map h)) ρ S= .ok (.next,ρ',S)/\P L ρ':=by
 have key:∀(post pre:List α) (ρ:ai),L=pre++post->P pre ρ->∃ρ',forL tg body (aa (post.map h)) ρ S= .ok (.next,ρ',S)/\P L ρ':=by
  intro post
  induction post with
  | nil=>intro pre ρ e h;rw[Kd] at e;subst e;exact⟨ρ,by simp[aa,forL],h⟩
  | cons x post ih=>intro pre ρ e hp;obtain⟨ρ1,ρ2,h1,h2,h3⟩:=step pre x post ρ e hp;rw[Kh,aa,forL,h1,R.ak,h2,R.ak];exact ih (pre++[x]) ρ2 (by rw[e];simp) h3
 exact key L [] ρ rfl h0
theorem zq {ik ia N:Nat} (hk:fs[ik]?=some ⟨2,2,false,ja⟩) (hf:fs[ia]?=some ⟨1,6,false,ym ik⟩) (hN:2<=N) {ts:List Mx.D} (ht:∀t∈ts,gY t) (h8:ts.length<=8) (xI:(aB ts).length<=15) (f7:ts=[]\/∀p∈aB ts,p≠[]):
  a9 fs N ia [.lst (aa ts)] none= .ok (.lst (aa (aW ((aB ts).map pD))),none):=by
 have jo:lim=1000000:=rfl;generalize hd:Dt.lst (aa ts)=d;have loop:=zK (S:=none) (tg:= .nm 2) (ds:=ts) (ρ:=[some d,some (.lst (aa ((aB []).map pD))),none,none,none,none]) (body:=aQ (a9 fs (N - 1)) (xN ik))
  (λpre ρ=>∃x2 x4 x5,ρ=[some d,some (.lst (aa ((aB pre).map pD))),x2,none,x4,x5]) ⟨none,none,none,rfl⟩ (by
   rintro pre t post ρ e ⟨x2,x4,x5,rfl⟩;have qV:pre.length < ts.length:=by rw[e];simp
   have hP:=dH (ts:=pre) λt' h'=>ht t' (by rw[e];simp[h'])
   have hO:=ht t (by rw[e];simp);have hL:(aB pre).length<=15:=JJ (jH pre (t::post)) (by rw[<-e];exact xI);have inner:=zc (S:=none) (tg:= .nm 4) (L:=aB pre) (ρ:=[some d,some (.lst (aa ((aB pre).map pD))),some (ofD t),some (.lst []),x4,x5]) (body:=aQ (a9 fs (N - 1)) (xD ik)) pD
    (λdone ρ=>∃x4 x5,ρ=[some d,some (.lst (aa ((aB pre).map pD))),some (ofD t),some (.lst (aa ((done.flatMap (br · t)).map pD))),x4,x5]) ⟨x4,x5,by simp[aa]⟩ (by
     rintro done p rest ρ e2 ⟨y4,y5,rfl⟩;have hp:=hP p (by rw[e2];simp);have jW:=hp.1;have wF:(done.flatMap (br · t)).length<=15 * 9:=by
      have h1:=l7 (f:=(br · t)) (k:=9) (l:=done) λq hq=>by
       have:=k7 t q;have:=(hP q (by rw[e2];simp[hq])).1;rw[br,JQ]
       lia
      have h2:done.length<=15:=by rw[e2] at hL;simp at hL;lia
      exact JJ h1 (Nat.mul_le_mul_right _ h2)
     generalize hacc:done.flatMap (br · t)=acc at wF;have c1:=dw (a:=aa (p.map Mx.D.tup)) (b:=[.tup [ofD t]]) (by simp[ao];lia);have e1:Dt.tup (aa (p.map Mx.D.tup)++[.tup [ofD t]])=ofD (pD (p++[[t]])):=by rw[ju];simp[aO,ofD]
     have lk:=cZ (S:=none) (tg:= .nm 5) (ds:=bc 0 p.length) (ρ:=[some d,some (.lst (aa ((aB pre).map pD))),some (ofD t),some (.lst (aa ((acc++[p++[[t]]]).map pD))),some (ofD (pD p)),y5]) (body:=aQ (a9 fs (N - 1)) (x9 ik))
      (λpr ρ=>∃fnd x5,ρ=[some d,some (.lst (aa ((aB pre).map pD))),some (ofD t),some (.lst (aa (fnd.map pD))),some (ofD (pD p)),x5]/\fnd++(cJ t (p.drop pr.length)).map (p.take pr.length++ ·)=acc++br p t/\fnd.length<=acc.length + pr.length + 1) ⟨acc++[p++[[t]]],y5,rfl,by simp[br],by simp⟩ (by
       rintro pr x po ρ e3 ⟨fnd,z5,rfl,kf,HW⟩;obtain⟨h1,rfl⟩:=gv e3;have hg:p[pr.length]?=some p[pr.length]:=JW h1;generalize p[pr.length]=g at hg;obtain⟨g1,g2,g3⟩:=hp.2 g (List.mem_of_getElem? hg);have st:=ma (fnd:=[]) hg kf;obtain⟨h0,gr,rfl⟩:∃h0 gr,g=h0::gr:=match g,g1 with | a::b,_=>⟨a,b,rfl⟩
       have kk:=pF hk (N:=N - 1) (by lia) (g3 h0 (by simp)) hO;have hi:bj (.tup (aa (h0::gr))) (.int 0)= .ok (ofD h0):=(nS (k:=0) (by simp[aa])).1;have hj:bj (ofD (pD p)) (.int pr.length)= .ok (ofD (.tup (h0::gr))):=by rw[ju];exact(nS (by rw[aO,List.map_map,JR,hg];rfl)).1
       have ee:=tY (F:=a9 fs (N - 1)) (t:=t) (ρ:=[some d,some (.lst (aa ((aB pre).map pD))),some (ofD t),some (.lst (aa (fnd.map pD))),some (ofD (pD p)),some (.int pr.length)]) (e0:= .var 4) (e1:= .var 5) (e2:= .idx (.var 4) (.var 5)) (e3:= .var 2) (e4:= .bin .Add (.var 5) (.con (.int 1))) (n:=pre.length) (by lia) hp hg (by simp only[RX]) (by simp only[RX]) (by simp only[RX,hj]) (by simp only[RX]) (by simp only[RX]);refine⟨[some d,some (.lst (aa ((aB pre).map pD))),some (ofD t),some (.lst (aa (fnd.map pD))),some (ofD (pD p)),some (.int pr.length)],[some d,some (.lst (aa ((aB pre).map pD))),some (ofD t),some (.lst (aa ((fnd++(if vh h0 t=true then[p.take pr.length++(h0::gr++[t])::p.drop (pr.length + 1)] else[])).map pD))),some (ofD (pD p)),some (.int pr.length)],rfl,?_,_,_,rfl,by rw[JO];exact st,by rw[JO,JO];split <;> simp <;> lia⟩;have AU:∀b,a9 fs (N - 1) ik [ofD h0,ofD t] none= .ok (.bl b,none)->cg (a9 fs (N - 1)) (.call ik (.cons (.idx (.idx (.var 4) (.var 5)) (.con (.int 0))) (.cons (.var 2) .nil)) []) [some d,some (.lst (aa ((aB pre).map pD))),some (ofD t),some (.lst (aa (fnd.map pD))),some (ofD (pD p)),some (.int pr.length)] none= .ok (b,none):=λb kk=>by simp only[RX,hj];rw[ofD];simp only[RX,hi,kk]
       cases hl:vh h0 t with
       | true=>rw[hl] at kk;refine Eq.trans (y9 (S1:=none) (AU _ kk) (lj (ds:=aa (fnd.map pD)) (d:=ofD (pD (p.take pr.length++(h0::gr++[t])::p.drop (pr.length + 1)))) (S1:=none) rfl ee rfl (by rw[ao,JH];lia) rfl)) ?_;rw[if_pos rfl,Ki,aY];simp[aa,Ts.app,aQ]
       | false=>
        rw[hl] at kk;refine Eq.trans (wu (S1:=none) (AU _ kk) rfl) ?_;simp[Ts.app,aQ])
     obtain⟨ρ3,nF,fnd,z5,rfl,kf,_⟩:=lk;rw[show (bc 0 p.length).length=p.length by simp[bc],List.drop_length,cJ,List.map_nil,Kd] at kf;subst kf;have e4:aa (acc.map pD)++[ofD (pD (p++[[t]]))]=aa ((acc++[p++[[t]]]).map pD):=by rw[Ki,aY];simp[aa]
     refine⟨_,_,rfl,lj (ds:=aa (acc.map pD)) (d:=ofD (pD (p++[[t]]))) (S1:=none) rfl (by rw[ju];simp only[RX,c1];rw[e1]) rfl (by rw[ao,JH];lia) (sr (ds:=bc 0 p.length) (S1:=none) (ei (n:=p.length) (by rw[ju];simp only[RX,ao,JH]) (by lia)) rfl (e4▸nF) rfl),some (ofD (pD p)),z5,?_⟩;rw[List.flatMap_append,hacc];simp)
   obtain⟨ρ2,DX,y4,y5,rfl⟩:=inner;refine⟨_,_,rfl,vC (d:= .lst []) (S1:=none) rfl rfl (sr (ds:=aa ((aB pre).map pD)) (S1:=none) (by simp only[RX]) rfl DX (nx (ρ1:=[some d,some (.lst (aa ((aB (pre++[t])).map pD))),some (ofD t),none,y4,y5]) (S1:=none) (by rw[de];rfl) rfl)),some (ofD t),y4,y5,rfl⟩)
 obtain⟨ρ1,dI,x2,x4,x5,rfl⟩:=loop;have hs:=(ek (jQ (n:=ts.length) (by lia) (by lia) (dH ht) (f7.imp (λz=>by subst z;decide) id))).1;refine bg hf (by lia) rfl ?_;show fin (aQ (a9 fs (N - 1)) (ym ik) [some d,none,none,none,none,none] none)=_;refine aG (d:= .lst (aa ((aB []).map pD))) (S1:=none) (by simp only[RX];simp[aB,pD,aa,ofD]) rfl (dG (ds:=aa ts) (S1:=none) (by subst hd;simp only[RX]) rfl dI (aK (by simp only[RX,hs])))
noncomputable def oR (g:List Mx.D):Mx.D:=g.headD (.int 0)
theorem nB {t:Mx.D}:∀{p q:List (List Mx.D)},(∀g∈p,g≠[])->q∈cJ t p->q.map oR=p.map oR
 | [],q,_,h=>by simp[cJ] at h
 | g::p,q,hp,h=>by
  rw[cJ,JU] at h;rcases h with h | h
  ·split at h
   ·rw[J7] at h;subst h
    match g,hp g JF with
    | a::r,_=>rfl
   ·cases h
  ·obtain⟨q',hq,rfl⟩:=J8.mp h;rw[Kh,Kh,nB (λg hg=>hp g (JD _ hg)) hq]
theorem w5 {p q:List (List Mx.D)} {t:Mx.D} (hp:∀g∈p,g≠[]) (h:q∈br p t):q.map oR=p.map oR++[t]\/q.map oR=p.map oR:=by
 rcases JK.mp h with rfl | h
 ·exact .inl (by simp[oR])
 ·exact .inr (nB hp h)
theorem pM:∀{ts:List Mx.D},(∀t∈ts,gY t)->ts.Pairwise (λa b=>Mx.D.lt a b=true)->∀p∈aB ts,(p.map oR).Pairwise (λa b=>Mx.D.lt a b=true)/\(∀x∈p.map oR,x∈ts)/\(ts≠[]->p≠[]):=λ {ts}=>fV (P:=λts=>(∀t∈ts,gY t)->ts.Pairwise (λa b=>Mx.D.lt a b=true)->∀p∈aB ts,(p.map oR).Pairwise (λa b=>Mx.D.lt a b=true)/\(∀x∈p.map oR,x∈ts)/\(ts≠[]->p≠[])) (λ_ _ p hp=>by
  have:p=[]:=by simpa [aB] using hp
  subst this;exact⟨by simp,by simp,λz=>absurd rfl z⟩) (λl x ih hO hw q hq=>by
  rw[de,List.mem_flatMap] at hq;obtain⟨p,hp,hq⟩:=hq;rw[List.pairwise_append] at hw;have DZ:∀t∈l,gY t:=λt ht=>hO t (by simp[ht])
  obtain⟨h1,h2,_⟩:=ih DZ hw.1 p hp;have f7:=λg hg=>((dH DZ p hp).2 g hg).1
  have BB:q≠[]:=by
   rcases JK.mp hq with rfl | h
   ·simp
   ·have:=(uH (hO x (by simp)) (dH DZ p hp).2 h).1;intro z;subst z;have:p=[]:=List.length_eq_zero_iff.mp this.symm;subst this;simp[cJ] at h
  rcases w5 f7 hq with e | e <;> rw[e]
  ·refine⟨List.pairwise_append.mpr ⟨h1,by simp,λa ha b hb=>?_⟩,λy hy=>?_,λ_=>BB⟩
   ·rw[J7] at hb;subst hb;exact hw.2.2 a (h2 a ha) b (by simp)
   ·rcases JU.mp hy with hy | hy
    ·simp[h2 y hy]
    ·simp at hy;simp[hy]
  ·exact⟨h1,λy hy=>by simp[h2 y hy],λ_=>BB⟩) ts
theorem x8 {a b:Mx.D} (h:Mx.D.lt a b=true):a≠b:=λe=>by rw[e,Mx.D.lt_irrefl] at h;cases h
theorem qB:∀{p:List (List Mx.D)},(∀g∈p,g≠[])->(p.map oR).Pairwise (λa b=>Mx.D.lt a b=true)->(p.map Mx.D.tup).Pairwise (λa b=>Mx.D.lt a b=true):=λ {p} hp h=>by
 rw[List.pairwise_map] at h ⊢;refine h.imp_of_mem λ {a b} ha hb hl=>?_
 match a,hp a ha,b,hp b hb,hl with
 | x::r,_,y::r',_,hl=>have hl:Mx.D.lt x y=true:=hl;rw[Mx.D.lt,Mx.D.cF,if_neg (x8 hl)];exact hl
theorem v9 {l:List Mx.D} (h:l.Pairwise (λa b=>Mx.D.lt a b=true)):aW l=l:=
 iN (gC (h.imp λhl=>x8 hl)) h λ_=>eB
theorem qQ {ts:List Mx.D} (hO:∀t∈ts,gY t) (h:ts.Pairwise (λa b=>Mx.D.lt a b=true)):(∀p∈aB ts,aW (p.map Mx.D.tup)=p.map Mx.D.tup)/\(ts=[]\/∀p∈aB ts,p≠[]):=by
 refine⟨λp hp=>v9 (qB (λg hg=>((dH hO p hp).2 g hg).1) (pM hO h p hp).1),?_⟩;by_cases e:ts=[]
 ·exact .inl e
 ·exact .inr λp hp=>(pM hO h p hp).2.2 e
noncomputable def gR (A:List (Str×Nat)):List (Str×Nat)->Nat
 | []=>1
 | k::r=>gR (A++[k]) r + A.count k * gR A r
theorem rd (A:List (Str×Nat)) (k:Str×Nat) (r:List (Str×Nat)):gR A (k::r)=gR (A++[k]) r + A.count k * gR A r:=rfl
noncomputable def iO (p:List (List Mx.D)):List (Str×Nat):=(p.map oR).map b9
theorem jU {t:Mx.D}:∀{p:List (List Mx.D)},(∀g∈p,g≠[])->(cJ t p).length=(iO p).count (b9 t)
 | [],_=>by simp[cJ,iO]
 | g::p,hp=>by
  have ih:=jU (t:=t) λg hg=>hp g (JD _ hg)
  rw[cJ,JO,JH,ih]
  match g,hp g JF with
  | a::r,_=>
   show (if vh a t=true then _ else[]).length + _=(b9 a::iO p).count (b9 t);rw[List.count_cons];have e:vh a t=(b9 a==b9 t):=by
    unfold vh;cases b9 a with
    | mk a1 a2=>cases b9 t with
     | mk b1 b2=>show (a1==b1&&decide (a2=b2))=(a1==b1&&a2==b2);cases a1==b1 <;> simp[Bool.beq_eq_decide_eq]
   rw[e];split <;> simp <;> lia
theorem gb {α:Type} {f:α->Nat} {v:Nat}:∀{l:List α},(∀a∈l,f a=v)->(l.map f).sum=l.length * v
 | [],_=>by simp
 | a::l,h=>by rw[Kh,List.sum_cons,h a JF,gb λb hb=>h b (JD _ hb),JQ,Nat.succ_mul];lia
theorem iM:∀{ts:List Mx.D} {L:List (List (List Mx.D))} {n:Nat},(∀t∈ts,gY t)->(∀p∈L,wq n p)->(ts.foldl (λL t=>L.flatMap (br · t)) L).length=(L.map λp=>gR (iO p) (ts.map b9)).sum
 | [],L,n,_,_=>by show L.length=(L.map λp=>1).sum;rw[gb (v:=1) λ_ _=>rfl,Nat.mul_one]
 | t::ts,L,n,hO,hL=>by
  have ht:=hO t JF;rw[List.foldl_cons,iM (n:=n + 1) (λt ht=>hO t (JD _ ht)) λq hq=>by
   rw[List.mem_flatMap] at hq;obtain⟨p,hp,hq⟩:=hq;exact sM ht (hL p hp) hq]
  induction L with
  | nil=>rfl
  | cons p L ih=>
   have hp:=hL p JF;have f7:=λg hg=>(hp.2 g hg).1
   rw[List.flatMap_cons,Ki,List.sum_append_nat,ih λp hp=>hL p (JD _ hp)];simp only[Kh,List.sum_cons,br,rd];rw[gb (v:=gR (iO p) (ts.map b9)) λq hq=>by show gR ((q.map oR).map b9) _=_;rw[nB f7 hq];rfl,jU f7];congr 3;simp[iO,oR]
theorem oH {ts:List Mx.D} (hO:∀t∈ts,gY t):(aB ts).length=gR [] (ts.map b9):=by
 rw[aB,iM (n:=0) hO λp hp=>by
  have:p=[]:=by simpa using hp
  subst this;exact⟨by simp,by simp⟩]
 simp[iO]
noncomputable def gK:Nat->Nat->Nat
 | _,0=>1
 | m,c + 1=>gK (m + 1) c + m * gK m c
noncomputable def lK:List Nat->Nat
 | []=>1
 | a::l=>a * lK l
theorem lr:∀{l:List Nat},(∀a∈l,a=1)->lK l=1
 | [],_=>rfl
 | a::l,h=>by rw[lK,h a JF,lr λb hb=>h b (JD _ hb)]
theorem iU {α:Type} {f g:α->Nat}:∀{U:List α},(∀u∈U,f u=g u)->lK (U.map f)=lK (U.map g)
 | [],_=>rfl
 | a::U,h=>by rw[Kh,Kh,lK,lK,h a JF,iU λb hb=>h b (JD _ hb)]
theorem pQ {α:Type} {f1 f2 f3:α->Nat} {k:α} {m:Nat}:∀{U:List α},U.Nodup->k∈U->(∀u∈U,u≠k->f1 u=f2 u/\f1 u=f3 u)->f1 k=f2 k + m * f3 k->lK (U.map f1)=lK (U.map f2) + m * lK (U.map f3)
 | [],_,h,_,_=>by cases h
 | a::U,hn,hk,he,hf=>by
  rw[List.nodup_cons] at hn;rw[Kh,Kh,Kh,lK,lK,lK];by_cases e:a=k
  ·subst e;have h2:∀u∈U,f1 u=f2 u/\f1 u=f3 u:=λu hu=>he u (JD _ hu) λz=>hn.1 (z▸hu)
   rw[iU λu hu=>(h2 u hu).1.symm,iU (f:=f3) λu hu=>(h2 u hu).2.symm,hf,Nat.add_mul,Nat.mul_assoc]
  ·have AI:k∈U:=(JK.mp hk).resolve_left λz=>e z.symm
   rw[pQ hn.2 AI (λu hu=>he u (JD _ hu)) hf,(he a JF e).1.symm,(he a JF e).2.symm,Nat.mul_add,Nat.mul_left_comm]
theorem la {U:List (Str×Nat)} (hU:U.Nodup):∀{ks A:List (Str×Nat)},(∀k∈ks,k∈U)->gR A ks=lK (U.map λu=>gK (A.count u) (ks.count u))
 | [],A,_=>by rw[gR,lr];intro a ha;obtain⟨u,_,rfl⟩:=J8.mp ha;rfl
 | k::r,A,h=>by
  have h':=λk hk=>h k (JD _ hk)
  rw[gR,la hU h',la hU h'];refine(pQ hU (h k JF) (λu _ hu=>?_) ?_).symm
  ·have e:(k==u)=false:=by simpa using λz=>hu z.symm
   simp[List.count_cons,List.count_append,e]
  ·simp[List.count_cons,List.count_append,gK]
end Rx
end
section
namespace Rx
open PySem PySem.W PySem.Spec PyProof.Rows L2 PySem.SeqAt
theorem uS {fs:List Fn} {n k:Nat} {g:Fn} {args:List Dt} {S:Sx} (h:fs[k]?=some g):a9 fs (n + 1) k args S=eP (a9 fs n) g args S:=by show (match fs[k]? with | some g=>eP (a9 fs n) g args S | none=>R.bad)=_;rw[h]
section
variable {g:G} {K:Frag} {mg:Str->Option Value} {P:Program} {w:World} {base:Heap} {fs:List Fn}
theorem oo {n L m:Nat} {params:Arguments} {body:List Stmt} {scope:Scope} {dV kV doc pm dU ct oc:Value} {an od:Option Addr} {qa:Array (Option Value)} {f:Addr} {N ps:List Str} {M:List Bool} {δ:Option Nat} {fF:Bool} {ts:Ts}
  {xv:Nat->Value} (hm:MG g mg) (wD:XG g K mg xv) (ok:mE g K mg 0 g.fns fs) (lk:K.lookup f=some ⟨oc,od,.func (PySem.W.fnOf "law" "law" params body scope dV kV doc pm an dU ct),qa⟩) (rN:PySem.W.codeIn K dU "law"=true) (S:dC N ps scope)
  (hM:∀i,i < ps.length->M[i]?≠some true) (hp:ps.length=1) (hc:zu m g ⟨scope.names,N,M,δ⟩ false fF body=some ts) (hf:fs[L]?=some ⟨1,N.length,false,ts⟩)
  (hn:∀ns:List Int,ns.length<=63->∃S,a9 fs (n + 1) L [.bR ns] none= .ok (.bl true,S)):
  gw P w K mg base (lH P w) (n + 1) f (PySem.W.fnOf "law" "law" params body scope dV kV doc pm an dU ct) ps (pj K):=by
 have h:=j7 (xv:=xv) (P:=P) (w:=w) (base:=base) lk rN S hm wD (iQ (P:=P) (w:=w) (base:=base) (xv:=xv) hm wD ok n) hM (λz=>by cases z) hc;refine h.imp λvs H Q E q=>?_
 obtain⟨a,ns,rfl,hs,hl,hq⟩:=q;obtain⟨S',hS⟩:=hn ns hl;rw[uS hf] at hS;rw[hp];refine⟨rfl,N0,none,[.bR ns],none,[.ref a],⟨rfl,rfl,rfl⟩,aj.cons ?_ aj.nil,λb z=>z.elim,?_⟩
 ·unfold RV;refine⟨a,rfl,?_⟩;rcases hs with hs | hs
  ·exact .inl ⟨hs,λz=>z⟩
  ·exact .inr hs
 ·rw[hS];intro v H' fo;rw[fo.val.aw];exact hq H'
end
theorem walkR {l:PySem.W.OpenLaw} {q:Program} {k:Nat} {loose:List Str} {XP:(Str->Option Value)->Heap->Prop} {YP:World->Heap->Prop} {d:DefRec} {K:Params->PySem.W.Frag} (hn:l.most=some 63) (Bn:d.params.defaults=[]) (hr:fK k callerA)
  (hY:∀(w:World) (h:Heap),YP w h->(K w.params).In h)
  (F:∀(w:World) (mg:Str->Option Value) (fa:Addr) (h:Heap),(K w.params).In h->h.Ns mainGlobals mg->mg d.name=some (.ref fa)->
   ∃fd:FuncData,(∀(s:Shared) (u:Value),BindsTo s fd ⟨[u],[]⟩ [("_law_script",u)])/\∀base:Heap,(K w.params).In base->base.Ns mainGlobals mg->gw l.prog w (K w.params) mg base (lH l.prog w) k fa fd ["_law_script"] (pj (K w.params))):
  PySem.W.WalkO q loose XP YP l.row.toRowW d [] (λf vs=>PySem.call f vs):=
 L2.vZ (n:=63) (k:=k) (x:="_law_script") (CX:=λw=>lH l.prog w) (sp:=λw=>pj (K w.params)) hn (by decide) Bn hr hY F (λ_ _ a ns hl _ hS=>⟨a,ns,rfl,hS,hl,λ_=>rfl⟩) λ_ _ _ _ _ z=>by obtain⟨_,_,_,_,_,_,_,_,_,z⟩:=z;exact z
structure Row where
 nm:Str
 s:Stmt
 ps:List Str
 ms:List Str:=[]
 dr:Option Str:=none
 dp:Bool:=false
 ec:List Dt:=[]
namespace Row
noncomputable def N (r:Row):List Str:=IK (a8 r.s).names r.ps
noncomputable def gm (r:Row):Gm:=⟨(a8 r.s).names,r.N,AX r.N r.ms,if r.dp then some 0 else r.dr.bind (vj · r.N)⟩
noncomputable def fn (g:G) (j:Nat) (r:Row):Option Fn:=(zu 60 g r.gm r.dp (g.fr j) (ft r.s)).map λts=>⟨r.ps.length,r.N.length,r.dp,ts⟩
noncomputable def ent (r:Row):Str×Nat×List Dt×Bool:=(r.nm,r.ps.length,r.ec,r.dp)
noncomputable def ok (r:Row):Bool:=
 ((a8 r.s).kind== .function)&& !(a8 r.s).isCoroutine&& !(a8 r.s).isGenerator&&decide r.N.Nodup&&decide (r.N.take r.ps.length=r.ps)&&
 (r.ps.all λx=>(a8 r.s).names.lookup x==some .local||(a8 r.s).names.lookup x==some .cell)&&((a8 r.s).names.all λy=>y.2 != .free)&&
 ((AX r.N r.ms).take r.ps.length).all (λb=> !b)&&r.ec.all lI
theorem scope {r:Row} (h:r.ok=true):dC r.N r.ps (a8 r.s)/\(∀i,i < r.ps.length->(AX r.N r.ms)[i]?≠some true)/\r.ec.all lI=true:=by
 unfold ok at h;simp only[Jz] at h;obtain⟨⟨⟨⟨⟨⟨⟨⟨h1,h2⟩,h3⟩,h4⟩,h5⟩,h6⟩,h7⟩,h8⟩,h9⟩:=h;refine⟨⟨JV h1,by simpa using h2,by simpa using h3,JB h4,JB h5,λx hx=>?_,λy hy e=>?_⟩,CL h8,h9⟩
 ·have:=J9.mp h6 x hx;rcases Bool.or_eq_true_iff.mp this with z | z
  ·exact .inl (JV z)
  ·exact .inr (JV z)
 ·have:=J9.mp h7 y hy;rw[e] at this;cases this
end Row
noncomputable def mX (g:G):Nat->List Row->Option (List Fn)
 | _,[]=>some []
 | j,r::rs=>(r.fn g j).bind λf=>(mX g (j + 1) rs).map (f:: ·)
noncomputable def Fd (K:Frag) (nm:Str) (s:Stmt) (ps:List Str) (ec:List Dt):Prop:=∃(fa:Addr) (oc dV kV doc pm dU ct:Value) (od an:Option Addr) (qa:Array (Option Value)),
 nsIn K mainGlobals nm=some (some (.ref fa))/\K.lookup fa=some ⟨oc,od,.func (fnOf nm nm (kZ s) (ft s) (a8 s) dV kV doc pm an dU ct),qa⟩/\codeIn K dU nm=true/\keepIn K (.ref fa)=true/\(ec=[]->dV= .none)/\
 ∀j,j<=ec.length->∃ds,au ((ec.drop j).map nq) ds/\Binds K (fnOf nm nm (kZ s) (ft s) (a8 s) dV kV doc pm an dU ct) ps ds
noncomputable def Ds (K:Frag):List Row->Prop
 | []=>True
 | r::rs=>Fd K r.nm r.s r.ps r.ec/\Ds K rs
section
variable {g:G} {K:Frag} {mg:Str->Option Value} {h:Heap} {fs:List Fn}
theorem ud (X:K.In h) (Gs:h.Ns mainGlobals mg):∀{rs:List Row} {i:Nat} {fs:List Fn},rs.all Row.ok=true->mX g i rs=some fs->Ds K rs->mE g K mg i (rs.map Row.ent) fs
 | [],i,fs,_,e,_=>by cases e;trivial
 | r::rs,i,fs,hk,e,F=>by rw[List.all_cons,Jz] at hk;obtain⟨f,e1,e⟩:=Jw.mp e;obtain⟨EH,e2,rfl⟩:=JN.mp e;obtain⟨ts,c1,rfl⟩:=JN.mp e1;obtain⟨⟨fa,oc,dV,kV,doc,pm,dU,ct,od,an,qa,a,l,c,k,_,b⟩,F⟩:=F;obtain⟨s1,s2,s3⟩:=Row.scope hk.1;exact⟨⟨fa,r.ps,r.N,_,_,60,oc,od,an,qa,_,_,_,dV,kV,doc,pm,dU,ct,l,c,k,mg_of X Gs a,s1,s2,λz=>if_pos z,rfl,c1,rfl,rfl,rfl,b,s3⟩,ud X Gs hk.2 e2 F⟩
theorem zV {rs:List Row}:∀{L i:Nat} {fs:List Fn} {r:Row},mX g i rs=some fs->rs[L]?=some r->∃ts,zu 60 g r.gm r.dp (g.fr (i + L)) (ft r.s)=some ts/\fs[L]?=some ⟨r.ps.length,r.N.length,r.dp,ts⟩:=by
 induction rs with
 | nil=>intro L i fs r _ e;simp at e
 | cons r0 rs ih=>
  intro L i fs r e hr;obtain⟨f,e1,e⟩:=Jw.mp e;obtain⟨EH,e2,rfl⟩:=JN.mp e;cases L with
  | zero=>cases hr;obtain⟨ts,c1,rfl⟩:=JN.mp e1;exact⟨ts,c1,rfl⟩
  | succ L=>obtain⟨ts,c1,c2⟩:=ih e2 (by simpa using hr);exact⟨ts,by rw[show i + (L + 1)=i + 1 + L by lia];exact c1,by simpa using c2⟩
theorem tV:∀{rs:List Row} {L:Nat} {r:Row},Ds K rs->rs[L]?=some r->Fd K r.nm r.s r.ps r.ec
 | [],L,r,_,e=>by simp at e
 | r0::rs,0,r,F,e=>by cases e;exact F.1
 | r0::rs,L + 1,r,F,e=>tV F.2 (by simpa using e)
noncomputable def Eo (K:Frag):List Str->Prop
 | []=>True
 | x::xs=>nsIn K mainGlobals x=some none/\Eo K xs
noncomputable def EW (K:Frag):List (Str×Dt)->Prop
 | []=>True
 | x::xs=>(∃u,nsIn K mainGlobals x.1=some (some u)/\lI x.2=true/\RelV (nq x.2) u)/\EW K xs
theorem uT {x:Str}:∀{xs:List Str},Eo K xs->x∈xs->nsIn K mainGlobals x=some none
 | y::xs,h,hx=>by
  rcases JK.mp hx with rfl | hx
  ·exact h.1
  ·exact uT h.2 hx
theorem sx {x:Str} {d:Dt}:∀{xs:List (Str×Dt)},EW K xs->xs.lookup x=some d->∃u,nsIn K mainGlobals x=some (some u)/\lI d=true/\RelV (nq d) u
 | [],_,e=>by simp at e
 | y::xs,h,e=>by
  rw[JY] at e;split at e
  ·rename_i q;cases e;rw[JV q];exact h.1
  ·exact sx h.2 e
noncomputable def Eg (K:Frag) (C:Addr):List (Str×Bool)->Prop
 | []=>True
 | x::xs=>(∃c,(nsIn K mainGlobals x.1=some (some c)/\(∃D,c= .ref D)\/nsIn K mainGlobals x.1=some none/\x.1="ValueError"/\c= .type "ValueError")/\kitOne K (.ref C) c=some x.2/\(x.2=true->exmOne K (.ref C) c=some true))/\Eg K C xs
noncomputable def E9 (K:Frag):List (Str×List (Str×Bool))->Prop
 | []=>True
 | x::xs=>(∃C,nsIn K mainGlobals x.1=some (some (.ref C))/\excIn K C yW "ValueError.__new__"=true/\sD K C/\Eg K C x.2)/\E9 K xs
theorem uw (X:K.In h) (Gs:h.Ns mainGlobals mg) {C:Addr} {t:Str} {b:Bool}:∀{xs:List (Str×Bool)},Eg K C xs->xs.lookup t=some b->∃c,(mg t=some c/\(∃D,c= .ref D)\/mg t=none/\t="ValueError"/\c= .type "ValueError")/\kitOne K (.ref C) c=some b/\(b=true->exmOne K (.ref C) c=some true)
 | [],_,e=>by simp at e
 | y::xs,hx,e=>by
  rw[JY] at e;split at e
  ·rename_i q;cases e;rw[JV q];obtain⟨c,h1,h2⟩:=hx.1;exact⟨c,h1.imp (λz=>⟨mg_of X Gs z.1,z.2⟩) λz=>⟨mg_none_of X Gs z.1,z.2⟩,h2⟩
  ·exact uw X Gs hx.2 e
noncomputable def CG (g:G) (mg:Str->Option Value) (k:Nat):Value:=((g.xs[k]?).bind λx=>mg x.1).getD .none
theorem tm (X:K.In h) (Gs:h.Ns mainGlobals mg):∀{xs:List (Str×List (Str×Bool))} {k:Nat} {x:Str} {ts:List (Str×Bool)},E9 K xs->xs[k]?=some (x,ts)->∃C,mg x=some (.ref C)/\Cg K mg C ts
 | [],k,x,ts,_,e=>by simp at e
 | y::xs,0,x,ts,hx,e=>by cases e;obtain⟨C,h1,h2,h3,h4⟩:=hx.1;exact⟨C,mg_of X Gs h1,h2,h3,λt b q=>uw X Gs h4 q⟩
 | y::xs,k + 1,x,ts,hx,e=>tm X Gs hx.2 (by simpa using e)
theorem law_mk {l:OpenLaw} {w:World} {fa:Addr} {rs:List Row} {cons:List (Str×Dt)} {bls:List Str} {fr:Nat->Bool} {xs:List (Str×List (Str×Bool))} {L n:Nat} {sL:Stmt} {ms:List Str} {dr:Option Str} (X:K.In h) (Gs:h.Ns mainGlobals mg) (Hl:mg "law"=some (.ref fa))
  (hL:rs[L]?=some ⟨"law",sL,["_law_script"],ms,dr,false,[]⟩) (hk:rs.all Row.ok=true) (hfs:mX ⟨rs.map Row.ent,cons,bls,fr,xs⟩ 0 rs=some fs)
  (hb:∀(s:Shared) (v:Value) (kV doc pm dU ct:Value) (an:Option Addr),BindsTo s (fnOf "law" "law" (kZ sL) (ft sL) (a8 sL) .none kV doc pm an dU ct) ⟨[v],[]⟩ [("_law_script",v)])
  (hn:∀ns:List Int,ns.length<=63->∃S,a9 fs (n + 1) L [.bR ns] none= .ok (.bl true,S)) (B:Eo K bls) (C:EW K cons) (F:Ds K rs) (E:E9 K xs):
  ∃fd:FuncData,(∀(s:Shared) (v:Value),BindsTo s fd ⟨[v],[]⟩ [("_law_script",v)])/\∀base:Heap,K.In base->base.Ns mainGlobals mg->gw l.prog w K mg base (lH l.prog w) (n + 1) fa fd ["_law_script"] (pj K):=by
 have wD:XG ⟨rs.map Row.ent,cons,bls,fr,xs⟩ K mg (CG ⟨rs.map Row.ent,cons,bls,fr,xs⟩ mg):=λk x ts e=>by obtain⟨C,h1,h2⟩:=tm X Gs E e;have e:xs[k]?=some (x,ts):=e;exact⟨C,by simp[CG,e,h1],h1,h2⟩
 have hm:MG ⟨rs.map Row.ent,cons,bls,fr,xs⟩ mg:=⟨λx d hx=>by
   obtain⟨u,k1,k2,k3⟩:=sx C hx;exact⟨u,k2,mg_of X Gs k1,k3⟩,λx hx=>mg_none_of X Gs (uT B hx)⟩
 have ok:=ud (g:=⟨rs.map Row.ent,cons,bls,fr,xs⟩) X Gs hk hfs F;obtain⟨Jk,oc,dV,kV,doc,pm,dU,ct,od,an,qa,a,lk,c,k,hd,b⟩:=tV F hL;cases hd rfl;have e:=Hl.symm.trans (mg_of X Gs a);cases e;obtain⟨ts,c1,c2⟩:=zV hfs hL;have hok:=Row.scope (J9.mp hk _ (List.mem_iff_getElem?.mpr ⟨L,hL⟩));exact⟨_,λs v=>hb s v kV doc pm dU ct an,λbase _ _=>oo hm wD ok lk c hok.1 hok.2.1 rfl c1 c2 hn⟩
end
end Rx
end
section
namespace K61
open PySem PySem.W PySem.Spec PyProof.Rows L2 Mx Rx
noncomputable def top (i:Nat):Stmt:=PySem.Challenge.pw_mixform_k61_partings.main.body.getD i (.Pass ⟨0,0,0,0⟩)
noncomputable abbrev rows:List Rx.Row:=[⟨"of_one_kind",top 9,["one","other"],[],none,false,[]⟩,
 ⟨"grown",top 10,["parting","thing"],["found"],none,false,[]⟩,
 ⟨"partings",top 11,["things"],[],none,false,[]⟩,
 ⟨"_law_cell",top 13,["_law_script","_law_k"],[],none,false,[]⟩,
 ⟨"_law_pick",top 14,["_law_script","_law_k","_law_many"],[],none,false,[]⟩,
 ⟨"_law_names",top 15,["_law_script","_law_k","_law_letters"],["_law_names_here"],none,false,[]⟩,
 ⟨"_law_unknowns",top 16,["_law_script","_law_k"],[],none,false,[]⟩,
 ⟨"_law_signs",top 17,["_law_script","_law_k"],[],none,false,[]⟩,
 ⟨"_law_same",top 18,["_law_found","_law_due"],[],none,false,[]⟩,
 ⟨"_law_like",top 19,["_law_thing","_law_other"],[],none,false,[]⟩,
 ⟨"_law_all",top 20,["_law_some"],["_law_longer"],none,false,[]⟩,
 ⟨"_law_things",top 21,["_law_script","_law_counts"],[],none,false,[]⟩,
 ⟨"_law_refused",top 22,["_law_some"],[],none,false,[]⟩,
 ⟨"law",top 23,["_law_script"],["_law_counts","_law_found"],none,false,[]⟩]
noncomputable abbrev cons:List (Str×Dt):=[("MOST_THINGS",(.int 8)),("MOST_PARTINGS",(.int 15))]
noncomputable abbrev bls:List Str:=["bool","enumerate","int","isinstance","len","list","range","sorted","str","tuple","zip"]
noncomputable abbrev fr (i:Nat):Bool:=[false,true,true,false,true,true,true,true,false,false,true,true,false,false].getD i false
noncomputable abbrev xs:List (Str×List (Str×Bool)):=[("TooMany",[("MixError",true),("NoRow",false),("NoRule",false),("NoText",false),("TooMany",true),("ValueError",true)])]
noncomputable def b6:Ts:=(.cons (.ret (.call 5 (.cons (.var 0) (.cons (.var 1) (.cons (.con (.str "abcdefghijklmnopqrstuvwxyz")) .nil))) [])) .nil)
noncomputable def b7:Ts:=(.cons (.ret (.call 5 (.cons (.var 0) (.cons (.var 1) (.cons (.con (.str "ABCDEFGHIJKLMNOPQRSTUVWXYZ")) .nil))) [])) .nil)
noncomputable def FJ:Ts:=(.cons (.asg 2 (.call 7 (.cons (.var 0) (.cons (.con (.int 7)) .nil)) [])) (.cons (.asg 3 (.tup (.cons (.tup (.cons (.con (.str "any")) (.cons (.con (.str "w")) .nil))) (.cons (.con (.int 1)) .nil)))) (.cons (.asg 4 (.tup (.cons (.con (.str "of")) (.cons (.idx (.var 2) (.con (.int 0))) (.cons (.tup .nil) .nil))))) (.cons (.asg 5 (.comp [none,none,some 4,some 2] (.rng1 (.idx (.var 1) (.con (.int 0)))) (.nm 1) .nil (.tup (.cons (.con (.str "of")) (.cons (.idx (.var 3) (.con (.int 1))) (.cons (.tup (.cons (.tup (.cons (.tup (.cons (.var 2) (.cons (.bin .Add (.var 1) (.con (.int 1))) .nil))) .nil)) .nil)) .nil)))))) (.cons (.asg 5 (.bin .Add (.var 5) (.comp [none,none,some 4,some 2,some 3] (.rng1 (.idx (.var 1) (.con (.int 1)))) (.nm 1) .nil (.tup (.cons (.con (.str "of")) (.cons (.idx (.var 3) (.con (.int 1))) (.cons (.tup (.cons (.tup (.cons (.var 4) .nil)) (.cons (.tup (.cons (.tup (.cons (.var 2) (.cons (.bin .Add (.var 1) (.con (.int 1))) .nil))) .nil)) .nil))) .nil))))))) (.cons (.asg 5 (.bin .Add (.var 5) (.comp [none,none,some 4,some 2] (.rng1 (.idx (.var 1) (.con (.int 2)))) (.nm 1) .nil (.tup (.cons (.con (.str "of")) (.cons (.idx (.var 3) (.con (.int 2))) (.cons (.tup (.cons (.tup (.cons (.tup (.cons (.var 2) (.cons (.bin .Add (.var 1) (.con (.int 1))) .nil))) .nil)) .nil)) .nil))))))) (.cons (.asg 6 (.con (.str "ABCDEFGHI"))) (.cons (.ret (.bi .sorted (.cons (.bin .Add (.var 5) (.comp [none,none,some 6] (.rng1 (.idx (.var 1) (.con (.int 3)))) (.nm 1) .nil (.tup (.cons (.con (.str "of")) (.cons (.bin .Add (.con (.str "QQ")) (.idx (.var 2) (.var 1))) (.cons (.tup .nil) .nil)))))) .nil))) .nil))))))))
noncomputable def EX:Ts:=(.cons (.tr (.cons (.Bv (.call 2 (.cons (.var 0) .nil) [])) .nil) [some true]) (.cons (.ret (.con (.bl false))) .nil))
noncomputable def FH:Ts:=(.cons (.asgM 1 (.lst (.cons (.call 4 (.cons (.var 0) (.cons (.con (.int 20)) (.cons (.con (.int 6)) .nil))) []) (.cons (.call 4 (.cons (.var 0) (.cons (.con (.int 21)) (.cons (.con (.int 4)) .nil))) []) (.cons (.call 4 (.cons (.var 0) (.cons (.con (.int 22)) (.cons (.con (.int 3)) .nil))) []) (.cons (.call 4 (.cons (.var 0) (.cons (.con (.int 23)) (.cons (.con (.int 10)) .nil))) []) .nil)))))) (.cons (.ifs (.cmp .Gt (.call 4 (.cons (.var 0) (.cons (.con (.int 24)) (.cons (.con (.int 3)) .nil))) []) (.con (.int 0))) (.cons (.tG 1 (.con (.int 3)) (.bin .FloorDiv (.idx (.mvr 1) (.con (.int 3))) (.con (.int 4)))) .nil) .nil) (.cons (.asgM 2 (.call 11 (.cons (.var 0) (.cons (.mvr 1) .nil)) [])) (.cons (.asg 3 (.lst (.cons (.con (.int 1)) (.cons (.con (.int 1)) (.cons (.con (.int 2)) (.cons (.con (.int 5)) (.cons (.con (.int 15)) (.cons (.con (.int 52)) .nil)))))))) (.cons (.ifs (.or (.cmp .Gt (.bi .len (.cons (.var 2) .nil)) (.con (.int 8))) (.cmp .Gt (.bin .Mult (.bin .Mult (.idx (.var 3) (.idx (.mvr 1) (.con (.int 0)))) (.idx (.var 3) (.idx (.mvr 1) (.con (.int 1))))) (.idx (.var 3) (.idx (.mvr 1) (.con (.int 2))))) (.con (.int 15)))) (.cons (.ret (.and (.call 12 (.cons (.var 2) .nil) []) (.call 12 (.cons (.bi .tuple (.cons (.var 2) .nil)) .nil) []))) .nil) .nil) (.cons (.asg 4 (.call 10 (.cons (.var 2) .nil) [])) (.cons (.asg 5 (.bi .list (.cons (.var 2) .nil))) (.cons (.asgM 6 (.call 2 (.cons (.var 5) .nil) [])) (.cons (.ifs (.or (.nt (.call 8 (.cons (.mvr 6) (.cons (.var 4) .nil)) [])) (.cmp .NotEq (.var 5) (.var 2))) (.cons (.ret (.con (.bl false))) .nil) .nil) (.cons (.clr 6) (.cons (.ret (.call 8 (.cons (.call 2 (.cons (.bi .tuple (.cons (.var 2) .nil)) .nil) []) (.cons (.var 4) .nil)) [])) .nil)))))))))))
noncomputable def fs:List Fn:=[⟨2,2,false,ja⟩,⟨2,5,false,kd 0⟩,⟨1,3,false,qg 1⟩,⟨2,3,false,qe⟩,⟨3,4,false,sX 3⟩,⟨3,9,false,oy 4⟩,⟨2,2,false,b6⟩,⟨2,2,false,b7⟩,⟨2,4,false,mF 8⟩,⟨2,2,false,ja⟩,⟨1,6,false,ym 9⟩,⟨2,7,false,FJ⟩,⟨1,3,false,EX⟩,⟨1,7,false,FH⟩]
theorem hok:rows.all Rx.Row.ok=true:=by decide +kernel
theorem hfs:mX ⟨rows.map Rx.Row.ent,cons,bls,fr,xs⟩ 0 rows=some fs:=by kernel_rfl
theorem xB:kL fs 4:=⟨3,rfl,rfl⟩
noncomputable def Az (a:Str) (k:Nat):Mx.D:= .tup [.tup [ofT a [],.int ((k:Int) + 1)]]
noncomputable def tA (a b:Str) (k:Nat):Mx.D:=ofT b [Az a k]
noncomputable def tB (a b:Str) (k:Nat):Mx.D:=ofT b [.tup [.tup [kn "w",.int 1]],Az a k]
noncomputable def qn (k:Nat):Str:=("QQ":Str)++⟨#[("ABCDEFGHI":Str).cps.toList.getD k 0]⟩
noncomputable def tQ (k:Nat):Mx.D:=ofT (qn k) []
noncomputable def kH (a b c:Str) (c0 c1 c2 c3:Nat):List Mx.D:=(List.range c0).map (tA a b)++(List.range c1).map (tB a b)++(List.range c2).map (tA a c)++(List.range c3).map tQ
theorem sj (a:Str) (k:Nat):wM 1 (Az a k):=⟨_,rfl,by simp,λr hr=>by
 rw[J7] at hr;subst hr;exact⟨_,_,rfl,.inr ⟨a,[],rfl,by simp,by simp⟩⟩⟩
theorem uc {a b c:Str} {c0 c1 c2 c3:Nat}:∀t∈kH a b c c0 c1 c2 c3,gY t:=λt ht=>by
 simp only[kH,JU,J8] at ht;rcases ht with ((⟨k,_,rfl⟩ | ⟨k,_,rfl⟩) | ⟨k,_,rfl⟩) | ⟨k,_,rfl⟩
 ·exact⟨b,_,rfl,by simp,λp hp=>by rw[J7] at hp;subst hp;exact sj a k⟩
 ·refine⟨b,_,rfl,by simp,λp hp=>?_⟩;rcases JK.mp hp with rfl | hp
  ·exact⟨_,rfl,by simp,λr hr=>by rw[J7] at hr;subst hr;exact⟨_,_,rfl,.inl ⟨_,rfl⟩⟩⟩
  ·rw[J7] at hp;subst hp;exact sj a k
 ·exact⟨c,_,rfl,by simp,λp hp=>by rw[J7] at hp;subst hp;exact sj a k⟩
 ·exact⟨qn k,[],rfl,by simp,by simp⟩
theorem xC:∀c3,c3<=9->((List.range c3).map qn).Nodup:=by decide
theorem oZ {f:Nat->Mx.D} (h:∀i j,f i=f j->i=j) {n:Nat}:((List.range n).map f).Nodup:=List.pairwise_map.mpr (List.nodup_range.imp λhn e=>hn (h _ _ e))
theorem yS {a b c:Str} (vk:b≠c) {c0 c1 c2 c3:Nat} (h3:c3<=9):(kH a b c c0 c1 c2 c3).Nodup:=by
 have kA:∀{s:Str} {n:Nat} {x:Mx.D},x∈(List.range n).map (tA a s)->b9 x=(s,1):=λ {s n x} hx=>by obtain⟨k,_,rfl⟩:=J8.mp hx;rfl
 have kB:∀{n:Nat} {x:Mx.D},x∈(List.range n).map (tB a b)->b9 x=(b,2):=λ {n x} hx=>by obtain⟨k,_,rfl⟩:=J8.mp hx;rfl
 have kQ:∀{x:Mx.D},x∈(List.range c3).map tQ->(b9 x).2=0:=λ {x} hx=>by obtain⟨k,_,rfl⟩:=J8.mp hx;rfl
 have iA:∀(s:Str) (i j:Nat),tA a s i=tA a s j->i=j:=λs i j e=>by simp[tA,ofT,Az] at e;lia
 have iB:∀(i j:Nat),tB a b i=tB a b j->i=j:=λi j e=>by simp[tB,ofT,Az] at e;lia
 have nQ:((List.range c3).map tQ).Nodup:=by have:=xC c3 h3;refine List.pairwise_map.mpr ((List.pairwise_map.mp this).imp λhn e=>hn ?_);simp[tQ,ofT] at e;exact e
 unfold kH;refine List.nodup_append.mpr ⟨List.nodup_append.mpr ⟨List.nodup_append.mpr ⟨oZ (iA b),oZ iB,λx hx y hy e=>?_⟩,oZ (iA c),λx hx y hy e=>?_⟩,nQ,λx hx y hy e=>?_⟩
 ·subst e;have:=(kA hx).symm.trans (kB hy);cases this
 ·subst e;rcases JU.mp hx with hx | hx
  ·have:=(kA hx).symm.trans (kA hy);cases this;exact vk rfl
  ·have:=(kB hx).symm.trans (kA hy);cases this
 ·subst e;have h0:=kQ hy;rcases JU.mp hx with hx | hx
  ·rcases JU.mp hx with hx | hx
   ·rw[kA hx] at h0;cases h0
   ·rw[kB hx] at h0;cases h0
  ·rw[kA hx] at h0;cases h0
theorem ly {f:Nat->Mx.D} {v:Str×Nat} (h:∀k,b9 (f k)=v) (n:Nat):((List.range n).map f).map b9=List.replicate n v:=by
 rw[List.map_map];have:(b9 ∘ f)=λ_=>v:=funext h
 rw[this,List.map_const',List.length_range]
theorem qJ {a b c:Str} (vk:b≠c) {c0 c1 c2 c3:Nat} (h3:c3<=9):(aB (aW (kH a b c c0 c1 c2 c3))).length=gK 0 c0 * (gK 0 c1 * (gK 0 c2 * 1)):=by
 rw[oH λt ht=>uc t (eB.mp ht)];have GG:(kH a b c c0 c1 c2 c3).map b9=List.replicate c0 (b,1)++List.replicate c1 (b,2)++List.replicate c2 (c,1)++(List.range c3).map λk=>(qn k,0):=by simp only[kH,Ki];rw[ly (v:=(b,1)) λ_=>rfl,ly (v:=(b,2)) λ_=>rfl,ly (v:=(c,1)) λ_=>rfl,List.map_map];rfl
 have hQ:((List.range c3).map λk=>(qn k,0)).Nodup:=List.pairwise_map.mpr ((List.pairwise_map.mp (xC c3 h3)).imp λhn e=>hn (congrArg Prod.fst e));have DQ:∀{s:Str} {m:Nat},m≠0->(s,m)∉(List.range c3).map λk=>(qn k,0):=λ {s m} hm hx=>by obtain⟨k,_,e⟩:=J8.mp hx;cases e;exact hm rfl
 have perm:=(dz (kH a b c c0 c1 c2 c3)).map b9;have hU:([(b,1),(b,2),(c,1)]++(List.range c3).map λk=>(qn k,0)).Nodup:=by
  refine List.nodup_append.mpr ⟨?_,hQ,λx hx y hy e=>?_⟩
  ·simp[vk]
  ·subst e;simp only[JK,JL,or_false] at hx;rcases hx with rfl | rfl | rfl <;> exact DQ (by decide) hy
 rw[la hU λk hk=>by
  have hk:k∈(kH a b c c0 c1 c2 c3).map b9:=perm.mem_iff.mp hk;rw[GG] at hk;simp only[JU,List.mem_replicate] at hk ⊢;rcases hk with ((⟨_,rfl⟩ | ⟨_,rfl⟩) | ⟨_,rfl⟩) | hk
  ·exact .inl (by simp)
  ·exact .inl (by simp)
  ·exact .inl (by simp)
  ·exact .inr hk]
 have cnt:∀u,((aW (kH a b c c0 c1 c2 c3)).map b9).count u=(if ((b,1)==u)=true then c0 else 0) + (if ((b,2)==u)=true then c1 else 0) + (if ((c,1)==u)=true then c2 else 0) + ((List.range c3).map λk=>(qn k,0)).count u:=λu=>by rw[perm.count_eq u,GG,List.count_append,List.count_append,List.count_append,List.count_replicate,List.count_replicate,List.count_replicate]
 have Hy:c≠b:=λe=>vk e.symm
 rw[Ki,Kh,Kh,Kh,List.map_nil,List.cons_append,List.cons_append,List.cons_append,List.nil_append,lK,lK,lK,lr λx hx=>?_]
 ·simp only[cnt,List.count_nil];rw[List.count_eq_zero_of_not_mem (DQ (by decide)),List.count_eq_zero_of_not_mem (DQ (by decide)),List.count_eq_zero_of_not_mem (DQ (by decide))];have e1:((b,2)==((b,1):Str×Nat))=false:=by simp
  have e2:((c,1)==((b,1):Str×Nat))=false:=by simp[Hy]
  have e3:((b,1)==((b,2):Str×Nat))=false:=by simp
  have e4:((c,1)==((b,2):Str×Nat))=false:=by simp
  have e5:((b,1)==((c,1):Str×Nat))=false:=by simp[vk]
  have e6:((b,2)==((c,1):Str×Nat))=false:=by simp
  simp only[e1,e2,e3,e4,e5,e6,beq_self_eq_true,if_true,Bool.false_eq_true,if_false,Nat.add_zero,Nat.zero_add]
 ·obtain⟨u,hu,rfl⟩:=J8.mp hx;obtain⟨k,hk,rfl⟩:=J8.mp hu;rw[cnt,hQ.count,if_pos hu];have e1:((b,1)==((qn k,0):Str×Nat))=false:=by simp
  have e2:((b,2)==((qn k,0):Str×Nat))=false:=by simp
  have e3:((c,1)==((qn k,0):Str×Nat))=false:=by simp
  simp only[e1,e2,e3,Bool.false_eq_true,if_false];rfl
theorem qc {F:FT} {e:C} {ρ:ai} {n:Nat} {tg:Tg} {h:Nat->Mx.D} (hh:∀i,i < n->bu tg (bY F .nil) (eg F e) ρ (.int i) none= .ok ([ofD (h i)],none)):bb (bu tg (bY F .nil) (eg F e) ρ) (bc 0 n) none= .ok (aa ((List.range n).map h),none):=by
 rw[rk (g:=λd=>match d with | .int i=>ofD (h i.toNat) | _=> .a6) λx hx=>?_]
 ·congr 2;rw[aO,List.map_map,bc,List.map_map];refine List.map_congr_left λi _=>?_
  show ofD (h ((0:Int) + i).toNat)=ofD (h i);simp
 ·obtain⟨i,hi,rfl⟩:=wU hx;rw[hh i hi];rfl
theorem nO (ns:List Int) {c0 c1 c2 c3:Nat} (h0:c0<=5) (h1:c1<=3) (h2:c2<=2) (h3:c3<=9):∃a b c,b≠c/\a9 fs 59 11 [.bR ns,.lst [.int c0,.int c1,.int c2,.int c3]] none= .ok (.lst (aa (aW (kH a b c c0 c1 c2 c3))),none):=by
 have jo:lim=1000000:=rfl;obtain⟨a,b,c,g1,_,vk,_⟩:=tw (fs:=fs) xB (im:=5) rfl (n:=57) (by decide) (ns:=ns) (k:=7) (L:="ABCDEFGHIJKLMNOPQRSTUVWXYZ") (by lia) rfl (by decide);have g1:a9 fs 57 5 [.bR ns,.int 7,.str "ABCDEFGHIJKLMNOPQRSTUVWXYZ"] none=_:=g1;have v7:a9 fs 58 7 [.bR ns,.int 7] none= .ok (.lst [.str a,.str b,.str c],none):=by refine bg (body:=b7) rfl (by decide) rfl ?_;show fin (aQ (a9 fs 57) b7 [some (.bR ns),some (.int 7)] none)=_;exact aK (by simp only[RX,g1])
 refine⟨a,b,c,vk,?_⟩;generalize hct:Dt.lst [.int c0,.int c1,.int c2,.int c3]=ct;have i0:bj ct (.int 0)= .ok (.int c0):=by subst hct;rfl
 have i1:bj ct (.int 1)= .ok (.int c1):=by subst hct;rfl
 have i2:bj ct (.int 2)= .ok (.int c2):=by subst hct;rfl
 have i3:bj ct (.int 3)= .ok (.int c3):=by subst hct;rfl
 have s0:bj (.lst [.str a,.str b,.str c]) (.int 0)= .ok (.str a):=rfl;have s1:bj (.lst [.str a,.str b,.str c]) (.int 1)= .ok (.str b):=rfl;have s2:bj (.lst [.str a,.str b,.str c]) (.int 2)= .ok (.str c):=rfl;have fA:∀(s:Str) (j:Nat),ofD (tA a s j)= .tup [.str "of",.str s,.tup [.tup [.tup [.tup [.str "of",.str a,.tup []],.int ((j:Int) + 1)]]]]:=λs j=>by simp[tA,Az,ofT,ofD,aa]
 have fB:∀(j:Nat),ofD (tB a b j)= .tup [.str "of",.str b,.tup [.tup [.tup [.tup [.str "any",.str "w"],.int 1]],.tup [.tup [.tup [.str "of",.str a,.tup []],.int ((j:Int) + 1)]]]]:=λj=>by simp[tB,Az,kn,ofT,ofD,aa]
 have fQ:∀(j:Nat),ofD (tQ j)= .tup [.str "of",.str (qn j),.tup []]:=λj=>by simp[tQ,ofT,ofD,aa]
 generalize hsg:Dt.lst [.str a,.str b,.str c]=sg at v7 s0 s1 s2;have hO:=uc (a:=a) (b:=b) (c:=c) (c0:=c0) (c1:=c1) (c2:=c2) (c3:=c3);have hl:(kH a b c c0 c1 c2 c3).length=c0 + c1 + c2 + c3:=by simp[kH];lia
 have hs:=(ek (ms:=kH a b c c0 c1 c2 c3) (nU .ts (by lia) (bI λd hd=>JJ (sQ (hO d hd)) (by decide)) (λd hd=>by obtain⟨s,ps,rfl,_⟩:=hO d hd;rfl) λd hd e he=>yy (hO d hd) (hO e he))).1;refine bg (body:=FJ) rfl (by decide) rfl ?_;show fin (aQ (a9 fs 58) FJ [some (.bR ns),some ct,none,none,none,none,none] none)=_;generalize hsm:Dt.tup [.tup [.str "any",.str "w"],.int 1]=sm;generalize DN:Dt.tup [.str "of",.str a,.tup []]=ba;have cA:=fM (F:=a9 fs 58) (ρ:=[some (.bR ns),some ct,some sg,some sm,some ba,none,none]) (S:=none) (S1:=none) (S2:=none) (cap:=[none,none,some 4,some 2]) (it:= .rng1 (.idx (.var 1) (.con (.int 0)))) (tg:= .nm 1) (cs:= .nil) (e:= .tup (.cons (.con (.str "of")) (.cons (.idx (.var 3) (.con (.int 1))) (.cons (.tup (.cons (.tup (.cons (.tup (.cons (.var 2) (.cons (.bin .Add (.var 1) (.con (.int 1))) .nil))) .nil)) .nil)) .nil)))) (ds:=bc 0 c0) (ei (n:=c0) (by simp only[RX,i0]) (by lia)) (by simp[bc];lia) rfl
  (qc (h:=tA a b) λj hj=>df (ρ1:=[none,some (.int j),some ba,some sg]) rfl (by simp only[RX,s1];rw[fA,DN]) (by simp[b5,ff]))
 have cB:=fM (F:=a9 fs 58) (ρ:=[some (.bR ns),some ct,some sg,some sm,some ba,some (.lst (aa ((List.range c0).map (tA a b)))),none]) (S:=none) (S1:=none) (S2:=none) (cap:=[none,none,some 4,some 2,some 3]) (it:= .rng1 (.idx (.var 1) (.con (.int 1)))) (tg:= .nm 1) (cs:= .nil) (e:= .tup (.cons (.con (.str "of")) (.cons (.idx (.var 3) (.con (.int 1))) (.cons (.tup (.cons (.tup (.cons (.var 4) .nil)) (.cons (.tup (.cons (.tup (.cons (.var 2) (.cons (.bin .Add (.var 1) (.con (.int 1))) .nil))) .nil)) .nil))) .nil)))) (ds:=bc 0 c1) (ei (n:=c1) (by simp only[RX,i1]) (by lia)) (by simp[bc];lia) rfl
  (qc (h:=tB a b) λj hj=>df (ρ1:=[none,some (.int j),some ba,some sg,some sm]) rfl (by simp only[RX,s1];rw[fB,DN,hsm]) (by simp[b5,ff]))
 have kB:=kU (a:=aa ((List.range c0).map (tA a b))) (b:=aa ((List.range c1).map (tB a b))) (by simp[ao];lia);rw[<-aY] at kB;have cC:=fM (F:=a9 fs 58) (ρ:=[some (.bR ns),some ct,some sg,some sm,some ba,some (.lst (aa ((List.range c0).map (tA a b)++(List.range c1).map (tB a b)))),none]) (S:=none) (S1:=none) (S2:=none) (cap:=[none,none,some 4,some 2]) (it:= .rng1 (.idx (.var 1) (.con (.int 2)))) (tg:= .nm 1) (cs:= .nil) (e:= .tup (.cons (.con (.str "of")) (.cons (.idx (.var 3) (.con (.int 2))) (.cons (.tup (.cons (.tup (.cons (.tup (.cons (.var 2) (.cons (.bin .Add (.var 1) (.con (.int 1))) .nil))) .nil)) .nil)) .nil)))) (ds:=bc 0 c2) (ei (n:=c2) (by simp only[RX,i2]) (by lia)) (by simp[bc];lia) rfl
  (qc (h:=tA a c) λj hj=>df (ρ1:=[none,some (.int j),some ba,some sg]) rfl (by simp only[RX,s2];rw[fA,DN]) (by simp[b5,ff]))
 have kC:=kU (a:=aa ((List.range c0).map (tA a b)++(List.range c1).map (tB a b))) (b:=aa ((List.range c2).map (tA a c))) (by simp[ao];lia);rw[<-aY] at kC;have cQ:=fM (F:=a9 fs 58) (ρ:=[some (.bR ns),some ct,some sg,some sm,some ba,some (.lst (aa ((List.range c0).map (tA a b)++(List.range c1).map (tB a b)++(List.range c2).map (tA a c)))),some (.str "ABCDEFGHI")]) (S:=none) (S1:=none) (S2:=none) (cap:=[none,none,some 6]) (it:= .rng1 (.idx (.var 1) (.con (.int 3)))) (tg:= .nm 1) (cs:= .nil) (e:= .tup (.cons (.con (.str "of")) (.cons (.bin .Add (.con (.str "QQ")) (.idx (.var 2) (.var 1))) (.cons (.tup .nil) .nil)))) (ds:=bc 0 c3) (ei (n:=c3) (by simp only[RX,i3]) (by lia)) (by simp[bc];lia) rfl
  (qc (h:=tQ) λj hj=>by
   have hi:=mM (z:="ABCDEFGHI") (k:=j) (d:=0) (by decide) (by show j < 9;lia);have hc:=dq (a:="QQ") (b:=⟨#[("ABCDEFGHI":Str).cps.toList.getD j 0]⟩) (by show 2 + 1<=lim;decide);exact df (ρ1:=[none,some (.int j),some (.str "ABCDEFGHI")]) rfl (by simp only[RX,hi,hc];rw[fQ];rfl) (by simp[b5,ff]))
 have kQ:=kU (a:=aa ((List.range c0).map (tA a b)++(List.range c1).map (tB a b)++(List.range c2).map (tA a c))) (b:=aa ((List.range c3).map tQ)) (by simp[ao];lia);rw[<-aY] at kQ;refine aG (d:=sg) (S1:=none) (by simp only[RX,v7]) (by subst hsg;rfl) (aG (d:=sm) (S1:=none) (by simp only[RX];rw[hsm]) rfl (aG (d:=ba) (S1:=none) (by simp only[RX,s0];rw[DN]) rfl (aG (S1:=none) cA rfl (aG (S1:=none) (d:= .lst (aa ((List.range c0).map (tA a b)++(List.range c1).map (tB a b)))) (by simp only[RX,cB,kB]) rfl (aG (S1:=none) (d:= .lst (aa ((List.range c0).map (tA a b)++(List.range c1).map (tB a b)++(List.range c2).map (tA a c)))) (by simp only[RX,cC,kC]) rfl (aG (S1:=none) (d:= .str "ABCDEFGHI") rfl rfl (aK ?_)))))));simp only[RX,cQ,kQ];rw[show (List.range c0).map (tA a b)++(List.range c1).map (tB a b)++(List.range c2).map (tA a c)++(List.range c3).map tQ=kH a b c c0 c1 c2 c3 from rfl,hs];rfl
theorem iz {ts:List Mx.D} {d:Dt} (h:a9 fs 58 2 [d] none= .ex 0):a9 fs 59 12 [d] none= .ok (.bl true,none):=by
 refine bg (body:=EX) rfl (by decide) rfl ?_;show fin (aQ (a9 fs 58) EX [some d,none,none] none)=_;have hd:aQ (a9 fs 58) (.cons (.Bv (.call 2 (.cons (.var 0) .nil) [])) .nil) [some d,none,none] none= .ex 0:=by rw[aQ,ex];simp only[RX,h];rfl
 refine qq (ρ1:=[some d,none,none]) (S1:=none) (d:= .bl true) ?_;rw[ex,hd];rfl
noncomputable def bl (n:Nat):Nat:=[1,1,2,5,15,52].getD n 0
theorem sA:∀n,n<=5->gK 0 n=bl n:=by decide
theorem sI:∀n,n<=5->bl n<=52:=by decide
theorem uK (n:Nat) (h:n<=5):bj (.lst [.int 1,.int 1,.int 2,.int 5,.int 15,.int 52]) (.int n)= .ok (.int (bl n)):=by
 match n,h with
 | 0,_=>rfl
 | 1,_=>rfl
 | 2,_=>rfl
 | 3,_=>rfl
 | 4,_=>rfl
 | 5,_=>rfl
noncomputable def tail:Ts:=(.cons (.asgM 2 (.call 11 (.cons (.var 0) (.cons (.mvr 1) .nil)) [])) (.cons (.asg 3 (.lst (.cons (.con (.int 1)) (.cons (.con (.int 1)) (.cons (.con (.int 2)) (.cons (.con (.int 5)) (.cons (.con (.int 15)) (.cons (.con (.int 52)) .nil)))))))) (.cons (.ifs (.or (.cmp .Gt (.bi .len (.cons (.var 2) .nil)) (.con (.int 8))) (.cmp .Gt (.bin .Mult (.bin .Mult (.idx (.var 3) (.idx (.mvr 1) (.con (.int 0)))) (.idx (.var 3) (.idx (.mvr 1) (.con (.int 1))))) (.idx (.var 3) (.idx (.mvr 1) (.con (.int 2))))) (.con (.int 15)))) (.cons (.ret (.and (.call 12 (.cons (.var 2) .nil) []) (.call 12 (.cons (.bi .tuple (.cons (.var 2) .nil)) .nil) []))) .nil) .nil) (.cons (.asg 4 (.call 10 (.cons (.var 2) .nil) [])) (.cons (.asg 5 (.bi .list (.cons (.var 2) .nil))) (.cons (.asgM 6 (.call 2 (.cons (.var 5) .nil) [])) (.cons (.ifs (.or (.nt (.call 8 (.cons (.mvr 6) (.cons (.var 4) .nil)) [])) (.cmp .NotEq (.var 5) (.var 2))) (.cons (.ret (.con (.bl false))) .nil) .nil) (.cons (.clr 6) (.cons (.ret (.call 8 (.cons (.call 2 (.cons (.bi .tuple (.cons (.var 2) .nil)) .nil) []) (.cons (.var 4) .nil)) [])) .nil)))))))))
theorem ql (ns:List Int) {c0 c1 c2 c3:Nat} (h0:c0<=5) (h1:c1<=3) (h2:c2<=2) (h3:c3<=9):fin (aQ (a9 fs 59) tail [some (.bR ns),some (.lst [.int c0,.int c1,.int c2,.int c3]),none,none,none,none,none] none)= .ok (.bl true,none):=by
 have jo:lim=1000000:=rfl;obtain⟨a,b,c,vk,v11⟩:=nO ns h0 h1 h2 h3;have uX:=qJ (a:=a) vk (c0:=c0) (c1:=c1) (c2:=c2) h3;have hO:∀t∈aW (kH a b c c0 c1 c2 c3),gY t:=λt ht=>uc t (eB.mp ht)
 have hw:=gC (yS (a:=a) vk (c0:=c0) (c1:=c1) (c2:=c2) h3);obtain⟨Ap,f7⟩:=qQ hO hw;have hl:(aW (kH a b c c0 c1 c2 c3)).length<=19:=by rw[(dz _).length_eq];simp[kH];lia
 rw[sA _ h0,sA _ (by lia),sA _ (by lia),Nat.mul_one,<-Nat.mul_assoc] at uX;have b0:=sI _ h0;have b1:=sI c1 (by lia);have b2:=sI c2 (by lia);have x0:=uK _ h0;have x1:=uK c1 (by lia);have x2:=uK c2 (by lia);generalize aW (kH a b c c0 c1 c2 c3)=ts at *;generalize hct:Dt.lst [.int c0,.int c1,.int c2,.int c3]=ct at v11 ⊢;have i0:bj ct (.int 0)= .ok (.int c0):=by subst hct;rfl
 have i1:bj ct (.int 1)= .ok (.int c1):=by subst hct;rfl
 have i2:bj ct (.int 2)= .ok (.int c2):=by subst hct;rfl
 have m1:=bp (i:=bl c0) (j:=bl c1) (.inl (by lia));have m2:=bp (i:=(bl c0:Int) * bl c1) (j:=bl c2) (.inr (by lia));have P:=λN (hN:3<=N) {d:Dt} (hd:d= .lst (aa ts)\/d= .tup (aa ts))=>vY (fs:=fs) (ik:=0) (ig:=1) (ip:=2) (N:=N) rfl rfl rfl hN hO hd Ap f7
 have AM:eU (aa ts)=true:=lD ts;refine eh (d:= .lst (aa ts)) (S1:=none) (by simp only[RX,v11]) (by show (decide _||eU (aa ts))=true;rw[AM,Bool.or_true]) (aG (d:= .lst [.int 1,.int 1,.int 2,.int 5,.int 15,.int 52]) (S1:=none) rfl rfl ?_);have DU:cg (a9 fs 59) (.or (.cmp .Gt (.bi .len (.cons (.var 2) .nil)) (.con (.int 8))) (.cmp .Gt (.bin .Mult (.bin .Mult (.idx (.var 3) (.idx (.mvr 1) (.con (.int 0)))) (.idx (.var 3) (.idx (.mvr 1) (.con (.int 1))))) (.idx (.var 3) (.idx (.mvr 1) (.con (.int 2))))) (.con (.int 15)))) [some (.bR ns),some ct,some (.lst (aa ts)),some (.lst [.int 1,.int 1,.int 2,.int 5,.int 15,.int 52]),none,none,none] none= .ok (decide (8 < ts.length\/15 < (aB ts).length),none):=by
  simp only[RX,ao,i0,i1,i2,x0,x1,x2,m1,m2];by_cases q:8 < ts.length
  ·rw[J1 (show (8:Int) < ts.length by lia),J1 (Or.inl q)];rfl
  ·rw[JX (show¬(8:Int) < ts.length by lia)];simp only[Bool.false_eq_true,if_false];congr 2;have e:((bl c0:Int) * bl c1 * bl c2)=((bl c0 * bl c1 * bl c2:Nat):Int):=by push_cast;rfl
   rw[e,uX,Bool.eq_iff_iff];simp only[decide_eq_true_eq]
   lia
 by_cases hb:8 < ts.length\/15 < (aB ts).length
 ·rw[J1 hb] at DU;have r1:=iz (ts:=ts) ((P 58 (by decide) (.inl rfl)).1 hb);have r2:=iz (ts:=ts) ((P 58 (by decide) (.inr rfl)).1 hb);exact gI (S1:=none) DU (aK (by simp only[RX,r1,r2]))
 ·rw[JX hb] at DU;have h8:ts.length<=8:=by lia
  have xI:(aB ts).length<=15:=by lia
  have v10:=zq (fs:=fs) (ik:=9) (ia:=10) (N:=59) rfl rfl (by decide) hO h8 xI f7;have v2:=(P 59 (by decide) (.inl rfl)).2 h8 xI;have Hv:=(P 59 (by decide) (.inr rfl)).2 h8 xI;have wF:∀d∈aW ((aB ts).map pD),Mx.D.dep d<=8:=λd hd=>by
   obtain⟨p,hp,rfl⟩:=J8.mp (eB.mp hd);have hP:=dH hO p hp;have:Mx.D.cj (p.map Mx.D.tup)<=7:=bI λd hd=>by obtain⟨g,hg,rfl⟩:=J8.mp hd;exact tU (hP.2 g hg).2.2
   simp only[pD,Mx.D.dep]
   lia
  generalize aW ((aB ts).map pD)=us at *;have v8:=pG (fs:=fs) (is:=8) rfl 59 (.lst (aa us)) (by simp[sm,nC]) (by have:=bI wF;simp only[dp,kY];lia);have vg:Mx.D.cj ts<=6:=bI λd hd=>sQ (hO d hd)
  have EY:cH .NotEq (.lst (aa ts)) (.lst (aa ts))= .ok false:=by
   show ah (oW (.lst (aa ts)) (.lst (aa ts))) (.ok (!bM (.lst (aa ts)) (.lst (aa ts))))=_;rw[show oW (.lst (aa ts)) (.lst (aa ts))=true by simp[oW,pl,nE,dp,kY];lia,guard_true];have:bM (.lst (aa ts)) (.lst (aa ts))=true:=by show bE (aa ts) (aa ts)=true;rw[nM,Mx.D.k8]
   rw[this];rfl
  refine dN (S1:=none) DU (aG (d:= .lst (aa us)) (S1:=none) (by simp only[RX,v10]) rfl (aG (d:= .lst (aa ts)) (S1:=none) (by simp only[RX]) rfl (eh (d:= .lst (aa us)) (S1:=none) (by simp only[RX,v2]) rfl (dN (S1:=none) (by simp only[RX,v8,Bool.not_true,EY,Bool.false_eq_true,if_false]) (dZ (ρ1:=[some (.bR ns),some ct,some (.lst (aa ts)),some (.lst [.int 1,.int 1,.int 2,.int 5,.int 15,.int 52]),some (.lst (aa us)),some (.lst (aa ts)),some (.lst [])]) (S1:=none) (za (ds:=aa us) rfl) (aK (by simp only[RX,Hv,v8])))))))
theorem law_true:∀ns:List Int,ns.length<=63->∃S,a9 fs (59 + 1) 13 [.bR ns] none= .ok (.bl true,S):=by
 intro ns _;have P:=λ(k many:Nat) (h1:k < 1000000) (h2:0 < many)=>pN (fs:=fs) xB (n:=59) (by decide) (ns:=ns) h1 h2
 have p0:a9 fs 59 4 [.bR ns,.int 20,.int 6] none=_:=P 20 6 (by decide) (by decide);have p1:a9 fs 59 4 [.bR ns,.int 21,.int 4] none=_:=P 21 4 (by decide) (by decide);have p2:a9 fs 59 4 [.bR ns,.int 22,.int 3] none=_:=P 22 3 (by decide) (by decide);have p3:a9 fs 59 4 [.bR ns,.int 23,.int 10] none=_:=P 23 10 (by decide) (by decide);have p4:a9 fs 59 4 [.bR ns,.int 24,.int 3] none=_:=P 24 3 (by decide) (by decide);have l0:=cc (ns:=ns) (k:=20) (many:=6) (by decide);have l1:=cc (ns:=ns) (k:=21) (many:=4) (by decide);have l2:=cc (ns:=ns) (k:=22) (many:=3) (by decide);have l3:=cc (ns:=ns) (k:=23) (many:=10) (by decide);generalize bH ns 20 6=c0 at p0 l0;generalize bH ns 21 4=c1 at p1 l1;generalize bH ns 22 3=c2 at p2 l2;generalize bH ns 23 10=c3 at p3 l3;generalize bH ns 24 3=c4 at p4;refine⟨none,bg (body:=FH) rfl (by decide) rfl ?_⟩;show fin (aQ (a9 fs 59) FH [some (.bR ns),none,none,none,none,none,none] none)=_;refine eh (d:= .lst [.int c0,.int c1,.int c2,.int c3]) (S1:=none) (by simp only[RX,p0,p1,p2,p3]) rfl ?_;by_cases h4:(0:Int) < c4
 ·have fd:=sZ (i:=c3) (j:=4) (by decide) (by decide);have ix:bj (.lst [.int c0,.int c1,.int c2,.int c3]) (.int 3)= .ok (.int c3):=rfl;refine gI (S1:=none) (by simp only[RX,p4];rw[J1 h4]) (dZ (wA (ds:=[.int c0,.int c1,.int c2,.int c3]) (d:= .int ((c3:Int) / 4)) (S1:=none) (S2:=none) (n:=3) (j:=3) rfl (by simp only[RX,ix,fd]) rfl rfl rfl) ?_);have e:((c3:Int) / 4)=((c3 / 4:Nat):Int):=by lia
  rw[e];exact ql ns (by lia) (by lia) (by lia) (by lia)
 ·exact dN (S1:=none) (by simp only[RX,p4];rw[JX h4]) (ql ns (by lia) (by lia) (by lia) (by lia))
end K61
end
section
open PySem PySem.W PyProof.Rows Rx
set_option maxHeartbeats 0 in
theorem PySem.Challenge.cw_mixform_k61_partings_holds : PySem.Challenge.rw_mixform_k61_partings.Holds := by
 w_on;o_law;k_head;(case hw=>w_witness2)
 k_fill
 refine walkR (k:=60) (l:=PySem.Challenge.rw_mixform_k61_partings) rfl rfl ⟨rfl,by decide,by decide⟩ (λw h Y=>kIn_of Y) ?F
 case F=>
  intro w mg fa h KX G hmg;refine law_mk (rs:=K61.rows) (cons:=K61.cons) (bls:=K61.bls) (xs:=K61.xs) (L:=13) (n:=59) KX G hmg rfl K61.hok K61.hfs (λs v _ _ _ _ _ _=> .of_eq rfl) K61.law_true ?B ?C ?D ?E
  case B=>exact⟨by k_is,by k_is,by k_is,by k_is,by k_is,by k_is,by k_is,by k_is,by k_is,by k_is,by k_is,trivial⟩
  case C=>exact⟨⟨_,by k_is,rfl,by first | rfl | exact⟨_,rfl⟩⟩,⟨_,by k_is,rfl,by first | rfl | exact⟨_,rfl⟩⟩,trivial⟩
  case D=>
   refine⟨?_,?_,?_,?_,?_,?_,?_,?_,?_,?_,?_,?_,?_,?_,trivial⟩
   ·exact⟨_,_,_,_,_,_,_,_,_,_,_,by k_is,by k_is,by k_is,by k_is,λ_=>rfl,binds0 λus hl=>match us,hl with | [_,_],_=>rfl⟩
   ·exact⟨_,_,_,_,_,_,_,_,_,_,_,by k_is,by k_is,by k_is,by k_is,λ_=>rfl,binds0 λus hl=>match us,hl with | [_,_],_=>rfl⟩
   ·exact⟨_,_,_,_,_,_,_,_,_,_,_,by k_is,by k_is,by k_is,by k_is,λ_=>rfl,binds0 λus hl=>match us,hl with | [_],_=>rfl⟩
   ·exact⟨_,_,_,_,_,_,_,_,_,_,_,by k_is,by k_is,by k_is,by k_is,λ_=>rfl,binds0 λus hl=>match us,hl with | [_,_],_=>rfl⟩
   ·exact⟨_,_,_,_,_,_,_,_,_,_,_,by k_is,by k_is,by k_is,by k_is,λ_=>rfl,binds0 λus hl=>match us,hl with | [_,_,_],_=>rfl⟩
   ·exact⟨_,_,_,_,_,_,_,_,_,_,_,by k_is,by k_is,by k_is,by k_is,λ_=>rfl,binds0 λus hl=>match us,hl with | [_,_,_],_=>rfl⟩
   ·exact⟨_,_,_,_,_,_,_,_,_,_,_,by k_is,by k_is,by k_is,by k_is,λ_=>rfl,binds0 λus hl=>match us,hl with | [_,_],_=>rfl⟩
   ·exact⟨_,_,_,_,_,_,_,_,_,_,_,by k_is,by k_is,by k_is,by k_is,λ_=>rfl,binds0 λus hl=>match us,hl with | [_,_],_=>rfl⟩
   ·exact⟨_,_,_,_,_,_,_,_,_,_,_,by k_is,by k_is,by k_is,by k_is,λ_=>rfl,binds0 λus hl=>match us,hl with | [_,_],_=>rfl⟩
   ·exact⟨_,_,_,_,_,_,_,_,_,_,_,by k_is,by k_is,by k_is,by k_is,λ_=>rfl,binds0 λus hl=>match us,hl with | [_,_],_=>rfl⟩
   ·exact⟨_,_,_,_,_,_,_,_,_,_,_,by k_is,by k_is,by k_is,by k_is,λ_=>rfl,binds0 λus hl=>match us,hl with | [_],_=>rfl⟩
   ·exact⟨_,_,_,_,_,_,_,_,_,_,_,by k_is,by k_is,by k_is,by k_is,λ_=>rfl,binds0 λus hl=>match us,hl with | [_,_],_=>rfl⟩
   ·exact⟨_,_,_,_,_,_,_,_,_,_,_,by k_is,by k_is,by k_is,by k_is,λ_=>rfl,binds0 λus hl=>match us,hl with | [_],_=>rfl⟩
   ·exact⟨_,_,_,_,_,_,_,_,_,_,_,by k_is,by k_is,by k_is,by k_is,λ_=>rfl,binds0 λus hl=>match us,hl with | [_],_=>rfl⟩
  case E=>exact⟨⟨_,by k_is,by k_exc,⟨by k_is,by k_is,by k_is,by k_is,by k_is,by k_is,by k_is⟩,⟨⟨_,.inl ⟨by k_is,_,rfl⟩,by kit_is,λ_=>by kts_exm⟩,⟨_,.inl ⟨by k_is,_,rfl⟩,by kit_is,nofun⟩,⟨_,.inl ⟨by k_is,_,rfl⟩,by kit_is,nofun⟩,⟨_,.inl ⟨by k_is,_,rfl⟩,by kit_is,nofun⟩,⟨_,.inl ⟨by k_is,_,rfl⟩,by kit_is,λ_=>by kts_exm⟩,⟨_,.inr ⟨by k_is,rfl,rfl⟩,by kit_is,λ_=>by kts_exm⟩,trivial⟩⟩,trivial⟩
#print axioms PySem.Challenge.cw_mixform_k61_partings_holds
end