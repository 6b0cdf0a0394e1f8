import PyProof.Rows.All
import Wide.All
import OpenK.AllK
import Wide.FinOn
import Lean
import PyProof.EqAt
import PyProof.EqKinds
import PyProof.TupleCall
import PySem.Challenge.RW_mixform_k04_whole_same
section
-- CHANGE: your row's module here, as the last of these rows
set_option Elab.async false
set_option linter.all false
set_option maxRecDepth 100000
/-! THE HAND LAYER, for ints, bools, texts, own classes, LISTS and tuples (index, slices, in, append, pop ..), calls, loops. Paste it whole ahead of your own text; what your proof does not reach may be deleted. -/
namespace L2
open PySem PySem.Spec PyProof.Rows

/-- a key: an int or a str -/
abbrev Key := Sum Int Str
def keyIs : Key → Value → Bool
  | .inl k, v => Value.isInt k v
  | .inr x, v => Value.isStrOf x v
def keyH (w : World) : Key → Int
  | .inl k => hashInt k
  | .inr x => hashStr w x
theorem keyIs_shape : ∀ {k : Key} {v : Value}, keyIs k v = true → (∃ i t, k = Sum.inl i ∧ v = Value.int i t) ∨ (∃ x t, k = Sum.inr x ∧ v = Value.str x t)
  | .inl i, v, h => by
    obtain ⟨t, e⟩ := Value.isInt_shape (k := i) (v := v) h
    exact .inl ⟨i, t, rfl, e⟩
  | .inr x, v, h => by
    obtain ⟨t, e⟩ := Value.isStrOf_shape (x := x) (v := v) h
    exact .inr ⟨x, t, rfl, e⟩
theorem keyIs_int (i : Int) (t : Tok) : keyIs (.inl i) (.int i t) = true := by simp [keyIs, Value.isInt]
theorem keyIs_str (x : Str) (t : Tok) : keyIs (.inr x) (.str x t) = true := by simp [keyIs, Value.isStrOf]
theorem key_ll (a b : Int) : decide ((Sum.inl a : Key) = Sum.inl b) = (a == b) := by
  by_cases e : a = b
  · subst e; simp
  · have h : ¬ (Sum.inl a : Key) = Sum.inl b := fun q => e (Sum.inl.inj q)
    rw [decide_eq_false h]
    exact (beq_eq_false_iff_ne.mpr e).symm
theorem key_rr (a b : Str) : decide ((Sum.inr a : Key) = Sum.inr b) = decide (a = b) := by
  by_cases e : a = b
  · subst e; simp
  · have h : ¬ (Sum.inr a : Key) = Sum.inr b := fun q => e (Sum.inr.inj q)
    rw [decide_eq_false h, decide_eq_false e]
theorem key_lr (a : Int) (b : Str) : decide ((Sum.inl a : Key) = Sum.inr b) = false := decide_eq_false (fun q => nomatch q)
theorem key_rl (a : Str) (b : Int) : decide ((Sum.inr a : Key) = Sum.inl b) = false := decide_eq_false (fun q => nomatch q)

def mixKind (prog : Program) (w : World) : PySem.KeyKind prog w Key where
  is := keyIs
  hash := keyH w
  inj := fun v a b ha hb => by
    rcases keyIs_shape ha with ⟨i, t, rfl, rfl⟩ | ⟨x, t, rfl, rfl⟩
    · rcases keyIs_shape hb with ⟨j, u, rfl, e⟩ | ⟨y, u, rfl, e⟩
      · injection e with e1 _; rw [e1]
      · exact nomatch e
    · rcases keyIs_shape hb with ⟨j, u, rfl, e⟩ | ⟨y, u, rfl, e⟩
      · exact nomatch e
      · injection e with e1 _; rw [e1]
  byValue := fun k v h => by
    rcases keyIs_shape h with ⟨i, t, rfl, rfl⟩ | ⟨x, t, rfl, rfl⟩ <;> rfl
  pyHash := fun hv h => by
    rcases keyIs_shape hv with ⟨i, t, rfl, rfl⟩ | ⟨x, t, rfl, rfl⟩
    · exact wpAny_pyHash_int h
    · exact wpAny_pyHash_str h
  eqBool := fun hu hv h => by
    rcases keyIs_shape hu with ⟨i, t, rfl, rfl⟩ | ⟨x, t, rfl, rfl⟩
    · rcases keyIs_shape hv with ⟨j, u, rfl, rfl⟩ | ⟨y, u, rfl, rfl⟩
      · rw [key_ll] at h; exact wpAny_eqBool_int h
      · rw [key_lr] at h; exact SeqAt.EqAt.int_str i t y u _ _ _ _ h
    · rcases keyIs_shape hv with ⟨j, u, rfl, rfl⟩ | ⟨y, u, rfl, rfl⟩
      · rw [key_rl] at h; exact SeqAt.EqAt.str_int x t j u _ _ _ _ h
      · rw [key_rr] at h; exact wpAny_eqBool_str h
  «strs» := fun k x t v h => by
    rcases keyIs_shape h with ⟨i, u, rfl, e⟩ | ⟨y, u, rfl, e⟩
    · exact nomatch e
    · injection e with e1 _
      subst e1
      cases v <;> rfl

theorem mixKind_is (prog : Program) (w : World) (k : Key) (v : Value) : (mixKind prog w).is k v = keyIs k v := rfl
theorem mixKind_int (prog : Program) (w : World) (i : Int) (t : Tok) : (mixKind prog w).is (.inl i) (.int i t) = true := keyIs_int i t
theorem mixKind_str (prog : Program) (w : World) (x : Str) (t : Tok) : (mixKind prog w).is (.inr x) (.str x t) = true := keyIs_str x t
end L2

namespace L2
open PySem PySem.Spec PyProof.Rows

/-- a value, without the heap -/
inductive V where
  | non | bl (b : Bool) | int (i : Int) | str (x : Str) | byt (b : Array UInt8) | flt (b : UInt64) | ref (a : Addr) | ty (n : String)
  deriving DecidableEq

def RelV : V → Value → Prop
  | .non, u => u = Value.none
  | .bl b, u => u = Value.bool b
  | .int i, u => ∃ t, u = Value.int i t
  | .str x, u => ∃ t, u = Value.str x t
  | .byt b, u => ∃ t, u = Value.bytes b t
  | .flt b, u => ∃ t, u = Value.float b t
  | .ref a, u => u = Value.ref a
  | .ty n, u => u = Value.type n

abbrev Vals : List V → List Value → Prop := Paired RelV
theorem Vals.length {xs : List V} {us : List Value} (r : Vals xs us) : xs.length = us.length := Paired.length r
theorem Vals.get : ∀ {xs : List V} {us : List Value} {i : Nat} {x : V}, Vals xs us → xs[i]? = some x → ∃ u, us[i]? = some u ∧ RelV x u
  | _, _, _, _, .nil, e => by simp at e
  | _, _, 0, _, .cons r _, e => by simp at e; subst e; exact ⟨_, rfl, r⟩
  | _, _, i + 1, x, .cons _ t, e => by
    obtain ⟨u, h1, h2⟩ := Vals.get (i := i) (x := x) t (by simpa using e)
    exact ⟨u, by simpa using h1, h2⟩
theorem Vals.set {x : V} {u : Value} (r : RelV x u) : ∀ {xs : List V} {us : List Value} (i : Nat), Vals xs us → Vals (xs.set i x) (us.set i u)
  | _, _, _, .nil => .nil
  | _, _, 0, .cons _ t => .cons r t
  | _, _, i + 1, .cons q t => .cons q (Vals.set r i t)
theorem Vals.append : ∀ {xs ys : List V} {us ws : List Value}, Vals xs us → Vals ys ws → Vals (xs ++ ys) (us ++ ws)
  | _, _, _, _, .nil, s => s
  | _, _, _, _, .cons r t, s => .cons r (Vals.append t s)
theorem Vals.take : ∀ {xs : List V} {us : List Value} (n : Nat), Vals xs us → Vals (xs.take n) (us.take n)
  | _, _, 0, _ => .nil
  | _, _, _ + 1, .nil => .nil
  | _, _, n + 1, .cons r t => .cons r (Vals.take n t)
theorem Vals.drop : ∀ {xs : List V} {us : List Value} (n : Nat), Vals xs us → Vals (xs.drop n) (us.drop n)
  | _, _, 0, r => r
  | _, _, _ + 1, .nil => .nil
  | _, _, n + 1, .cons _ t => Vals.drop n t
theorem Vals.none_of : ∀ {xs : List V} {us : List Value} {i : Nat}, Vals xs us → xs[i]? = none → us[i]? = none := fun {xs us i} r e => by
  have h1 := r.length
  have h2 : xs.length ≤ i := List.getElem?_eq_none_iff.mp e
  exact List.getElem?_eq_none_iff.mpr (by omega)

def RelO : Option V → Option Value → Prop
  | some v, some u => RelV v u
  | none, none => True
  | _, _ => False
def KV {κ : Type} : List (κ × V) → List (κ × Value) → Prop := Paired fun (p : κ × V) (q : κ × Value) => p.1 = q.1 ∧ RelV p.2 q.2

/-- a key of a dict (00_mix): an int or a text -/
def kV : Key → V
  | .inl i => .int i
  | .inr x => .str x

/-- what stands at a tracked address -/
inductive HO where
  /-- a list -/
  | lst (xs : List V)
  /-- a tuple (never changes) -/
  | tup (xs : List V)
  /-- a dict whose keys are ints and texts; one whose keys are tuples of ints and texts (the empty one is both) -/
  | dK (kvs : List (Key × V)) | dT (kvs : List (List Key × V))
  /-- a set of ints: its members, its size -/
  | set (S : Int → Bool) (n : Nat)
  /-- an instance of the class at C, its dict at dx, its attributes -/
  | ins (C dx : Addr) (fs : List (Str × V))
  /-- the dict of the instance at x -/
  | own (x : Addr)
  /-- the dict of an exception -/
  | xd (fs : List (Str × V))
  /-- a bound method, f of x -/
  | met (f x : Addr)
  /-- a range object lo, lo + 1, .. below hi -/
  | rng (lo hi : Int)
  /-- a thing that is known to the object (the script; a dict while a loop walks it): read, never written while it is so -/
  | frz (o : Obj) (u : HO)
  /-- a code object's table -/
  | tbl (ps : Array Value)
  /-- any other thing, by what is true of its one object (a def of one's own: SetO a S n := HO.ext fun h => ..) -/
  | ext (φ : Heap → Prop)

abbrev Hp := Addr → Option HO
def upd (H : Hp) (a : Addr) (o : HO) : Hp := fun b => if b = a then some o else H b
theorem upd_same {H : Hp} {a : Addr} {o : HO} : upd H a o a = some o := by unfold upd; rw [if_pos rfl]
theorem upd_ne {H : Hp} {a b : Addr} {o : HO} (h : b ≠ a) : upd H a o b = H b := by unfold upd; rw [if_neg h]
theorem upd_upd {H : Hp} {a : Addr} {o u : HO} : upd (upd H a o) a u = upd H a u := by
  funext b; unfold upd; split <;> rfl
/-- two objects of different content stand apart -/
theorem ne_of {H : Hp} {a b : Addr} {o u : HO} (h : H a = some o) (h' : H b = some u) (d : o ≠ u) : a ≠ b := by
  intro e; subst e; rw [h] at h'; exact d (Option.some.inj h')
theorem ne_of_none {H : Hp} {a b : Addr} {o : HO} (h : H a = some o) (h' : H b = none) : a ≠ b := by
  intro e; subst e; rw [h] at h'; cases h'

section
variable (P : Program) (w : World)
def ObjOk (H : Hp) (h : Heap) (a : Addr) : HO → Prop
  | .lst xs => xs.length ≤ sizeLine ∧ ∃ (its : List Value) (n : Nat), Vals xs its ∧ h.get? a = some { cls := .type "list", data := .seq its.toArray n }
  | .tup xs => xs.length ≤ sizeLine ∧ ∃ its : List Value, Vals xs its ∧ IsTup h a its.toArray
  | .dK kvs => kvs.length ≤ sizeLine ∧ (a == sysModules) = false ∧ ∃ vs, KV kvs vs ∧ h.DictOf (mixKind P w) a vs
  | .dT kvs => kvs.length ≤ sizeLine ∧ (a == sysModules) = false ∧ ∃ xs : List (List Key × Addr × Value),
      Paired (fun (p : List Key × V) (q : List Key × Addr × Value) => p.1 = q.1 ∧ H q.2.1 = some (.tup (p.1.map kV)) ∧ RelV p.2 q.2.2) kvs xs ∧
      ∃ o es ep, h.get? a = some o ∧ o.ExactDict ∧ o.data = .dict es ep ∧ es.toList = xs.map (entryOfKey (tupleKind (mixKind P w))) ∧ (xs.map (·.1)).Nodup
  | .set S n => h.SetOf (intKind P w) a S n
  | .ins C dx fs => H dx = some (.own a) ∧ fs.length ≤ 1000 ∧ dx ≠ a ∧ h.get? a = some (PySem.W.instObj C dx) ∧
      ∃ mA, h.Ns1 dx mA ∧ (∀ f, RelO (fs.lookup f) (mA f)) ∧ PySem.Within mA (fs.map (·.1))
  | .own _ => ∃ o, h.get? a = some o
  | .xd fs => ∃ mA, h.Ns1 a mA ∧ ∀ f, RelO (fs.lookup f) (mA f)
  | .rng lo hi => ∃ t u v, h.get? a = some { cls := .type "range", data := .fields #[.int lo t, .int hi u, .int 1 v] }
  | .frz o u => h.get? a = some o ∧ ObjOk H h a u
  | .tbl ps => h.get? a = some { cls := .none, data := .fields ps }
  | .met f x => h.get? a = some (PySem.W.methodObj (.ref f) (.ref x))
  | .ext φ => φ h ∧ (∃ o, h.get? a = some o) ∧ ∀ h1 h2 : Heap, φ h1 → (∀ o, h1.get? a = some o → h2.get? a = some o) → φ h2
/-- the abstract heap is held -/
def HOk (H : Hp) (h : Heap) : Prop := ∀ a o, H a = some o → ObjOk P w H h a o
end

section
variable {P : Program} {w : World} {H H' : Hp} {h h' : Heap} {a : Addr} {o : HO}
theorem ObjOk.lt (x : ObjOk P w H h a o) : a < h.objs.size := by
  cases o with
  | lst xs => obtain ⟨_, _, _, _, e⟩ := x; exact Heap.lt_size e
  | tup xs => obtain ⟨_, _, _, p⟩ := x; exact p.lt
  | dK kvs => obtain ⟨_, _, _, _, o, _, _, e, _⟩ := x; exact Heap.lt_size e
  | dT kvs => obtain ⟨_, _, _, _, o, _, _, e, _⟩ := x; exact Heap.lt_size e
  | set S n => obtain ⟨o, _, _, _, e, _⟩ := x; exact Heap.lt_size e
  | ins C dx fs => obtain ⟨_, _, _, e, _⟩ := x; exact Heap.lt_size e
  | own y => obtain ⟨_, e⟩ := x; exact Heap.lt_size e
  | xd fs => obtain ⟨_, ⟨_, _, _, e, _⟩, _⟩ := x; exact Heap.lt_size e
  | rng lo hi => obtain ⟨_, _, _, e⟩ := x; exact Heap.lt_size e
  | frz ob u => obtain ⟨e, _⟩ := x; exact Heap.lt_size e
  | tbl ps => exact Heap.lt_size (show h.get? a = some _ from x)
  | met f y => exact Heap.lt_size (show h.get? a = some _ from x)
  | ext φ => obtain ⟨_, ⟨_, e⟩, _⟩ := x; exact Heap.lt_size e
theorem Paired.mapP {α β : Type} {F G : α → β → Prop} : ∀ {l₁ : List α} {l₂ : List β}, Paired F l₁ l₂ → (∀ a b, F a b → G a b) → Paired G l₁ l₂
  | _, _, .nil, _ => .nil
  | _, _, .cons r t, f => .cons (f _ _ r) (Paired.mapP t f)
theorem Paired.imp' {α β : Type} {F G : α → β → Prop} (f : ∀ a b, F a b → G a b) {l₁ : List α} {l₂ : List β} (r : Paired F l₁ l₂) : Paired G l₁ l₂ := Paired.mapP r f
/-- what an object's description leans on: its own object, its own dict, the tuples -/
theorem ObjOk.stay (x : ObjOk P w H h a o) (k : ∀ b u, (b = a ∨ H b = some (.own a)) → h.get? b = some u → h'.get? b = some u)
    (ho : ∀ b, H b = some (.own a) → H' b = some (.own a)) (ht : ∀ b xs, H b = some (.tup xs) → H' b = some (.tup xs)) : ObjOk P w H' h' a o := by
  induction o with
  | lst xs => obtain ⟨z, its, n, r, e⟩ := x; exact ⟨z, its, n, r, k _ _ (.inl rfl) e⟩
  | tup xs => obtain ⟨z, its, r, ob, e, c⟩ := x; exact ⟨z, its, r, ob, k _ _ (.inl rfl) e, c⟩
  | dK kvs => obtain ⟨z, y, vs, r, ob, es, ep, e, c⟩ := x; exact ⟨z, y, vs, r, ob, es, ep, k _ _ (.inl rfl) e, c⟩
  | dT kvs =>
    obtain ⟨z, y, xs, r, ob, es, ep, e, c⟩ := x
    exact ⟨z, y, xs, Paired.mapP r fun p q z => ⟨z.1, ht _ _ z.2.1, z.2.2⟩, ob, es, ep, k _ _ (.inl rfl) e, c⟩
  | set S n => obtain ⟨ob, es, ep, t, e, c⟩ := x; exact ⟨ob, es, ep, t, k _ _ (.inl rfl) e, c⟩
  | ins C dx fs =>
    obtain ⟨d, z, ne, e, mA, ⟨od, es, ep, e2, c⟩, r⟩ := x
    exact ⟨ho _ d, z, ne, k _ _ (.inl rfl) e, mA, ⟨od, es, ep, k _ _ (.inr d) e2, c⟩, r⟩
  | own y => obtain ⟨ob, e⟩ := x; exact ⟨ob, k _ _ (.inl rfl) e⟩
  | xd fs => obtain ⟨mA, ⟨od, es, ep, e, c⟩, r⟩ := x; exact ⟨mA, ⟨od, es, ep, k _ _ (.inl rfl) e, c⟩, r⟩
  | rng lo hi => obtain ⟨t, u, v, e⟩ := x; exact ⟨t, u, v, k _ _ (.inl rfl) e⟩
  | frz ob u ih => obtain ⟨e, q⟩ := x; exact ⟨k _ _ (.inl rfl) e, ih q⟩
  | tbl ps =>
    have e : h.get? a = some { cls := .none, data := .fields ps } := x
    show h'.get? a = some { cls := .none, data := .fields ps }
    exact k a _ (.inl rfl) e
  | met f y =>
    have e : h.get? a = some (PySem.W.methodObj (.ref f) (.ref y)) := x
    show h'.get? a = some (PySem.W.methodObj (.ref f) (.ref y))
    exact k a _ (.inl rfl) e
  | ext φ => obtain ⟨p, ⟨o, e⟩, st⟩ := x; exact ⟨st _ _ p fun o q => k _ _ (.inl rfl) q, ⟨o, k _ _ (.inl rfl) e⟩, st⟩
theorem HOk.lt (x : HOk P w H h) (e : H a = some o) : a < h.objs.size := (x a o e).lt
theorem HOk.fresh (x : HOk P w H h) (e : h.objs.size ≤ a) : H a = none := by
  cases q : H a with
  | none => rfl
  | some u => exact absurd (Nat.lt_of_lt_of_le (x.lt q) e) (Nat.lt_irrefl _)
/-- every object of the heap is kept -/
theorem HOk.kept (x : HOk P w H h) (k : ∀ b u, h.get? b = some u → h'.get? b = some u) : HOk P w H h' := fun a o e =>
  (x a o e).stay (fun b u _ q => k b u q) (fun _ q => q) fun _ _ q => q
/-- a new object is laid and tracked -/
theorem HOk.laid (x : HOk P w H h) (k : ∀ b u, h.get? b = some u → h'.get? b = some u) (hp : h.objs.size ≤ a) (new : ObjOk P w (upd H a o) h' a o) : HOk P w (upd H a o) h' := fun b u e => by
  have hn := x.fresh hp
  by_cases hb : b = a
  · subst hb; rw [upd_same] at e; cases e; exact new
  · rw [upd_ne hb] at e
    exact (x b u e).stay (fun c v _ q => k c v q) (fun c q => by rw [upd_ne (ne_of_none q hn)]; exact q) fun c xs q => by rw [upd_ne (ne_of_none q hn)]; exact q
end

/-- what may be read as u: it is u, or a known u -/
def Rd (H : Hp) (a : Addr) (u : HO) : Prop := H a = some u ∨ ∃ o, H a = some (.frz o u)
theorem Rd.of {H : Hp} {a : Addr} {u : HO} (h : H a = some u) : Rd H a u := .inl h
theorem Rd.ok {P : Program} {w : World} {H : Hp} {h : Heap} {a : Addr} {u : HO} (r : Rd H a u) (x : HOk P w H h) : ObjOk P w H h a u := by
  rcases r with r | ⟨o, r⟩
  · exact x a u r
  · obtain ⟨_, q⟩ := x a _ r
    exact q
/-- what may be written -/
def Mut : Option HO → Prop
  | some (.lst _) => True
  | some (.dK _) => True
  | some (.dT _) => True
  | some (.set _ _) => True
  | some (.ins _ _ _) => True
  | some (.ext _) => True
  | _ => False
section
variable {P : Program} {w : World} {H : Hp} {h h' : Heap} {x e : Addr} {o' : HO}
/-- the object at e is changed: x itself, or the dict of the instance x -/
theorem HOk.write (ok : HOk P w H h) (mu : Mut (H x)) (he : e = x ∨ H e = some (.own x)) (k : ∀ b u, b ≠ e → h.get? b = some u → h'.get? b = some u) (heo : ∃ u, h'.get? e = some u)
    (new : ObjOk P w (upd H x o') h' x o') : HOk P w (upd H x o') h' := fun b u q => by
  have nown : ∀ c y, H c = some (.own y) → c ≠ x := fun c y r z => by subst z; rw [r] at mu; exact mu
  have ntup : ∀ c xs, H c = some (.tup xs) → c ≠ x := fun c xs r z => by subst z; rw [r] at mu; exact mu
  by_cases hb : b = x
  · subst hb; rw [upd_same] at q; cases q; exact new
  · rw [upd_ne hb] at q
    by_cases hbe : b = e
    · have q' : H b = some (.own x) := by
        rcases he with z | z
        · exact absurd (hbe.trans z) hb
        · rw [hbe]; exact z
      rw [q] at q'; cases q'
      obtain ⟨v, hv⟩ := heo
      exact ⟨v, by rw [hbe]; exact hv⟩
    · refine (ok b u q).stay (fun c v hc r => k c v ?_ r) (fun c r => by rw [upd_ne (nown c b r)]; exact r) fun c xs r => by rw [upd_ne (ntup c xs r)]; exact r
      rcases hc with rfl | hc
      · exact hbe
      · rintro rfl
        rcases he with z | z
        · exact nown c b hc z
        · rw [hc] at z; cases z; exact hb rfl
end

/-! ### kept unless tracked; of the frames at fs (the callers') the slots may change (an exception that passes writes there); of the records at ex (iterators) nothing is said -/
structure Un (fs ex : List Addr) (H H' : Hp) (h h' : Heap) : Prop where
  keep : ∀ b o, h.get? b = some o → H b = none → b ∉ fs → b ∉ ex → h'.get? b = some o
  slot : ∀ b o, h.get? b = some o → H b = none → b ∈ fs → b ∉ ex → ∃ sl, h'.get? b = some { o with slots := sl }
  free : ∀ b o, h.get? b = some o → H b = none → b ∉ ex → H' b = none
  there : ∀ b o, h.get? b = some o → b ∉ ex → ∃ o', h'.get? b = some o'
  tups : ∀ b xs, H b = some (.tup xs) → H' b = some (.tup xs)
  frzs : ∀ b o u, H b = some (.frz o u) → H' b = some (.frz o u)
  tbls : ∀ b ps, H b = some (.tbl ps) → ∃ more, H' b = some (.tbl (ps ++ more))
section
variable {fs fs' ex ex' : List Addr} {H H1 H2 : Hp} {h h1 h2 h' : Heap} {a x e : Addr} {o : HO}
theorem Un.any (u : Un fs ex H H1 h h1) {b : Addr} {ob : Obj} (q : h.get? b = some ob) (n : H b = none) (hx : b ∉ ex) : ∃ sl, h1.get? b = some { ob with slots := sl } := by
  by_cases hb : b ∈ fs
  · exact u.slot b ob q n hb hx
  · exact ⟨ob.slots, u.keep b ob q n hb hx⟩
theorem Un.trans (a : Un fs ex H H1 h h1) (b : Un fs ex H1 H2 h1 h2) : Un fs ex H H2 h h2 where
  keep := fun c ob q n hc hx => b.keep c ob (a.keep c ob q n hc hx) (a.free c ob q n hx) hc hx
  slot := fun c ob q n hc hx => by
    obtain ⟨sl, e1⟩ := a.slot c ob q n hc hx
    obtain ⟨sl', e2⟩ := b.slot c _ e1 (a.free c ob q n hx) hc hx
    exact ⟨sl', e2⟩
  free := fun c ob q n hx => by
    obtain ⟨o', e1⟩ := a.there c ob q hx
    exact b.free c o' e1 (a.free c ob q n hx) hx
  there := fun c ob q hx => by
    obtain ⟨o', e1⟩ := a.there c ob q hx
    exact b.there c o' e1 hx
  tups := fun c xs q => b.tups c xs (a.tups c xs q)
  frzs := fun c ob xs q => b.frzs c ob xs (a.frzs c ob xs q)
  tbls := fun c ps q => by
    obtain ⟨m1, e1⟩ := a.tbls c ps q
    obtain ⟨m2, e2⟩ := b.tbls c _ e1
    exact ⟨m1 ++ m2, by rw [e2, Array.append_assoc]⟩
theorem Un.kept (k : ∀ b u, h.get? b = some u → h'.get? b = some u) : Un fs ex H H h h' :=
  ⟨fun b ob q _ _ _ => k b ob q, fun b ob q _ _ _ => ⟨ob.slots, k b ob q⟩, fun _ _ _ n _ => n, fun b ob q _ => ⟨ob, k b ob q⟩, fun _ _ q => q, fun _ _ _ q => q, fun _ ps q => ⟨#[], by rw [q]; simp⟩⟩
theorem Un.refl : Un fs ex H H h h := Un.kept fun _ _ q => q
theorem Un.laid (k : ∀ b u, h.get? b = some u → h'.get? b = some u) (hp : h.objs.size ≤ a) (hn : H a = none) : Un fs ex H (upd H a o) h h' where
  keep := fun b u q _ _ _ => k b u q
  slot := fun b u q _ _ _ => ⟨u.slots, k b u q⟩
  free := fun b u q n _ => by rw [upd_ne (Nat.ne_of_lt (Nat.lt_of_lt_of_le (Heap.lt_size q) hp))]; exact n
  there := fun b u q _ => ⟨u, k b u q⟩
  tups := fun b xs q => by rw [upd_ne (ne_of_none q hn)]; exact q
  frzs := fun b u xs q => by rw [upd_ne (ne_of_none q hn)]; exact q
  tbls := fun b ps q => ⟨#[], by rw [upd_ne (ne_of_none q hn), q]; simp⟩
theorem Un.write (mu : Mut (H x)) (he : e = x ∨ H e = some (.own x)) (k : ∀ b u, b ≠ e → h.get? b = some u → h'.get? b = some u) (heo : ∃ u, h'.get? e = some u) : Un fs ex H (upd H x o) h h' := by
  have hx : ∀ b, H b = none → b ≠ x := fun b n z => by subst z; rw [n] at mu; exact mu
  have hb : ∀ b, H b = none → b ≠ e := fun b n z => by
    subst z
    rcases he with r | r
    · exact hx b n r
    · rw [n] at r; cases r
  have hm : ∀ b u, H b = some u → ¬ Mut (some u) → b ≠ x := fun b u q nm z => by subst z; rw [q] at mu; exact nm mu
  refine ⟨fun b u q n _ _ => k b u (hb b n) q, fun b u q n _ _ => ⟨u.slots, k b u (hb b n) q⟩, fun b u q n _ => by rw [upd_ne (hx b n)]; exact n, fun b u q _ => ?_,
    fun b xs q => by rw [upd_ne (hm b _ q fun z => z)]; exact q, fun b u xs q => by rw [upd_ne (hm b _ q fun z => z)]; exact q, fun b ps q => ⟨#[], by rw [upd_ne (hm b _ q fun z => z), q]; simp⟩⟩
  by_cases hbe : b = e
  · subst hbe; exact heo
  · exact ⟨u, k b u hbe q⟩
theorem Un.mono (u : Un fs ex H H1 h h1) (hs : ∀ b ∈ fs, b ∈ fs') (hx : ∀ b ∈ ex, b ∈ ex') : Un fs' ex' H H1 h h1 :=
  ⟨fun b ob q n hb he => u.keep b ob q n (fun z => hb (hs b z)) fun z => he (hx b z), fun _ _ q n _ he => u.any q n fun z => he (hx _ z), fun b ob q n he => u.free b ob q n fun z => he (hx b z), fun b ob q he => u.there b ob q fun z => he (hx b z), u.tups, u.frzs, u.tbls⟩
end

/-! ### the heap without what is tracked -/
def trk (h : Heap) (H : Hp) : List Addr := (List.range h.objs.size).filter fun a => (H a).isSome
def hidT (h : Heap) (H : Hp) : Heap := PySem.W.hideAll h (trk h H)
theorem hidT_size (h : Heap) (H : Hp) : (hidT h H).objs.size = h.objs.size := PySem.W.hideAll_size _ _
theorem hidT_get {h : Heap} {H : Hp} {b : Addr} {o : Obj} (e : h.get? b = some o) (n : H b = none) : (hidT h H).get? b = some o :=
  PySem.W.hideAll_get _ e fun hm => by
    have q : (H b).isSome = true := (List.mem_filter.mp hm).2
    rw [n] at q; simp at q
theorem of_hidT {h : Heap} {H : Hp} {b : Addr} {o : Obj} (e : (hidT h H).get? b = some o) : h.get? b = some o ∧ H b = none := by
  have e' : h.get? b = some o := PySem.W.of_hideAll (trk h H) e
  refine ⟨e', ?_⟩
  cases q : H b with
  | none => rfl
  | some x =>
    have hm : b ∈ trk h H := List.mem_filter.mpr ⟨List.mem_range.mpr (Heap.lt_size e'), by simp [q]⟩
    have z : (hidT h H).get? b = none := PySem.W.hideAll_none (trk h H) hm
    rw [z] at e; cases e

/-! ### OpenK's ledger, filled with every new object but one -/
def allNews (g h : Heap) (L : Addr) : List (Addr × Obj) := (List.range h.objs.size).filterMap fun a => if a = L ∨ (g.get? a).isSome = true then none else (h.get? a).map fun o => (a, o)
theorem mem_allNews {g h : Heap} {L a : Addr} {o : Obj} (h1 : a ≠ L) (h2 : g.get? a = none) (h3 : h.get? a = some o) : (a, o) ∈ allNews g h L :=
  List.mem_filterMap.mpr ⟨a, List.mem_range.mpr (Heap.lt_size h3), by simp [h1, h2, h3]⟩
theorem of_mem_allNews {g h : Heap} {L : Addr} {p : Addr × Obj} (hp : p ∈ allNews g h L) : p.1 ≠ L ∧ g.get? p.1 = none ∧ h.get? p.1 = some p.2 := by
  obtain ⟨b, _, e⟩ := List.mem_filterMap.mp hp
  split at e
  · cases e
  · rename_i hn
    cases q : h.get? b with
    | none => rw [q] at e; simp at e
    | some u =>
      rw [q] at e
      simp only [Option.map_some, Option.some.injEq] at e
      subst e
      refine ⟨fun z => hn (.inl z), ?_, q⟩
      show g.get? b = none
      cases r : g.get? b with
      | none => rfl
      | some v => exact (hn (.inr (by simp [r]))).elim
def rest (g h : Heap) (L d : Addr) : List (Addr × Obj) := (allNews g h L).filter fun p => decide (p.1 ≠ d)
theorem rest_ne {g h : Heap} {L d : Addr} : ∀ p ∈ rest g h L d, p.1 ≠ d := fun p hp => of_decide_eq_true (List.mem_filter.mp hp).2
theorem mem_rest {g h : Heap} {L d a : Addr} {o : Obj} (h1 : a ≠ L) (h2 : g.get? a = none) (h3 : h.get? a = some o) (h4 : a ≠ d) : (a, o) ∈ rest g h L d :=
  List.mem_filter.mpr ⟨mem_allNews h1 h2 h3, decide_eq_true h4⟩
theorem news_all {g h : Heap} {L : Addr} : News g L h (allNews g h L) := fun p hp => let ⟨a, b, c⟩ := of_mem_allNews hp; ⟨c, a, b⟩
theorem news_at {g h : Heap} {L d : Addr} {o : Obj} (h1 : d ≠ L) (h2 : g.get? d = none) (h3 : h.get? d = some o) : News g L h ((d, o) :: rest g h L d) := fun p hp => by
  rcases List.mem_cons.mp hp with rfl | hp
  · exact ⟨h3, h1, h2⟩
  · exact news_all p (List.mem_filter.mp hp).1
/-- behind a rule that changed d alone: all else but the frame is kept -/
theorem kept_of_news {g h h' : Heap} {L d : Addr} {m : Str → Option Value} (k : ∀ b o, g.get? b = some o → h.get? b = some o) (F : Fr g L h' m) (N : News g L h' (rest g h L d)) :
    ∀ b o, b ≠ L → b ≠ d → h.get? b = some o → h'.get? b = some o := fun b o h1 h2 e => by
  cases q : g.get? b with
  | some u =>
    have := k b u q
    rw [e] at this; cases this
    exact F.keep b _ q
  | none => exact (N (b, o) (mem_rest h1 q e h2)).1
end L2

namespace L2
open PySem PySem.Spec PyProof.Rows

/-- the module's facts, over the base: the heap at the law's entry without what is tracked there -/
structure Mod (K : PySem.W.Frag) (mg : Str → Option Value) (base : Heap) : Prop where
  kin : K.In base
  glob : base.Ns mainGlobals mg
  blt : ∃ mb, base.Ns builtinsNs mb ∧ ∀ x : Str, x ≠ "__name__" → mb x = bootBuiltins x
  nolimit : base.NoLimit

/-- the context: a def's body (or a comprehension's block) running. base: fixed through the whole law; s₀, H₀: the entry; outer: the frames whose slots others may change (a def's callers); stack: all frames that run;
   ex: iterators that were made ahead of the entry and are walked here (a comprehension's); fn: the names whose cells were made at the entry (a def: all; a comprehension's block: its own); calm: not within an except suite; pn: pins that every state bears; xe: what is wanted of an exception that leaves the code -/
structure Cx where
  prog : Program
  w : World
  K : PySem.W.Frag
  mg : Str → Option Value
  base : Heap
  A : Around
  N : List Str
  s₀ : Shared
  H₀ : Hp
  env : Env
  outer : List Env
  stack : List Env
  ex : List Addr
  fn : Str → Bool
  calm : Bool
  pn : List (Addr × Obj)
  xe : Value → Shared → Prop
/-- the callers' frames -/
def frs (l : List Env) : List Addr := l.filterMap (·.frame)
abbrev Cx.fs (X : Cx) : List Addr := frs X.outer

def Vis (sc : Scope) (x : Str) : Prop := sc.names.lookup x = some .local ∨ sc.names.lookup x = some .cell ∨ sc.names.lookup x = some .free
def Loc (sc : Scope) (x : Str) : Prop := sc.names.lookup x = some .local ∨ sc.names.lookup x = some .cell
def Look (env : Env) (h : Heap) (m : Str → Option Value) (x : Str) (u : Value) : Prop :=
  (env.kindOf x = some .local ∧ m x = some u) ∨ ((env.kindOf x = some .cell ∨ env.kindOf x = some .free) ∧ ∃ c, env.cells.lookup x = some c ∧ h.IsCell c (some u))

structure Cx.Ok (X : Cx) : Prop where
  mod : Mod X.K X.mg X.base
  kind : X.env.scope.kind = .function
  glob : X.env.globals = mainGlobals
  blt : X.env.builtins = builtinsNs
  above : X.s₀.heap.objs.size ≤ X.env.locals
  inj : ∀ x y c, X.env.cells.lookup x = some c → X.env.cells.lookup y = some c → x = y
  has : ∀ x, (X.env.kindOf x = some .cell ∨ X.env.kindOf x = some .free) → ∃ c, X.env.cells.lookup x = some c
  cab : ∀ x c, X.fn x = true → X.env.cells.lookup x = some c → X.s₀.heap.objs.size ≤ c
  hd : X.calm = true → X.A.handled = none
  frames : X.A.frames = some X.stack
  stk : X.stack = X.outer ∨ (X.stack = X.env :: X.outer ∧ X.env.frame = some X.env.locals)
  exf : ∀ b ∈ X.ex, b ≠ X.env.locals ∧ ∀ x c, X.env.cells.lookup x = some c → c ≠ b
  bs : ∀ b o, X.base.get? b = some o → X.s₀.heap.get? b = some o ∧ X.H₀ b = none
  bsz : X.base.objs.size ≤ X.s₀.heap.objs.size
  noex : ∀ b o, X.base.get? b = some o → b ∉ X.ex
  exfs : ∀ b ∈ X.ex, b ∉ X.fs
  funs : X.s₀.heap.FunFrames X.base X.outer
  frf : ∀ b ∈ X.fs, X.H₀ b = none

structure Inv (X : Cx) (pins : List (Addr × Obj)) (σ : List (Option V)) (H : Hp) (s : Shared) : Prop where
  ok : X.Ok
  os : s.os = X.s₀.os
  bare : AllBare s.gens
  base : Un X.fs X.ex X.H₀ H X.s₀.heap s.heap
  loc : ∃ m, s.heap.Ns X.env.locals m ∧ ∀ (i : Nat) (x : Str) (v : V), X.N[i]? = some x → σ[i]? = some (some v) → Vis X.env.scope x → ∃ u, RelV v u ∧ Look X.env s.heap m x u
  cell : ∀ x c, X.env.cells.lookup x = some c → ∃ v, s.heap.IsCell c v
  free : H X.env.locals = none
  freeC : ∀ x c, X.env.cells.lookup x = some c → H c = none
  pin : ∀ p ∈ X.pn ++ pins, s.heap.get? p.1 = some p.2 ∧ H p.1 = none ∧ p.1 ≠ X.env.locals ∧ p.1 ∉ X.fs ∧ ∀ v, p.2.data ≠ .cell v
  hok : HOk X.prog X.w H s.heap
  len : σ.length = X.N.length

section
variable {X : Cx} {pins : List (Addr × Obj)} {σ : List (Option V)} {H H' : Hp} {s : Shared} {h' : Heap}

theorem Cx.Ok.nofr (ok : X.Ok) {b : Addr} {o : Obj} (e : X.base.get? b = some o) : b ∉ X.fs := fun hb => by
  have := (ok.funs.mem hb).1
  rw [e] at this; cases this
theorem Inv.bs (I : Inv X pins σ H s) : ∀ b o, X.base.get? b = some o → s.heap.get? b = some o ∧ H b = none := fun b o e =>
  ⟨I.base.keep b o (I.ok.bs b o e).1 (I.ok.bs b o e).2 (I.ok.nofr e) (I.ok.noex b o e), I.base.free b o (I.ok.bs b o e).1 (I.ok.bs b o e).2 (I.ok.noex b o e)⟩
theorem Inv.bk (I : Inv X pins σ H s) : ∀ b o, X.base.get? b = some o → s.heap.get? b = some o := fun b o e => (I.bs b o e).1
theorem Inv.mod (I : Inv X pins σ H s) : Mod X.K X.mg X.base := I.ok.mod
theorem Inv.kIn (I : Inv X pins σ H s) : X.K.In s.heap := I.ok.mod.kin.keeps I.bk
theorem Inv.nolimit (I : Inv X pins σ H s) : s.heap.NoLimit := I.ok.mod.nolimit.keeps I.bk
/-- the frame over the base: for OpenK's rules (K.In X.base is I.mod.kin) -/
theorem Inv.fr (I : Inv X pins σ H s) : ∃ m, Fr X.base X.env.locals s.heap m :=
  let ⟨m, hn, _⟩ := I.loc
  ⟨m, hn, I.bk, Nat.le_trans I.ok.bsz I.ok.above⟩
theorem Inv.lt (I : Inv X pins σ H s) : X.env.locals < s.heap.objs.size := let ⟨_, hn, _⟩ := I.loc; hn.lt
theorem Inv.sz (I : Inv X pins σ H s) : X.s₀.heap.objs.size ≤ s.heap.objs.size := Nat.le_trans I.ok.above (Nat.le_of_lt I.lt)
theorem Inv.nofs (I : Inv X pins σ H s) {a : Addr} (h : s.heap.objs.size ≤ a) : a ∉ X.fs := fun hb => by
  obtain ⟨_, o, ho, _⟩ := I.ok.funs.mem hb
  exact absurd (Nat.lt_of_lt_of_le (Heap.lt_size ho) (Nat.le_trans I.sz h)) (Nat.lt_irrefl _)
theorem Inv.cne (I : Inv X pins σ H s) : ∀ x c, X.env.cells.lookup x = some c → c ≠ X.env.locals := fun x c e z => by
  obtain ⟨v, o, ho, hd⟩ := I.cell x c e
  obtain ⟨m, ⟨o', es, ep, ho', hd', _⟩, _⟩ := I.loc
  rw [z, ho'] at ho; cases ho; rw [hd'] at hd; cases hd
theorem Inv.funs (I : Inv X pins σ H s) : s.heap.FunFrames X.base X.outer := by
  have all : ∀ (l : List Env), (∀ b ∈ frs l, b ∈ X.fs) → X.s₀.heap.FunFrames X.base l → s.heap.FunFrames X.base l := by
    intro l
    induction l with
    | nil => intro _ _; trivial
    | cons env r ih =>
      intro hs hl
      obtain ⟨hk, ⟨L, o, hf, hn, ho, hd⟩, hr⟩ := hl
      have hL : L ∈ X.fs := hs L (by unfold frs; rw [List.filterMap_cons, hf]; exact List.mem_cons_self)
      obtain ⟨sl, e⟩ := I.base.slot L o ho (I.ok.frf L hL) hL fun z => I.ok.exfs L z hL
      exact ⟨hk, ⟨L, _, hf, hn, e, hd⟩, ih (fun b hb => hs b (by unfold frs; rw [List.filterMap_cons, hf]; exact List.mem_cons_of_mem _ hb)) hr⟩
  exact all X.outer (fun _ hb => hb) I.ok.funs

/-- the frames that run, for a call -/
theorem Inv.stack (I : Inv X pins σ H s) : s.heap.FunFrames X.base X.stack := by
  rcases I.ok.stk with e | ⟨e, hf⟩
  · rw [e]; exact I.funs
  · rw [e]
    obtain ⟨m, hn, _⟩ := I.loc
    refine .cons (by rw [I.ok.kind]; decide) hf hn ?_ I.funs
    exact Heap.get?_none_of_le (Nat.le_trans I.ok.bsz I.ok.above)
theorem Inv.stkSub (I : Inv X pins σ H s) : ∀ b ∈ frs X.stack, b ∈ X.env.locals :: X.fs := fun b hb => by
  rcases I.ok.stk with e | ⟨e, hf⟩
  · rw [e] at hb; exact List.mem_cons_of_mem _ hb
  · rw [e] at hb
    unfold frs at hb
    rw [List.filterMap_cons, hf] at hb
    exact hb
theorem Inv.stkFree (I : Inv X pins σ H s) : ∀ b ∈ frs X.stack, H b = none := fun b hb => by
  rcases List.mem_cons.mp (I.stkSub b hb) with e | hb
  · rw [e]; exact I.free
  · obtain ⟨_, o, ho, _⟩ := I.ok.funs.mem hb
    exact I.base.free b o ho (I.ok.frf b hb) fun z => I.ok.exfs b z hb

/-- THE STEP: the untracked objects but the frame and the records at ch are kept (the callers' frames up to slots), the frame's map is kept, the new abstract heap is held -/
theorem Inv.step {g' : Array GenState} {t' : Nat} {d' : Drawn} {ch : List Addr} (I : Inv X pins σ H s)
    (hch : ∀ b ∈ ch, (b ∈ X.ex ∨ X.s₀.heap.objs.size ≤ b) ∧ b ≠ X.env.locals ∧ (∀ x c, X.env.cells.lookup x = some c → c ≠ b) ∧ ∀ p ∈ X.pn ++ pins, p.1 ≠ b)
    (keep : ∀ b o, b ≠ X.env.locals → b ∉ X.fs → b ∉ ch → s.heap.get? b = some o → H b = none → h'.get? b = some o)
    (slot : ∀ b o, b ≠ X.env.locals → b ∈ X.fs → b ∉ ch → s.heap.get? b = some o → H b = none → ∃ sl, h'.get? b = some { o with slots := sl }) (free : ∀ b o, b ∉ ch → s.heap.get? b = some o → H b = none → H' b = none)
    (there : ∀ b o, b ∉ ch → s.heap.get? b = some o → ∃ o', h'.get? b = some o')
    (tups : ∀ b xs, H b = some (.tup xs) → H' b = some (.tup xs)) (frzs : ∀ b o u, H b = some (.frz o u) → H' b = some (.frz o u)) (tbls : ∀ b ps, H b = some (.tbl ps) → ∃ more, H' b = some (.tbl (ps ++ more)))
    (ns : ∀ m, s.heap.Ns X.env.locals m → h'.Ns X.env.locals m) (hok : HOk X.prog X.w H' h') (hg : AllBare g') :
    Inv X pins σ H' { s with heap := h', gens := g', drawn := d', toks := t' } := by
  have neL : ∀ b o, X.s₀.heap.get? b = some o → b ≠ X.env.locals := fun b o e => Nat.ne_of_lt (Nat.lt_of_lt_of_le (Heap.lt_size e) I.ok.above)
  have neC : ∀ b o, X.s₀.heap.get? b = some o → b ∉ X.ex → b ∉ ch := fun b o e hx hb => by
    rcases (hch b hb).1 with z | z
    · exact hx z
    · exact absurd (Nat.lt_of_lt_of_le (Heap.lt_size e) z) (Nat.lt_irrefl _)
  have cellK : ∀ x c, X.env.cells.lookup x = some c → ∀ v, s.heap.IsCell c v → h'.IsCell c v := fun x c e v ⟨o, ho, hd⟩ => by
    have nch : c ∉ ch := fun z => (hch c z).2.2.1 x c e rfl
    by_cases hc : c ∈ X.fs
    · obtain ⟨sl, q⟩ := slot c o (I.cne x c e) hc nch ho (I.freeC x c e)
      exact ⟨_, q, hd⟩
    · exact ⟨o, keep c o (I.cne x c e) hc nch ho (I.freeC x c e), hd⟩
  refine ⟨I.ok, I.os, hg, ⟨fun b o e n hb hx => ?_, fun b o e n hb hx => ?_, fun b o e n hx => ?_, fun b o e hx => ?_, fun b xs e => tups b xs (I.base.tups b xs e), fun b o xs e => frzs b o xs (I.base.frzs b o xs e), fun b ps e => ?_⟩, ?_, fun x c e => ?_, ?_, fun x c e => ?_, fun p hp => ?_, hok, I.len⟩
  · exact keep b o (neL b o e) hb (neC b o e hx) (I.base.keep b o e n hb hx) (I.base.free b o e n hx)
  · obtain ⟨sl, e1⟩ := I.base.slot b o e n hb hx
    obtain ⟨sl', e2⟩ := slot b _ (neL b o e) hb (neC b o e hx) e1 (I.base.free b o e n hx)
    exact ⟨sl', e2⟩
  · obtain ⟨o', e1⟩ := I.base.there b o e hx
    exact free b o' (neC b o e hx) e1 (I.base.free b o e n hx)
  · obtain ⟨o', e1⟩ := I.base.there b o e hx
    exact there b o' (neC b o e hx) e1
  · obtain ⟨m1, e1⟩ := I.base.tbls b ps e
    obtain ⟨m2, e2⟩ := tbls b _ e1
    exact ⟨m1 ++ m2, by rw [e2, Array.append_assoc]⟩
  · obtain ⟨m, hn, hl⟩ := I.loc
    refine ⟨m, ns m hn, fun i x v e1 e2 e3 => ?_⟩
    obtain ⟨u, r, l⟩ := hl i x v e1 e2 e3
    refine ⟨u, r, ?_⟩
    rcases l with l | ⟨k, c, e, z⟩
    · exact .inl l
    · exact .inr ⟨k, c, e, cellK x c e _ z⟩
  · obtain ⟨v, z⟩ := I.cell x c e
    exact ⟨v, cellK x c e v z⟩
  · obtain ⟨m, ⟨o, _, _, ho, _⟩, _⟩ := I.loc
    exact free _ o (fun z => (hch _ z).2.1 rfl) ho I.free
  · obtain ⟨v, o, ho, hd⟩ := I.cell x c e
    exact free c o (fun z => (hch c z).2.2.1 x c e rfl) ho (I.freeC x c e)
  · obtain ⟨e, n, ne, nf, d⟩ := I.pin p hp
    have nch : p.1 ∉ ch := fun z => (hch p.1 z).2.2.2 p hp rfl
    exact ⟨keep p.1 p.2 ne nf nch e n, free p.1 p.2 nch e n, ne, nf, d⟩
/-- .. where the frame's own object is kept too -/
theorem Inv.un {t' : Nat} (I : Inv X pins σ H s) (u : Un X.fs [] H H' s.heap h') (hok : HOk X.prog X.w H' h') : Inv X pins σ H' { s with heap := h', toks := t' } := by
  obtain ⟨m, ⟨o, es, ep, ho, r⟩, _⟩ := id I.loc
  obtain ⟨sl, hL⟩ := u.any ho I.free (by simp)
  exact I.step (g' := s.gens) (d' := s.drawn) (ch := []) (fun _ z => nomatch z) (fun b o _ hb _ e n => u.keep b o e n hb (by simp)) (fun b o _ hb _ e n => u.slot b o e n hb (by simp)) (fun b o _ e n => u.free b o e n (by simp)) (fun b o _ e => u.there b o e (by simp)) u.tups u.frzs u.tbls (fun m' hm => by
    obtain ⟨o', es', ep', ho', r'⟩ := hm
    rw [ho] at ho'; cases ho'
    exact ⟨_, es', ep', hL, r'⟩) hok I.bare
/-- behind a call (or a comprehension's block): the slots of this frame may have changed too, the records at ch may have turned -/
theorem Inv.call {g' : Array GenState} {t' : Nat} {d' : Drawn} {ch : List Addr} (I : Inv X pins σ H s) (u : Un (frs X.stack) ch H H' s.heap h') (hok : HOk X.prog X.w H' h') (hg : AllBare g')
    (hch : ∀ b ∈ ch, (b ∈ X.ex ∨ X.s₀.heap.objs.size ≤ b) ∧ b ≠ X.env.locals ∧ (∀ x c, X.env.cells.lookup x = some c → c ≠ b) ∧ ∀ p ∈ X.pn ++ pins, p.1 ≠ b) :
    Inv X pins σ H' { s with heap := h', gens := g', drawn := d', toks := t' } := by
  obtain ⟨m, ⟨o, es, ep, ho, r⟩, _⟩ := id I.loc
  obtain ⟨sl, hL⟩ := u.any ho I.free fun z => (hch _ z).2.1 rfl
  exact I.step (ch := ch) hch (fun b o hL hb hc e n => u.keep b o e n (fun z => (List.mem_cons.mp (I.stkSub b z)).elim hL hb) hc) (fun b o _ _ hc e n => u.any e n hc) (fun b o hc e n => u.free b o e n hc) (fun b o hc e => u.there b o e hc) u.tups u.frzs u.tbls (fun m' hm => by
    obtain ⟨o', es', ep', ho', r'⟩ := hm
    rw [ho] at ho'; cases ho'
    exact ⟨_, es', ep', hL, r'⟩) hok hg
/-- an untracked record of ours (an iterator) has turned -/
theorem Inv.turned {t' : Nat} {it : Addr} (I : Inv X pins σ H s) (k : ∀ b o, b ≠ it → s.heap.get? b = some o → h'.get? b = some o) (hn : H it = none) (hL : it ≠ X.env.locals)
    (h1 : it ∈ X.ex ∨ X.s₀.heap.objs.size ≤ it) (h2 : ∀ x c, X.env.cells.lookup x = some c → c ≠ it) (h3 : ∀ p ∈ X.pn ++ pins, p.1 ≠ it) : Inv X pins σ H { s with heap := h', toks := t' } := by
  have nit : ∀ b u, H b = some u → b ≠ it := fun b u e z => by rw [z, hn] at e; cases e
  refine I.step (g' := s.gens) (d' := s.drawn) (ch := [it]) (fun b hb => ?_) (fun b o _ _ hc e _ => k b o (fun z => hc (by simp [z])) e) (fun b o _ _ hc e _ => ⟨o.slots, k b o (fun z => hc (by simp [z])) e⟩) (fun _ _ _ _ n => n)
    (fun b o hc e => ⟨o, k b o (fun z => hc (by simp [z])) e⟩) (fun _ _ e => e) (fun _ _ _ e => e) (fun b ps e => ⟨#[], by rw [e]; simp⟩) (fun m hm => ?_) (fun b u e => ?_) I.bare
  · have e : b = it := by simpa using hb
    subst e
    exact ⟨h1, hL, h2, h3⟩
  · obtain ⟨o, es, ep, ho, r⟩ := hm
    exact ⟨o, es, ep, k _ o (Ne.symm hL) ho, r⟩
  · refine (I.hok b u e).stay (fun c v hc q => k c v ?_ q) (fun _ q => q) fun _ _ q => q
    rcases hc with z | z
    · rw [z]; exact nit b u e
    · exact nit c _ z
theorem Inv.tok (I : Inv X pins σ H s) (t : Nat) : Inv X pins σ H { s with toks := t } := I.un (h' := s.heap) (t' := t) Un.refl I.hok
/-- all objects kept -/
theorem Inv.kept {t' : Nat} (I : Inv X pins σ H s) (k : ∀ b u, s.heap.get? b = some u → h'.get? b = some u) : Inv X pins σ H { s with heap := h', toks := t' } := I.un (Un.kept k) (I.hok.kept k)
/-- a new object laid and tracked -/
theorem Inv.laid {a : Addr} {o : HO} {t' : Nat} (I : Inv X pins σ H s) (k : ∀ b u, s.heap.get? b = some u → h'.get? b = some u) (hp : s.heap.objs.size ≤ a) (new : ObjOk X.prog X.w (upd H a o) h' a o) :
    Inv X pins σ (upd H a o) { s with heap := h', toks := t' } := I.un (Un.laid k hp (I.hok.fresh hp)) (I.hok.laid k hp new)
/-- an object written -/
theorem Inv.write {x e : Addr} {o : HO} {t' : Nat} (I : Inv X pins σ H s) (mu : Mut (H x)) (he : e = x ∨ H e = some (.own x)) (k : ∀ b u, b ≠ e → s.heap.get? b = some u → h'.get? b = some u) (heo : ∃ u, h'.get? e = some u)
    (new : ObjOk X.prog X.w (upd H x o) h' x o) : Inv X pins σ (upd H x o) { s with heap := h', toks := t' } := I.un (Un.write mu he k heo) (I.hok.write mu he k heo new)
/-- forgetting slots, pins -/
theorem Inv.weak {σ' : List (Option V)} (I : Inv X pins σ H s) (hl : σ'.length = σ.length) (w : ∀ (i : Nat) v, σ'[i]? = some (some v) → σ[i]? = some (some v)) : Inv X pins σ' H s :=
  ⟨I.ok, I.os, I.bare, I.base, let ⟨m, hn, hl'⟩ := I.loc; ⟨m, hn, fun i x v e1 e2 e3 => hl' i x v e1 (w i v e2) e3⟩, I.cell, I.free, I.freeC, I.pin, I.hok, hl.trans I.len⟩
theorem Inv.pins_of {pins' : List (Addr × Obj)} (I : Inv X pins σ H s) (h : ∀ p ∈ pins', s.heap.get? p.1 = some p.2 ∧ H p.1 = none ∧ p.1 ≠ X.env.locals ∧ p.1 ∉ X.fs ∧ ∀ v, p.2.data ≠ .cell v) : Inv X pins' σ H s :=
  ⟨I.ok, I.os, I.bare, I.base, I.loc, I.cell, I.free, I.freeC, fun p hp => (List.mem_append.mp hp).elim (fun z => I.pin p (List.mem_append_left _ z)) (h p), I.hok, I.len⟩

theorem nodup_ix {N : List Str} (hN : N.Nodup) {i j : Nat} {x : Str} (a : N[i]? = some x) (b : N[j]? = some x) : i = j := by
  obtain ⟨h1, e1⟩ := List.getElem?_eq_some_iff.mp a
  obtain ⟨h2, e2⟩ := List.getElem?_eq_some_iff.mp b
  exact (List.getElem_inj hN).mp (e1.trans e2.symm)

/-- a name is stored; what changed -/
theorem store_ok2 {M : Model} {A : Around} {E : Value → Shared → Prop} {i : Nat} {x : Str} {v : V} {u : Value} {Q : Unit → Shared → Prop} (I : Inv X pins σ H s) (hN : X.N.Nodup) (hi : X.N[i]? = some x) (hx : Loc X.env.scope x) (r : RelV v u)
    (h : ∀ s', Inv X pins (σ.set i (some v)) H s' → (∃ a, Heap.SameBut a s.heap s'.heap ∧ (a = X.env.locals ∨ X.env.cells.lookup x = some a)) → Q () s') (hf : X.fn x = true ∨ X.env.scope.names.lookup x = some .local := by first | exact .inl rfl | exact .inr rfl | assumption) : wpAny M A (storeName X.env x u) Q E s := by
  obtain ⟨m, hn, hl⟩ := id I.loc
  have hcls : (X.env.scope.kind == .class || (X.env.scope.kind == .module && X.env.locals != X.env.globals)) = false := by rw [I.ok.kind]; rfl
  have hiσ : i < σ.length := by rw [I.len]; exact (List.getElem?_eq_some_iff.mp hi).1
  have cne := I.cne
  have tracked : ∀ {a : Addr} {h' : Heap}, (∃ o, s.heap.get? a = some o ∧ H a = none) → Heap.SameBut a s.heap h' → HOk X.prog X.w H h' := fun {a h'} ha hs b ob e => by
    obtain ⟨_, _, hfree⟩ := ha
    refine (I.hok b ob e).stay (fun c w' hc q => (hs.2 c ?_).trans q) (fun _ q => q) fun _ _ q => q
    rintro rfl
    rcases hc with rfl | hc
    · rw [hfree] at e; cases e
    · rw [hfree] at hc; cases hc
  rcases hx with hk | hk
  · refine wpAny_storeName_local hk hn (fun h' hn' hs => ?_) hcls
    obtain ⟨oL, _, _, hoL, _⟩ := id hn
    refine h _ ⟨I.ok, I.os, I.bare, ⟨fun b o e n hb hx => ?_, fun b o e n hb hx => ?_, I.base.free, fun b o e hx => ?_, I.base.tups, I.base.frzs, I.base.tbls⟩, ⟨_, hn', fun j y v' e1 e2 e3 => ?_⟩, fun y c e => ?_, I.free, I.freeC, fun p hp => ?_, tracked ⟨oL, hoL, I.free⟩ hs, by simpa using I.len⟩ ⟨_, hs, .inl rfl⟩
    · exact (hs.2 b (Nat.ne_of_lt (Nat.lt_of_lt_of_le (Heap.lt_size e) I.ok.above))).trans (I.base.keep b o e n hb hx)
    · obtain ⟨sl, e1⟩ := I.base.slot b o e n hb hx
      exact ⟨sl, (hs.2 b (Nat.ne_of_lt (Nat.lt_of_lt_of_le (Heap.lt_size e) I.ok.above))).trans e1⟩
    · obtain ⟨o', e1⟩ := I.base.there b o e hx
      exact ⟨o', (hs.2 b (Nat.ne_of_lt (Nat.lt_of_lt_of_le (Heap.lt_size e) I.ok.above))).trans e1⟩
    · by_cases hj : j = i
      · subst hj
        rw [hi] at e1; cases e1
        rw [List.getElem?_set_self hiσ] at e2
        cases e2
        exact ⟨u, r, .inl ⟨hk, by simp⟩⟩
      · rw [List.getElem?_set_ne (Ne.symm hj)] at e2
        obtain ⟨u', r', q⟩ := hl j y v' e1 e2 e3
        refine ⟨u', r', ?_⟩
        rcases q with ⟨k, e⟩ | ⟨k, c, e, z⟩
        · refine .inl ⟨k, ?_⟩
          have : y ≠ x := fun e => hj (nodup_ix hN e1 (e ▸ hi))
          simp [this, e]
        · exact .inr ⟨k, c, e, z.sameBut hs (cne y c e)⟩
    · obtain ⟨w', z⟩ := I.cell y c e
      exact ⟨w', z.sameBut hs (cne y c e)⟩
    · obtain ⟨e, n, ne, nf, d⟩ := I.pin p hp
      exact ⟨(hs.2 p.1 ne).trans e, n, ne, nf, d⟩
  · have hfn : X.fn x = true := by
      rcases hf with z | z
      · exact z
      · rw [z] at hk; cases hk
    obtain ⟨c, hc⟩ := I.ok.has x (.inl hk)
    obtain ⟨w', z⟩ := I.cell x c hc
    refine wpAny_storeName_cell I.ok.kind hk hc z (fun h' hc' hs => ?_)
    obtain ⟨oc, hoc, hocd⟩ := id z
    refine h { s with heap := h' } ⟨I.ok, I.os, I.bare, ⟨fun b o e n hb hx => ?_, fun b o e n hb hx => ?_, I.base.free, fun b o e hx => ?_, I.base.tups, I.base.frzs, I.base.tbls⟩, ⟨m, hn.sameBut hs (Ne.symm (cne x c hc)), fun j y v' e1 e2 e3 => ?_⟩, fun y c' e => ?_, I.free, I.freeC, fun p hp => ?_, tracked ⟨oc, hoc, I.freeC x c hc⟩ hs, by simpa using I.len⟩ ⟨c, hs, .inr hc⟩
    · exact (hs.2 b (Nat.ne_of_lt (Nat.lt_of_lt_of_le (Heap.lt_size e) (I.ok.cab x c hfn hc)))).trans (I.base.keep b o e n hb hx)
    · obtain ⟨sl, e1⟩ := I.base.slot b o e n hb hx
      exact ⟨sl, (hs.2 b (Nat.ne_of_lt (Nat.lt_of_lt_of_le (Heap.lt_size e) (I.ok.cab x c hfn hc)))).trans e1⟩
    · obtain ⟨o', e1⟩ := I.base.there b o e hx
      exact ⟨o', (hs.2 b (Nat.ne_of_lt (Nat.lt_of_lt_of_le (Heap.lt_size e) (I.ok.cab x c hfn hc)))).trans e1⟩
    · by_cases hj : j = i
      · subst hj
        rw [hi] at e1; cases e1
        rw [List.getElem?_set_self hiσ] at e2
        cases e2
        exact ⟨u, r, .inr ⟨.inl hk, c, hc, hc'⟩⟩
      · rw [List.getElem?_set_ne (Ne.symm hj)] at e2
        obtain ⟨u', r', q⟩ := hl j y v' e1 e2 e3
        refine ⟨u', r', ?_⟩
        rcases q with q | ⟨k, c', e, z'⟩
        · exact .inl q
        · refine .inr ⟨k, c', e, z'.sameBut hs ?_⟩
          rintro rfl
          exact hj (nodup_ix hN e1 (I.ok.inj _ _ _ e hc ▸ hi))
    · by_cases hcc : c' = c
      · subst hcc; exact ⟨_, hc'⟩
      · obtain ⟨w2, z2⟩ := I.cell y c' e
        exact ⟨w2, z2.sameBut hs hcc⟩
    · obtain ⟨e, n, ne, nf, d⟩ := I.pin p hp
      refine ⟨(hs.2 p.1 ?_).trans e, n, ne, nf, d⟩
      intro q
      rw [q, hoc] at e
      have q' : oc = p.2 := Option.some.inj e
      exact d w' (by rw [← q']; exact hocd)
theorem store_ok {M : Model} {A : Around} {E : Value → Shared → Prop} {i : Nat} {x : Str} {v : V} {u : Value} {Q : Unit → Shared → Prop} (I : Inv X pins σ H s) (hN : X.N.Nodup) (hi : X.N[i]? = some x) (hx : Loc X.env.scope x) (r : RelV v u)
    (h : ∀ s', Inv X pins (σ.set i (some v)) H s' → Q () s') (hf : X.fn x = true ∨ X.env.scope.names.lookup x = some .local := by first | exact .inl rfl | exact .inr rfl | assumption) : wpAny M A (storeName X.env x u) Q E s :=
  store_ok2 I hN hi hx r (fun s' I' _ => h s' I') hf
/-- behind a call or a block, the state as it is -/
theorem Inv.call' {s' : Shared} {ch : List Addr} (I : Inv X pins σ H s) (ho : s'.os = s.os) (u : Un (frs X.stack) ch H H' s.heap s'.heap) (hok : HOk X.prog X.w H' s'.heap) (hg : AllBare s'.gens)
    (hch : ∀ b ∈ ch, (b ∈ X.ex ∨ X.s₀.heap.objs.size ≤ b) ∧ b ≠ X.env.locals ∧ (∀ x c, X.env.cells.lookup x = some c → c ≠ b) ∧ ∀ p ∈ X.pn ++ pins, p.1 ≠ b) : Inv X pins σ H' s' := by
  obtain ⟨h', g', d', t', o'⟩ := s'
  have e : o' = s.os := ho
  subst e
  exact I.call (g' := g') (t' := t') (d' := d') u hok hg hch
end

/-! ### the judgements -/
/-- an exception: its class, its own dict's address (where it has one), the abstract heap behind it -/
abbrev XK := Value → Option Addr → Hp → Prop
abbrev St := List (Option V)
abbrev VK := V → Hp → Prop
/-- an expression's reading; a test's; an argument list's -/
abbrev TE := St → Hp → VK → Prop
abbrev TT := St → Hp → (Bool → Hp → Prop) → Prop
abbrev TA := St → Hp → (List V → Hp → Prop) → Prop
/-- what is wanted behind a statement -/
structure Ends where
  nx : St → Hp → Prop
  rt : VK
  bk : St → Hp → Prop := fun _ _ => False
  ct : St → Hp → Prop := fun _ _ => False
abbrev TS := Ends → St → Hp → Prop

def EP (X : Cx) (pins : List (Addr × Obj)) (σ : St) (Q : VK) (u : Value) (s' : Shared) : Prop := ∃ v H', Inv X pins σ H' s' ∧ RelV v u ∧ Q v H'
def TP (X : Cx) (pins : List (Addr × Obj)) (σ : St) (Q : Bool → Hp → Prop) (b : Bool) (s' : Shared) : Prop := ∃ H', Inv X pins σ H' s' ∧ Q b H'
def AP (X : Cx) (pins : List (Addr × Obj)) (σ : St) (Q : List V → Hp → Prop) (us : List Value) (s' : Shared) : Prop := ∃ vs H', Inv X pins σ H' s' ∧ Vals vs us ∧ Q vs H'
def SP (X : Cx) (pins : List (Addr × Obj)) (D : Ends) (f : Flow) (s' : Shared) : Prop :=
  match f with
  | .next => ∃ σ' H', Inv X pins σ' H' s' ∧ D.nx σ' H'
  | .brk => ∃ σ' H', Inv X pins σ' H' s' ∧ D.bk σ' H'
  | .cont => ∃ σ' H', Inv X pins σ' H' s' ∧ D.ct σ' H'
  | .ret u => ∃ v σ' H', Inv X pins σ' H' s' ∧ RelV v u ∧ D.rt v H'

def PE (X : Cx) (e : Expr) (t : TE) : Prop :=
  ∀ (pins : List (Addr × Obj)) (s : Shared) (σ : St) (H : Hp) (Q : VK), Inv X pins σ H s → t σ H Q → wpAny (model X.prog X.w) X.A (eval e X.env) (EP X pins σ Q) X.xe s
def PT (X : Cx) (e : Expr) (t : TT) : Prop :=
  ∀ (pins : List (Addr × Obj)) (s : Shared) (σ : St) (H : Hp) (Q : Bool → Hp → Prop), Inv X pins σ H s → t σ H Q → wpAny (model X.prog X.w) X.A (isTrue e X.env (eval e X.env)) (TP X pins σ Q) X.xe s
/-- a test whatever its 'whole' is (and, or) -/
def PW (X : Cx) (e : Expr) (t : TT) : Prop :=
  ∀ (whole : Sem Value) (pins : List (Addr × Obj)) (s : Shared) (σ : St) (H : Hp) (Q : Bool → Hp → Prop), Inv X pins σ H s → t σ H Q → wpAny (model X.prog X.w) X.A (isTrue e X.env whole) (TP X pins σ Q) X.xe s
theorem PW.pt {X : Cx} {e : Expr} {t : TT} (h : PW X e t) : PT X e t := h _
/-- an argument list (no star), from the left -/
def PA (X : Cx) (es : List Expr) (t : TA) : Prop :=
  ∀ (pos : Pos) (pins : List (Addr × Obj)) (s : Shared) (σ : St) (H : Hp) (Q : List V → Hp → Prop), Inv X pins σ H s → t σ H Q → wpAny (model X.prog X.w) X.A (spliced (backTo pos (starEach es X.env))) (AP X pins σ Q) X.xe s
def PS (X : Cx) (st : Stmt) (t : TS) : Prop :=
  ∀ (pins : List (Addr × Obj)) (s : Shared) (σ : St) (H : Hp) (D : Ends), Inv X pins σ H s → t D σ H → wpAny (model X.prog X.w) X.A (exec st X.env) (SP X pins D) X.xe s
def PSs (X : Cx) (st : List Stmt) (t : TS) : Prop :=
  ∀ (pins : List (Addr × Obj)) (s : Shared) (σ : St) (H : Hp) (D : Ends), Inv X pins σ H s → t D σ H → wpAny (model X.prog X.w) X.A (execs st X.env) (SP X pins D) X.xe s
/-- weaken the end -/
theorem thn {α : Type} {t : Sem α} {Q Q' : α → Shared → Prop} {M : Model} {A : Around} {E : Value → Shared → Prop} {s : Shared} (h : wpAny M A t Q E s) (hQ : ∀ a s, Q a s → Q' a s) : wpAny M A t Q' E s := wpAny_mono h hQ fun _ _ x => x
end L2

namespace L2
open PySem PySem.Spec PyProof.Rows
section
variable {X : Cx}

/-- two expressions in a row -/
theorem bin {a b : Expr} {ta tb : TE} (ha : PE X a ta) (hb : PE X b tb) {pins : List (Addr × Obj)} {s : Shared} {σ : St} {H : Hp} {R : V → V → Hp → Prop} (I : Inv X pins σ H s) (h : ta σ H fun x H1 => tb σ H1 fun y H2 => R x y H2)
    {α : Type} {Q : α → Shared → Prop} {f : Value → Value → Sem α}
    (hf : ∀ v u s2 x y H2, Inv X pins σ H2 s2 → RelV x v → RelV y u → R x y H2 → wpAny (model X.prog X.w) X.A (f v u) Q X.xe s2) :
    wpAny (model X.prog X.w) X.A (eval a X.env) (fun v s₁ => wpAny (model X.prog X.w) X.A (eval b X.env) (fun u s₂ => wpAny (model X.prog X.w) X.A (f v u) Q X.xe s₂) X.xe s₁) X.xe s := by
  refine thn (ha pins s σ H _ I h) fun v s1 ⟨x, H1, I1, r1, q1⟩ => ?_
  refine thn (hb pins s1 σ H1 _ I1 q1) fun u s2 ⟨y, H2, I2, r2, q2⟩ => ?_
  exact hf v u s2 x y H2 I2 r1 r2 q2

/-! ### names and constants -/
def tVar (i : Nat) : TE := fun σ H Q => ∃ v, σ[i]? = some (some v) ∧ Q v H
def tC (v : V) : TE := fun _ H Q => Q v H
theorem pe_var {i : Nat} {x : Str} {pos : Pos} (hN : X.N[i]? = some x) (hv : Vis X.env.scope x) (hd : (x == ("__debug__" : Str)) = false := by decide) (hcd : (x == ("__classdict__" : Str)) = false := by decide) : PE X (.Name x pos) (tVar i) := by
  intro pins s σ H Q I h
  obtain ⟨v, e, h⟩ := h
  obtain ⟨m, hn, hl⟩ := I.loc
  obtain ⟨u, r, l⟩ := hl i x v hN e hv
  have fin : EP X pins σ Q u s := ⟨v, H, I, r, h⟩
  rcases l with ⟨hk, hm⟩ | ⟨hk, c, hc, hcell⟩
  · exact wpAny_Name (wpAny_loadName_local I.ok.kind hk hn hm fin) hd
  · rcases hk with hk | hk
    · exact wpAny_Name (wpAny_loadName_cell I.ok.kind hk hc hcell fin) hd
    · exact wpAny_Name (wpAny_loadName_free I.ok.kind hk hc hcell fin hcd) hd
theorem pe_int {i j pos} : PE X (.Constant (.int i) j pos) (tC (.int i)) := fun _ _ _ H _ I h => wpAny_Constant_int ⟨.int i, H, I.tok _, ⟨_, rfl⟩, h⟩
theorem pe_bl {b j pos} : PE X (.Constant (.bool b) j pos) (tC (.bl b)) := fun _ _ _ H _ I h => Constant_bool ⟨.bl b, H, I, rfl, h⟩
theorem pe_non {j pos} : PE X (.Constant .none j pos) (tC .non) := fun _ _ _ H _ I h => Constant_none ⟨.non, H, I, rfl, h⟩
theorem pe_str {x j pos} : PE X (.Constant (.str x) j pos) (tC (.str x)) := fun _ _ _ H _ I h => Calls.Constant_str ⟨.str x, H, I.tok _, ⟨_, rfl⟩, h⟩

/-- a global name of the def -/
def Gl (X : Cx) (x : Str) : Prop := X.env.kindOf x = some .globalImplicit
theorem ld_glob {E : Value → Shared → Prop} {pins : List (Addr × Obj)} {s : Shared} {σ : St} {H : Hp} {x : Str} {u : Value} {pos : Pos} {Q : Value → Shared → Prop} (I : Inv X pins σ H s) (hg : Gl X x) (hm : X.mg x = some u) (h : Q u s)
    (hd : (x == ("__debug__" : Str)) = false := by decide) : wpAny (model X.prog X.w) X.A (eval (.Name x pos) X.env) Q E s :=
  Calls.Name_function_global I.ok.kind hg (Calls.loadGlobal_global (by rw [I.ok.glob]; exact I.mod.glob.keeps I.bk) hm h) hd
theorem ld_blt {E : Value → Shared → Prop} {pins : List (Addr × Obj)} {s : Shared} {σ : St} {H : Hp} {x : Str} {u : Value} {pos : Pos} {Q : Value → Shared → Prop} (I : Inv X pins σ H s) (hg : Gl X x) (hm : X.mg x = none) (hv : bootBuiltins x = some u) (h : Q u s)
    (hn : x ≠ "__name__" := by decide) (hd : (x == ("__debug__" : Str)) = false := by decide) : wpAny (model X.prog X.w) X.A (eval (.Name x pos) X.env) Q E s := by
  obtain ⟨mb, h1, h2⟩ := I.mod.blt
  exact Calls.Name_function_global I.ok.kind hg (Calls.loadGlobal_builtin (by rw [I.ok.glob]; exact I.mod.glob.keeps I.bk) hm (by rw [I.ok.blt]; exact h1.keeps I.bk) ((h2 x hn).trans hv) h) hd
/-- a module's constant, a class, a function, as a value -/
theorem pe_glob {x : Str} {v : V} {u : Value} {pos : Pos} (hg : Gl X x) (hm : X.mg x = some u) (r : RelV v u) (hd : (x == ("__debug__" : Str)) = false := by decide) : PE X (.Name x pos) (tC v) :=
  fun _ _ _ H _ I h => ld_glob I hg hm ⟨v, H, I, r, h⟩ hd
theorem pe_bltn {x : Str} {v : V} {u : Value} {pos : Pos} (hg : Gl X x) (hm : X.mg x = none) (hv : bootBuiltins x = some u) (r : RelV v u) (hn : x ≠ "__name__" := by decide) (hd : (x == ("__debug__" : Str)) = false := by decide) : PE X (.Name x pos) (tC v) :=
  fun _ _ _ H _ I h => ld_blt I hg hm hv ⟨v, H, I, r, h⟩ hn hd

/-! ### arithmetic -/
/-- two ints -/
def t2I (ta tb : TE) (k : Int → Int → Hp → Prop) : St → Hp → Prop := fun σ H => ta σ H fun x H1 => tb σ H1 fun y H2 => ∃ i j, x = .int i ∧ y = .int j ∧ k i j H2
def tAdd (ta tb : TE) : TE := fun σ H Q => t2I ta tb (fun i j H2 => Q (.int (i + j)) H2) σ H
def tSub (ta tb : TE) : TE := fun σ H Q => t2I ta tb (fun i j H2 => Q (.int (i - j)) H2) σ H
/-- the left factor below 2^64 -/
def tMul (ta tb : TE) : TE := fun σ H Q => t2I ta tb (fun i j H2 => (-(2 ^ 64) < i ∧ i < 2 ^ 64) ∧ Q (.int (i * j)) H2) σ H
variable {a b : Expr} {ta tb : TE} {pos : Pos}
theorem pe_add (ha : PE X a ta) (hb : PE X b tb) : PE X (.BinOp a .Add b pos) (tAdd ta tb) := by
  intro pins s σ H Q I h
  refine wpAny_BinOp (bin ha hb I h fun v u s2 x y H2 I2 rx ry q => ?_)
  obtain ⟨i, j, rfl, rfl, q⟩ := q
  obtain ⟨t, rfl⟩ := rx
  obtain ⟨t', rfl⟩ := ry
  exact add_int ⟨.int _, H2, I2.tok _, ⟨_, rfl⟩, q⟩
theorem pe_sub (ha : PE X a ta) (hb : PE X b tb) : PE X (.BinOp a .Sub b pos) (tSub ta tb) := by
  intro pins s σ H Q I h
  refine wpAny_BinOp (bin ha hb I h fun v u s2 x y H2 I2 rx ry q => ?_)
  obtain ⟨i, j, rfl, rfl, q⟩ := q
  obtain ⟨t, rfl⟩ := rx
  obtain ⟨t', rfl⟩ := ry
  exact sub_int ⟨.int _, H2, I2.tok _, ⟨_, rfl⟩, q⟩
theorem pe_mul (ha : PE X a ta) (hb : PE X b tb) : PE X (.BinOp a .Mult b pos) (tMul ta tb) := by
  intro pins s σ H Q I h
  refine wpAny_BinOp (bin ha hb I h fun v u s2 x y H2 I2 rx ry q => ?_)
  obtain ⟨i, j, rfl, rfl, ⟨q1, q2⟩, q⟩ := q
  obtain ⟨t, rfl⟩ := rx
  obtain ⟨t', rfl⟩ := ry
  exact mul_int ⟨.int _, H2, I2.tok _, ⟨_, rfl⟩, q⟩ (.of_left (intBits_le_64 q1 q2))

/-! ### comparisons -/
def PC (X : Cx) (op : CmpOp) (a b : Expr) (t : TE) : Prop :=
  ∀ (pins : List (Addr × Obj)) (s : Shared) (σ : St) (H : Hp) (Q : VK), Inv X pins σ H s → t σ H Q →
    wpAny (model X.prog X.w) X.A (eval a X.env) (fun v s₁ => wpAny (model X.prog X.w) X.A (eval b X.env) (fun u s₂ => wpAny (model X.prog X.w) X.A (compareOp op v u) (EP X pins σ Q) X.xe s₂) X.xe s₁) X.xe s
theorem nobehind (b : Expr) {op : CmpOp} (h : op ≠ .In) (h2 : op ≠ .NotIn) : behindInMarks op b = false := by
  have e1 : (op == CmpOp.In) = false := by cases op <;> first | rfl | exact absurd rfl h
  have e2 : (op == CmpOp.NotIn) = false := by cases op <;> first | rfl | exact absurd rfl h2
  cases b <;> simp [behindInMarks, e1, e2]
def tCmp (p : Int → Int → Bool) (ta tb : TE) : TE := fun σ H Q => t2I ta tb (fun i j H2 => Q (.bl (p i j)) H2) σ H
abbrev tLt : TE → TE → TE := tCmp fun i j => decide (i < j)
abbrev tLe : TE → TE → TE := tCmp fun i j => decide (i ≤ j)
abbrev tGt : TE → TE → TE := tCmp fun i j => decide (j < i)
abbrev tGe : TE → TE → TE := tCmp fun i j => decide (j ≤ i)
abbrev tEqI : TE → TE → TE := tCmp fun i j => decide (i = j)
abbrev tNeI : TE → TE → TE := tCmp fun i j => !decide (i = j)
/-- a comparison of two ints, by its rule -/
theorem pc_int {op : CmpOp} {p : Int → Int → Bool} (ha : PE X a ta) (hb : PE X b tb)
    (rule : ∀ (i j : Int) (t u : Tok) (Q : Value → Shared → Prop) (s : Shared), Q (.bool (p i j)) s → wpAny (model X.prog X.w) X.A (compareOp op (.int i t) (.int j u)) Q X.xe s) : PC X op a b (tCmp p ta tb) := by
  intro pins s σ H Q I h
  refine bin ha hb I h fun v u s2 x y H2 I2 rx ry q => ?_
  obtain ⟨i, j, rfl, rfl, q⟩ := q
  obtain ⟨t, rfl⟩ := rx
  obtain ⟨t', rfl⟩ := ry
  exact rule i j t t' _ s2 ⟨.bl _, H2, I2, rfl, q⟩
theorem pc_lt (ha : PE X a ta) (hb : PE X b tb) : PC X .Lt a b (tLt ta tb) := pc_int ha hb fun _ _ _ _ _ _ h => lt_int h
theorem pc_le (ha : PE X a ta) (hb : PE X b tb) : PC X .LtE a b (tLe ta tb) := pc_int ha hb fun _ _ _ _ _ _ h => le_int h
theorem pc_gt (ha : PE X a ta) (hb : PE X b tb) : PC X .Gt a b (tGt ta tb) := pc_int ha hb fun _ _ _ _ _ _ h => gt_int h
theorem pc_ge (ha : PE X a ta) (hb : PE X b tb) : PC X .GtE a b (tGe ta tb) := pc_int ha hb fun _ _ _ _ _ _ h => ge_int h
theorem pc_eqI (ha : PE X a ta) (hb : PE X b tb) : PC X .Eq a b (tEqI ta tb) := pc_int ha hb fun _ _ _ _ _ _ h => eq_int (by rw [Bool.beq_eq_decide_eq]; exact h)
theorem pc_neI (ha : PE X a ta) (hb : PE X b tb) : PC X .NotEq a b (tNeI ta tb) := pc_int ha hb fun _ _ _ _ _ _ h => ne_int (by rw [bne, Bool.beq_eq_decide_eq]; exact h)
/-- is None -/
def tIsN (ta : TE) : TE := fun σ H Q => ta σ H fun x H1 => Q (.bl (decide (x = .non))) H1
def tNotN (ta : TE) : TE := fun σ H Q => ta σ H fun x H1 => Q (.bl (!decide (x = .non))) H1
theorem RelV.none_iff {x : V} {v : Value} (r : RelV x v) : (v == Value.none) = decide (x = .non) := by
  cases x with
  | non => cases r; rfl
  | bl _ => cases r; rfl
  | int _ => obtain ⟨t, rfl⟩ := r; rfl
  | str _ => obtain ⟨t, rfl⟩ := r; rfl
  | byt _ => obtain ⟨t, rfl⟩ := r; rfl
  | flt _ => obtain ⟨t, rfl⟩ := r; rfl
  | ref _ => cases r; rfl
  | ty _ => cases r; rfl
theorem pc_isN {j pos'} (ha : PE X a ta) : PC X .Is a (.Constant .none j pos') (tIsN ta) := by
  intro pins s σ H Q I h
  refine thn (ha pins s σ H _ I h) fun v s1 ⟨x, H1, I1, r1, q1⟩ => ?_
  exact Constant_none (is_none_gen ⟨.bl _, H1, I1, by rw [r1.none_iff]; rfl, q1⟩)
theorem pc_notN {j pos'} (ha : PE X a ta) : PC X .IsNot a (.Constant .none j pos') (tNotN ta) := by
  intro pins s σ H Q I h
  refine thn (ha pins s σ H _ I h) fun v s1 ⟨x, H1, I1, r1, q1⟩ => ?_
  exact Constant_none (isnot_none_gen ⟨.bl _, H1, I1, by rw [r1.none_iff]; rfl, q1⟩)
/-- a comparison as a value, as a test -/
def tB (t : TE) : TT := fun σ H Q => t σ H fun x H1 => ∃ c, x = .bl c ∧ Q c H1
theorem pe_cmp {op : CmpOp} {t : TE} (h : PC X op a b t) (h1 : behindInMarks op b = false := by first | exact nobehind _ (by decide) (by decide) | rfl) : PE X (.Compare a [op] [b] pos) t := fun pins s σ H Q I hw => wpAny_Compare1 (h pins s σ H Q I hw) h1
theorem pt_cmp {op : CmpOp} {t : TE} (h : PC X op a b t) (h1 : behindInMarks op b = false := by first | exact nobehind _ (by decide) (by decide) | rfl) : PT X (.Compare a [op] [b] pos) (tB t) := by
  intro pins s σ H Q I hw
  refine wpAny_isTrue_Compare1 (thn (h pins s σ H _ I hw) fun v s1 h1 => thn h1 fun u s2 h2 => thn h2 fun c s3 ⟨x, H1, I1, r1, q1⟩ => ?_) h1
  obtain ⟨d, rfl, q⟩ := q1
  cases r1
  exact wpAny_truthy_bool ⟨H1, I1, q⟩
/-- an expression whose value is a bool, as a test -/
theorem pt_val {e : Expr} {t : TE} (h : PE X e t) (he : ∀ whole, isTrue e X.env whole = (do let v ← whole; standAt e.pos; holding [v] (truthy v)) := by intro _; rfl) : PT X e (tB t) := by
  intro pins s σ H Q I hw
  refine isTrue_plain (thn (h pins s σ H _ I hw) fun v s1 ⟨x, H1, I1, r1, q1⟩ => ?_) (he _)
  obtain ⟨d, rfl, q⟩ := q1
  cases r1
  exact wpAny_truthy_bool ⟨H1, I1, q⟩

/-! ### and, or, not -/
variable {tA tB' : TT} {rest : List Expr}
def tAnd (t u : TT) : TT := fun σ H Q => t σ H fun c H1 => if c = true then u σ H1 Q else Q false H1
def tOr (t u : TT) : TT := fun σ H Q => t σ H fun c H1 => if c = true then Q true H1 else u σ H1 Q
def tNot (t : TT) : TT := fun σ H Q => t σ H fun c H1 => Q (!c) H1
theorem pw_and1 (ha : PT X a tA) : PW X (.BoolOp .And [a] pos) tA := by
  intro wh pins s σ H Q I h
  refine isTrue_and (thn (ha pins s σ H Q I h) fun c s1 e => ?_)
  cases c with
  | true => exact isTrue_and_nil e
  | false => exact e
theorem pw_or1 (ha : PT X a tA) : PW X (.BoolOp .Or [a] pos) tA := by
  intro wh pins s σ H Q I h
  refine isTrue_or (thn (ha pins s σ H Q I h) fun c s1 e => ?_)
  cases c with
  | false => exact isTrue_or_nil e
  | true => exact e
theorem pw_and (ha : PT X a tA) (hb : PW X (.BoolOp .And (b :: rest) pos) tB') : PW X (.BoolOp .And (a :: b :: rest) pos) (tAnd tA tB') := by
  intro wh pins s σ H Q I h
  refine isTrue_and (thn (ha pins s σ H _ I h) fun c s1 ⟨H1, I1, q1⟩ => ?_)
  cases c with
  | true => exact hb wh pins s1 σ H1 Q I1 q1
  | false => exact ⟨H1, I1, q1⟩
theorem pw_or (ha : PT X a tA) (hb : PW X (.BoolOp .Or (b :: rest) pos) tB') : PW X (.BoolOp .Or (a :: b :: rest) pos) (tOr tA tB') := by
  intro wh pins s σ H Q I h
  refine isTrue_or (thn (ha pins s σ H _ I h) fun c s1 ⟨H1, I1, q1⟩ => ?_)
  cases c with
  | true => exact ⟨H1, I1, q1⟩
  | false => exact hb wh pins s1 σ H1 Q I1 q1
theorem pt_not (ha : PT X a tA) : PT X (.UnaryOp .Not a pos) (tNot tA) := by
  intro pins s σ H Q I h
  exact isTrue_not (ha pins s σ H (fun c H1 => Q (!c) H1) I h)
/-- .. as values (bools) -/
def tAndV (ta tb : TE) : TE := fun σ H Q => ta σ H fun x H1 => ∃ c, x = .bl c ∧ if c = true then tb σ H1 Q else Q (.bl false) H1
def tOrV (ta tb : TE) : TE := fun σ H Q => ta σ H fun x H1 => ∃ c, x = .bl c ∧ if c = true then Q (.bl true) H1 else tb σ H1 Q
def tNotV (ta : TE) : TE := fun σ H Q => ta σ H fun x H1 => ∃ c, x = .bl c ∧ Q (.bl (!c)) H1
theorem pe_one {op} {t : TE} (h : PE X a t) : PE X (.BoolOp op [a] pos) t := fun pins s σ H Q I hw => BoolOp_one (h pins s σ H Q I hw)
theorem pe_and (ha : PE X a ta) (hb : PE X (.BoolOp .And (b :: rest) pos) tb) : PE X (.BoolOp .And (a :: b :: rest) pos) (tAndV ta tb) := by
  intro pins s σ H Q I h
  refine BoolOp_and (thn (ha pins s σ H _ I h) fun v s1 ⟨x, H1, I1, r1, q1⟩ => ?_)
  obtain ⟨c, rfl, q1⟩ := q1
  cases r1
  refine wpAny_truthy_bool ?_
  cases c with
  | true => exact hb pins s1 σ H1 Q I1 q1
  | false => exact ⟨.bl false, H1, I1, rfl, q1⟩
theorem pe_or (ha : PE X a ta) (hb : PE X (.BoolOp .Or (b :: rest) pos) tb) : PE X (.BoolOp .Or (a :: b :: rest) pos) (tOrV ta tb) := by
  intro pins s σ H Q I h
  refine BoolOp_or (thn (ha pins s σ H _ I h) fun v s1 ⟨x, H1, I1, r1, q1⟩ => ?_)
  obtain ⟨c, rfl, q1⟩ := q1
  cases r1
  refine wpAny_truthy_bool ?_
  cases c with
  | false => exact hb pins s1 σ H1 Q I1 q1
  | true => exact ⟨.bl true, H1, I1, rfl, q1⟩
theorem pe_not (ha : PE X a ta) : PE X (.UnaryOp .Not a pos) (tNotV ta) := by
  intro pins s σ H Q I h
  refine UnaryOp_ (thn (ha pins s σ H _ I h) fun v s1 ⟨x, H1, I1, r1, q1⟩ => ?_)
  obtain ⟨c, rfl, q1⟩ := q1
  cases r1
  exact not_of (wpAny_truthy_bool ⟨.bl (!c), H1, I1, rfl, q1⟩)
/-- a if t else b -/
def tIf (t : TT) (ta tb : TE) : TE := fun σ H Q => t σ H fun c H1 => if c = true then ta σ H1 Q else tb σ H1 Q
theorem pe_ifExp {c : Expr} (hc : PT X c tA) (ha : PE X a ta) (hb : PE X b tb) : PE X (.IfExp c a b pos) (tIf tA ta tb) := by
  intro pins s σ H Q I h
  refine wpAny_IfExp (thn (hc pins s σ H _ I h) fun d s1 ⟨H1, I1, q1⟩ => ?_)
  cases d with
  | true => exact ha pins s1 σ H1 Q I1 q1
  | false => exact hb pins s1 σ H1 Q I1 q1
end
end L2

namespace L2
open PySem PySem.Spec PyProof.Rows

/-! ### a list, a tuple that is read: tracked, frozen, or an object of the module -/
def SqL (K : PySem.W.Frag) (H : Hp) (a : Addr) (xs : List V) : Prop :=
  Rd H a (.lst xs) ∨
    ∃ (o : Obj) (its : Array Value) (n : Nat), K.lookup a = some o ∧ o.cls = .type "list" ∧ o.dict = none ∧ o.data = .seq its n ∧ its.size ≤ sizeLine ∧ Vals xs its.toList
def SqT (K : PySem.W.Frag) (H : Hp) (a : Addr) (xs : List V) : Prop :=
  Rd H a (.tup xs) ∨
    ∃ (o : Obj) (its : Array Value) (n : Nat), K.lookup a = some o ∧ o.cls = .type "tuple" ∧ o.data = .seq its n ∧ its.size ≤ sizeLine ∧ Vals xs its.toList
def absV : Value → Option V
  | .none => some .non
  | .bool b => some (.bl b)
  | .int i _ => some (.int i)
  | .str x _ => some (.str x)
  | .bytes b _ => some (.byt b)
  | .float b _ => some (.flt b)
  | .ref a => some (.ref a)
  | .type n => some (.ty n)
  | _ => none
theorem RelV.abs {x : V} {u : Value} (r : RelV x u) : absV u = some x := by
  cases x with
  | non => cases r; rfl
  | bl _ => cases r; rfl
  | int _ => obtain ⟨t, rfl⟩ := r; rfl
  | str _ => obtain ⟨t, rfl⟩ := r; rfl
  | byt _ => obtain ⟨t, rfl⟩ := r; rfl
  | flt _ => obtain ⟨t, rfl⟩ := r; rfl
  | ref _ => cases r; rfl
  | ty _ => cases r; rfl
theorem RelV.inj {x y : V} {u : Value} (r : RelV x u) (q : RelV y u) : x = y := Option.some.inj (r.abs.symm.trans q.abs)
theorem Vals.inj : ∀ {xs ys : List V} {us : List Value}, Vals xs us → Vals ys us → xs = ys
  | _, _, _, .nil, .nil => rfl
  | _, _, _, .cons r t, .cons r' t' => by rw [r.inj r', Vals.inj t t']
section
variable {X : Cx} {pins : List (Addr × Obj)} {σ : St} {H : Hp} {s : Shared} {a : Addr} {xs ys : List V}
theorem SqL.of {K : PySem.W.Frag} (h : H a = some (.lst xs)) : SqL K H a xs := .inl (.inl h)
theorem SqT.of {K : PySem.W.Frag} (h : H a = some (.tup xs)) : SqT K H a xs := .inl (.inl h)
theorem Inv.list (I : Inv X pins σ H s) (h : SqL X.K H a xs) : ∃ its : List Value, Vals xs its ∧ PlainL s.heap a its.toArray ∧ xs.length ≤ sizeLine := by
  rcases h with h | ⟨o, its, n, hk, hc, hd, hs, hz, r⟩
  · obtain ⟨z, its, n, r, e⟩ := h.ok I.hok
    exact ⟨its, r, ⟨_, n, e, rfl, rfl, rfl⟩, z⟩
  · refine ⟨its.toList, r, ⟨o, n, I.kIn a o hk, hc, hd, by simpa using hs⟩, ?_⟩
    have e := r.length
    simp only [Array.length_toList] at e
    omega
theorem Inv.tuple (I : Inv X pins σ H s) (h : SqT X.K H a xs) : ∃ its : List Value, Vals xs its ∧ IsTup s.heap a its.toArray ∧ xs.length ≤ sizeLine := by
  rcases h with h | ⟨o, its, n, hk, hc, hs, hz, r⟩
  · obtain ⟨z, its, r, p⟩ := h.ok I.hok
    exact ⟨its, r, p, z⟩
  · refine ⟨its.toList, r, ⟨o, I.kIn a o hk, hc, n, by simpa using hs⟩, ?_⟩
    have e := r.length
    simp only [Array.length_toList] at e
    omega
theorem Inv.list_inj (I : Inv X pins σ H s) (h : SqL X.K H a xs) (h' : SqL X.K H a ys) : xs = ys := by
  obtain ⟨its, r, ⟨o, n, e, _, _, d⟩, _⟩ := I.list h
  obtain ⟨its', r', ⟨o', n', e', _, _, d'⟩, _⟩ := I.list h'
  rw [e] at e'; cases e'
  rw [d] at d'
  injection d' with d1 _
  have : its = its' := by simpa using congrArg Array.toList d1
  subst this
  exact r.inj r'
theorem Inv.tuple_inj (I : Inv X pins σ H s) (h : SqT X.K H a xs) (h' : SqT X.K H a ys) : xs = ys := by
  obtain ⟨its, r, ⟨o, e, _, n, d⟩, _⟩ := I.tuple h
  obtain ⟨its', r', ⟨o', e', _, n', d'⟩, _⟩ := I.tuple h'
  rw [e] at e'; cases e'
  rw [d] at d'
  injection d' with d1 _
  have : its = its' := by simpa using congrArg Array.toList d1
  subst this
  exact r.inj r'
end

/-! ### another wish about exceptions -/
abbrev Cx.wish (X : Cx) (E : Value → Shared → Prop) : Cx := { X with xe := E }
/-- no exception leaves -/
abbrev Cx.nox (X : Cx) : Cx := X.wish fun _ _ => False
theorem Cx.Ok.wish {X : Cx} (ok : X.Ok) (E : Value → Shared → Prop) : (X.wish E).Ok :=
  ⟨ok.mod, ok.kind, ok.glob, ok.blt, ok.above, ok.inj, ok.has, ok.cab, ok.hd, ok.frames, ok.stk, ok.exf, ok.bs, ok.bsz, ok.noex, ok.exfs, ok.funs, ok.frf⟩
theorem Cx.Ok.unwish {X : Cx} {E : Value → Shared → Prop} (ok : (X.wish E).Ok) : X.Ok :=
  ⟨ok.mod, ok.kind, ok.glob, ok.blt, ok.above, ok.inj, ok.has, ok.cab, ok.hd, ok.frames, ok.stk, ok.exf, ok.bs, ok.bsz, ok.noex, ok.exfs, ok.funs, ok.frf⟩
section
variable {X : Cx} {pins : List (Addr × Obj)} {σ : St} {H : Hp} {s : Shared} {E : Value → Shared → Prop}
theorem Inv.wish (I : Inv X pins σ H s) (E : Value → Shared → Prop) : Inv (X.wish E) pins σ H s := ⟨I.ok.wish E, I.os, I.bare, I.base, I.loc, I.cell, I.free, I.freeC, I.pin, I.hok, I.len⟩
theorem Inv.unwish (I : Inv (X.wish E) pins σ H s) : Inv X pins σ H s := ⟨I.ok.unwish, I.os, I.bare, I.base, I.loc, I.cell, I.free, I.freeC, I.pin, I.hok, I.len⟩
theorem SP.unwish {D : Ends} {f : Flow} {s' : Shared} (h : SP (X.wish E) pins D f s') : SP X pins D f s' := by
  cases f with
  | next => obtain ⟨σ', H', I, q⟩ := h; exact ⟨σ', H', I.unwish, q⟩
  | brk => obtain ⟨σ', H', I, q⟩ := h; exact ⟨σ', H', I.unwish, q⟩
  | cont => obtain ⟨σ', H', I, q⟩ := h; exact ⟨σ', H', I.unwish, q⟩
  | ret u => obtain ⟨v, σ', H', I, r, q⟩ := h; exact ⟨v, σ', H', I.unwish, r, q⟩
theorem PE.nox {e : Expr} {t : TE} (h : PE X.nox e t) : PE X e t := fun pins s σ H Q I hw =>
  wpAny_mono (h pins s σ H Q (I.wish _) hw) (fun _ _ ⟨v, H', I', r, q⟩ => ⟨v, H', I'.unwish, r, q⟩) fun _ _ z => False.elim z
theorem PT.nox {e : Expr} {t : TT} (h : PT X.nox e t) : PT X e t := fun pins s σ H Q I hw =>
  wpAny_mono (h pins s σ H Q (I.wish _) hw) (fun _ _ ⟨H', I', q⟩ => ⟨H', I'.unwish, q⟩) fun _ _ z => False.elim z
theorem PSs.nox {st : List Stmt} {t : TS} (h : PSs X.nox st t) : PSs X st t := fun pins s σ H D I hw =>
  wpAny_mono (h pins s σ H D (I.wish _) hw) (fun _ _ q => q.unwish) fun _ _ z => False.elim z
end

/-! ### blocks and small statements -/
section
variable {X : Cx} {st : Stmt} {rest : List Stmt} {t u : TS} {e : Expr} {te : TE} {pos : Pos}
def tNext : TS := fun D σ H => D.nx σ H
def tSeq (t u : TS) : TS := fun D σ H => t { D with nx := u D } σ H
theorem pss_nil : PSs X [] tNext := fun _ _ σ H _ I h => wpAny_execs_nil ⟨σ, H, I, h⟩
theorem pss_cons (h1 : PS X st t) (h2 : PSs X rest u) : PSs X (st :: rest) (tSeq t u) := by
  intro pins s σ H D I h
  refine wpAny_execs_cons (thn (h1 pins s σ H { D with nx := u D } I h) fun f s1 q => ?_)
  cases f with
  | next =>
    obtain ⟨σ', H', I', q⟩ := q
    exact h2 pins s1 σ' H' D I' q
  | ret v => exact q
  | brk => exact q
  | cont => exact q
theorem pss_one (h1 : PS X st t) : PSs X [st] t := by
  intro pins s σ H D I h
  refine wpAny_execs_cons (thn (h1 pins s σ H D I h) fun f s1 q => ?_)
  cases f with
  | next => exact wpAny_execs_nil q
  | ret v => exact q
  | brk => exact q
  | cont => exact q
def tBreak : TS := fun D σ H => D.bk σ H
def tCont : TS := fun D σ H => D.ct σ H
theorem ps_pass : PS X (.Pass pos) tNext := fun _ _ σ H _ I h => wpAny_Pass ⟨σ, H, I, h⟩
theorem ps_break : PS X (.Break pos) tBreak := fun _ _ σ H _ I h => wpAny_Break ⟨σ, H, I, h⟩
theorem ps_continue : PS X (.Continue pos) tCont := fun _ _ σ H _ I h => wpAny_Continue ⟨σ, H, I, h⟩
/-- in a def's body nothing is shown -/
theorem Inv.quiet {pins : List (Addr × Obj)} {σ : St} {H : Hp} {s : Shared} (I : Inv X pins σ H s) : interactive X.env = false := by simp [interactive, I.ok.kind]
/-- a docstring -/
theorem ps_doc {x j pos pos'} : PS X (.Expr (.Constant (.str x) j pos) pos') tNext := fun _ s σ H _ I h => wpAny_Expr (Calls.Constant_str (show SP X _ _ .next { s with toks := s.toks + 1 } from ⟨σ, H, I.tok _, h⟩)) I.quiet
/-- an expression whose value is dropped -/
def tDrop (te : TE) : TS := fun D σ H => te σ H fun _ H1 => D.nx σ H1
theorem ps_expr (he : PE X e te) (hs : swapsWith e none pos.line X.env = pure false := by rfl) : PS X (.Expr e pos) (tDrop te) := by
  intro pins s σ H D I h
  exact wpAny_Expr_any (thn (he pins s σ H _ I h) fun v s1 ⟨x, H1, I1, r1, q1⟩ => ⟨σ, H1, I1, q1⟩) I.quiet hs
def tRet (te : TE) : TS := fun D σ H => te σ H D.rt
theorem ps_ret (he : PE X e te) : PS X (.Return (some e) pos) (tRet te) := by
  intro pins s σ H D I h
  exact wpAny_Return_some (thn (he pins s σ H _ I h) fun v s1 ⟨x, H1, I1, r1, q1⟩ => ⟨x, σ, H1, I1, r1, q1⟩)
def tRetN : TS := fun D _ H => D.rt .non H
theorem ps_retN : PS X (.Return none pos) tRetN := fun _ _ σ H _ I h => wpAny_Return_none ⟨.non, σ, H, I, rfl, h⟩
def tIfS (c : TT) (t u : TS) : TS := fun D σ H => c σ H fun b H1 => if b = true then t D σ H1 else u D σ H1
theorem ps_if {c : Expr} {a b : List Stmt} {tc : TT} (hc : PT X c tc) (ha : PSs X a t) (hb : PSs X b u) : PS X (.If c a b pos) (tIfS tc t u) := by
  intro pins s σ H D I h
  refine wpAny_If (thn (hc pins s σ H _ I h) fun d s1 ⟨H1, I1, q1⟩ => ?_)
  cases d with
  | true => exact ha pins s1 σ H1 D I1 q1
  | false => exact hb pins s1 σ H1 D I1 q1
/-- code that the proof never comes to -/
def tNever : TS := fun _ _ _ => False
theorem ps_never : PS X st tNever := fun _ _ _ _ _ _ h => h.elim
theorem pss_never {sts : List Stmt} : PSs X sts tNever := fun _ _ _ _ _ _ h => h.elim
end

/-! ### targets -/
abbrev TG := V → St → Hp → (St → Hp → Prop) → Prop
abbrev TGs := List V → St → Hp → (St → Hp → Prop) → Prop
def PG (X : Cx) (target : Expr) (t : TG) : Prop :=
  ∀ (pins : List (Addr × Obj)) (s : Shared) (σ : St) (H : Hp) (v : V) (u : Value) (Q : St → Hp → Prop), Inv X pins σ H s → RelV v u → t v σ H Q →
    wpAny (model X.prog X.w) X.A (assign target X.env u) (fun _ s' => ∃ σ' H', Inv X pins σ' H' s' ∧ Q σ' H') X.xe s
/-- several targets, one after another -/
def PGs (X : Cx) (ts : List Expr) (t : TGs) : Prop :=
  ∀ (pins : List (Addr × Obj)) (s : Shared) (σ : St) (H : Hp) (vs : List V) (us : List Value) (Q : St → Hp → Prop), Inv X pins σ H s → Vals vs us → t vs σ H Q →
    wpAny (model X.prog X.w) X.A (assignInOrder ((assignEach ts X.env).map (·.2)) us) (fun _ s' => ∃ σ' H', Inv X pins σ' H' s' ∧ Q σ' H') X.xe s
/-- o[i] = v, by values -/
abbrev TSet := V → V → V → Hp → (Hp → Prop) → Prop
def PSet (X : Cx) (t : TSet) : Prop :=
  ∀ (pins : List (Addr × Obj)) (s : Shared) (σ : St) (H : Hp) (o i v : V) (ov iv u : Value) (Q : Hp → Prop), Inv X pins σ H s → RelV o ov → RelV i iv → RelV v u → t o i v H Q →
    wpAny (model X.prog X.w) X.A (setItem ov iv u) (fun _ s' => ∃ H', Inv X pins σ H' s' ∧ Q H') X.xe s
/-- a op= b, by values -/
abbrev TIp := V → V → Hp → VK → Prop
def PIp (X : Cx) (op : Operator) (t : TIp) : Prop :=
  ∀ (pins : List (Addr × Obj)) (s : Shared) (σ : St) (H : Hp) (x y : V) (v u : Value) (Q : VK), Inv X pins σ H s → RelV x v → RelV y u → t x y H Q →
    wpAny (model X.prog X.w) X.A (inplaceOp op v u) (EP X pins σ Q) X.xe s
section
variable {X : Cx} {pos : Pos}
def gName (i : Nat) : TG := fun v σ H Q => Q (σ.set i (some v)) H
theorem pg_name {i : Nat} {x : Str} (hN : X.N.Nodup) (hi : X.N[i]? = some x) (hx : Loc X.env.scope x) (hf : X.fn x = true ∨ X.env.scope.names.lookup x = some .local := by first | exact .inl rfl | exact .inr rfl | assumption) : PG X (.Name x pos) (gName i) := by
  intro pins s σ H v u Q I r h
  exact wpAny_assign_Name (store_ok I hN hi hx r (fun s' I' => ⟨_, H, I', h⟩) hf)
def gNil : TGs := fun vs σ H Q => vs = [] ∧ Q σ H
def gCons (t : TG) (u : TGs) : TGs := fun vs σ H Q => ∃ v r, vs = v :: r ∧ t v σ H fun σ' H' => u r σ' H' Q
theorem pgs_nil : PGs X [] gNil := by
  intro pins s σ H vs us Q I r h
  obtain ⟨e, h⟩ := h
  subst e
  cases r
  exact assignInOrder_nil ⟨σ, H, I, h⟩
theorem pgs_cons {e : Expr} {es : List Expr} {t : TG} {u : TGs} (h1 : PG X e t) (h2 : PGs X es u)
    (hs : (assignEach (e :: es) X.env).map (·.2) = assign e X.env :: (assignEach es X.env).map (·.2) := by rfl) : PGs X (e :: es) (gCons t u) := by
  intro pins s σ H vs us Q I r h
  obtain ⟨v, vr, e1, h⟩ := h
  subst e1
  cases r with
  | cons r rr =>
    rw [hs]
    refine assignInOrder_cons (thn (h1 pins s σ H _ _ _ I r h) fun _ s1 ⟨σ1, H1, I1, q1⟩ => ?_)
    exact h2 pins s1 σ1 H1 _ _ Q I1 rr q1
/-- (a, b, ..) = a tuple of that length -/
def gTup (K : PySem.W.Frag) (n : Nat) (t : TGs) : TG := fun v σ H Q => ∃ a xs, v = .ref a ∧ SqT K H a xs ∧ xs.length = n ∧ t xs σ H Q
theorem pg_tup {es : List Expr} {k : Nat} {t : TGs} {n : Nat} (hc : X.calm = true) (h : PGs X es t)
    (hn : (assignEach es X.env).length = n := by rfl) (hst : (assignEach es X.env).findIdx? (·.1) = none := by rfl) : PG X (.Tuple es k pos) (gTup X.K n t) := by
  intro pins s σ H v u Q I r hw
  obtain ⟨a, xs, e1, hq, hl, hw⟩ := hw
  subst e1
  cases r
  obtain ⟨its, rv, ht, hz⟩ := I.tuple hq
  refine assign_Tuple_tuple (I.ok.hd hc) ht (by simp [hn, ← hl, rv.length]) hst fun h' hx => ?_
  have I1 : Inv X pins σ H { s with heap := h' } := I.kept (t' := s.toks) fun b o e => hx b o (Nat.ne_of_lt (Heap.lt_size e)) e
  exact h pins _ σ H xs _ Q I1 (by simpa using rv) hw
/-- o[i] = .. -/
def gSub (to ti : TE) (t : TSet) : TG := fun v σ H Q => to σ H fun o H1 => ti σ H1 fun i H2 => t o i v H2 fun H3 => Q σ H3
theorem pg_sub {o i : Expr} {to ti : TE} {t : TSet} (ho : PE X o to) (hi : PE X i ti) (hs : PSet X t)
    (ha : ∀ v, assign (.Subscript o i pos) X.env v = (do
      let ov ← holding [v] (eval o X.env)
      let iv ← holding [v, ov] (eval i X.env)
      standAt pos
      holding [v, ov, iv] (setItem ov iv v)
      release [v, ov, iv] []) := by intro _; rfl) : PG X (.Subscript o i pos) (gSub to ti t) := by
  intro pins s σ H v u Q I r h
  rw [ha]
  refine wpAny_bind (wpAny_holding (thn (ho pins s σ H _ I h) fun ov s1 ⟨x, H1, I1, r1, q1⟩ => ?_))
  refine wpAny_bind (wpAny_holding (thn (hi pins s1 σ H1 _ I1 q1) fun iv s2 ⟨y, H2, I2, r2, q2⟩ => ?_))
  refine wpAny_bind (wpAny_standAt (wpAny_bind (wpAny_holding (thn (hs pins s2 σ H2 x y v ov iv u _ I2 r1 r2 r q2) fun _ s3 ⟨H3, I3, q3⟩ => ?_))))
  exact wpAny_release ⟨σ, H3, I3, q3⟩
/-- target = value -/
def tAsg (te : TE) (g : TG) : TS := fun D σ H => te σ H fun x H1 => g x σ H1 D.nx
theorem ps_asg {tg e : Expr} {te : TE} {g : TG} (he : PE X e te) (hg : PG X tg g) (hs : swapsWithSole [tg] e pos.line X.env = pure false := by rfl) (hw : swappedStores [tg] e X.env = pure none := by rfl)
    (h1 : (assignEach [tg] X.env).map (·.2) = [assign tg X.env] := by rfl) : PS X (.Assign [tg] e pos) (tAsg te g) := by
  intro pins s σ H D I h
  refine wpAny_Assign_stores (thn (he pins s σ H _ I h) fun v s1 ⟨x, H1, I1, r1, q1⟩ => ?_) hs hw
  rw [h1]
  exact thn (hg pins s1 σ H1 x v _ I1 r1 q1) fun _ s2 q => q
/-- name = value -/
theorem ps_set {i : Nat} {x : Str} {e : Expr} {te : TE} {pos' : Pos} (hN : X.N.Nodup) (hi : X.N[i]? = some x) (hx : Loc X.env.scope x) (he : PE X e te) (hs : swapsWith e (some (.Name x pos')) pos.line X.env = pure false := by rfl) (hf : X.fn x = true ∨ X.env.scope.names.lookup x = some .local := by first | exact .inl rfl | exact .inr rfl | assumption) :
    PS X (.Assign [.Name x pos'] e pos) (tAsg te (gName i)) := by
  intro pins s σ H D I h
  refine wpAny_Assign_Name (thn (he pins s σ H _ I h) fun v s1 ⟨y, H1, I1, r1, q1⟩ => ?_) hs
  exact store_ok I1 hN hi hx r1 (fun s2 I2 => ⟨_, H1, I2, q1⟩) hf
/-- a, b = x, y with plain local names: stored from the right; the pair itself is not tracked (the opening rows as in PyProof/Rows/TupAssign.lean:23) -/
def tPar (i j : Nat) (ta : TA) : TS := fun D σ H => ta σ H fun vs H1 => ∃ v w, vs = [v, w] ∧ D.nx ((σ.set i (some v)).set j (some w)) H1
theorem ps_par {i j : Nat} {x y : Str} {a b : Expr} {ta : TA} {px py pt : Pos} {kt k2 pt2} (hc : X.calm = true) (hN : X.N.Nodup) (hi : X.N[i]? = some x) (hj : X.N[j]? = some y) (hij : i ≠ j)
    (hx : X.env.scope.names.lookup x = some .local) (hy : X.env.scope.names.lookup y = some .local) (ha : PA X [a, b] ta)
    (hw : swappedStores [.Tuple [.Name x px, .Name y py] kt pt] (.Tuple [a, b] k2 pt2) X.env = pure (some [x, y]))
    (hs : swapsWithSole [.Tuple [.Name x px, .Name y py] kt pt] (.Tuple [a, b] k2 pt2) pos.line X.env = pure false := by rfl) :
    PS X (.Assign [.Tuple [.Name x px, .Name y py] kt pt] (.Tuple [a, b] k2 pt2) pos) (tPar i j ta) := by
  intro pins s σ H D I h
  rw [exec_Assign_arm]
  refine wpAny_bind (wpAny_standAt ?_)
  rw [hs]
  refine wpAny_bind (wpAny_pure ?_)
  rw [if_neg (by decide)]
  refine wpAny_bind (Tuple_ (thn (ha _ pins s σ H _ I h) fun us s1 ⟨vs, H1, I1, r1, q1⟩ => ?_))
  obtain ⟨v, w, e1, q1⟩ := q1
  subst e1
  obtain ⟨u1, u2, rfl, rv, rw'⟩ : ∃ u1 u2, us = [u1, u2] ∧ RelV v u1 ∧ RelV w u2 := by
    cases r1 with
    | cons p q =>
      cases q with
      | cons p' q' =>
        cases q'
        exact ⟨_, _, rfl, p, p'⟩
  refine wpAny_newObj_type ?_ (by show 2 ≤ sizeLine; decide)
  have I2 : Inv X pins σ H1 { s1 with heap := s1.heap.push { cls := .type "tuple", data := .seq [u1, u2].toArray } } := I1.kept (t' := s1.toks) fun b o e => Heap.get?_push_of_some _ e
  rw [hw]
  refine wpAny_bind (wpAny_pure ?_)
  show wpAny (model X.prog X.w) X.A (do rule "assign.swapped-stores"; let items ← unpackItems (.ref s1.heap.objs.size) 2 none; assignInOrder [fun v => bindName X.env y v, fun v => bindName X.env x v] items.reverse; pure Flow.next) _ _ _
  refine wpAny_bind (wpAny_rule (wpAny_bind (unpackItems_tuple (items := #[u1, u2]) (I.ok.hd hc) (IsTup.new s1.heap _) fun h' hx' => ?_)))
  have I3 := I2.kept (h' := h') (t' := s1.toks) fun b o e => hx' b o (Nat.ne_of_lt (Heap.lt_size e)) e
  show wpAny _ _ (assignInOrder [fun v => bindName X.env y v, fun v => bindName X.env x v] [u2, u1] >>= fun _ => pure Flow.next) _ _ _
  refine wpAny_bind (assignInOrder_cons (wpAny_bindName (store_ok I3 hN hj (.inl hy) rw' (fun s2 I4 => ?_) (.inr hy))))
  refine assignInOrder_cons (wpAny_bindName (store_ok I4 hN hi (.inl hx) rv (fun s3 I5 => assignInOrder_nil (wpAny_pure ?_)) (.inr hx)))
  rw [List.set_comm _ _ (Ne.symm hij)] at I5
  exact ⟨_, H1, I5, q1⟩
/-- name op= e -/
def tAug (i : Nat) (te : TE) (ti : TIp) : TS := fun D σ H => ∃ x, σ[i]? = some (some x) ∧ te σ H fun y H1 => ti x y H1 fun z H2 => D.nx (σ.set i (some z)) H2
theorem ps_aug {i : Nat} {x : Str} {e : Expr} {te : TE} {op : Operator} {ti : TIp} {pos' : Pos} (hN : X.N.Nodup) (hi : X.N[i]? = some x) (hx : Loc X.env.scope x) (he : PE X e te) (ho : PIp X op ti) (hf : X.fn x = true ∨ X.env.scope.names.lookup x = some .local := by first | exact .inl rfl | exact .inr rfl | assumption) :
    PS X (.AugAssign (.Name x pos') op e pos) (tAug i te ti) := by
  intro pins s σ H D I h
  obtain ⟨v, e1, h⟩ := h
  obtain ⟨m, hn, hl⟩ := I.loc
  have vis : Vis X.env.scope x := by rcases hx with k | k; exact .inl k; exact .inr (.inl k)
  obtain ⟨u, r, l⟩ := hl i x v hi e1 vis
  refine wpAny_AugAssign_Name ?_
  have go : wpAny (model X.prog X.w) X.A (eval e X.env) (fun w s₂ => wpAny (model X.prog X.w) X.A (inplaceOp op u w) (fun r s₃ => wpAny (model X.prog X.w) X.A (storeName X.env x r) (fun _ => SP X pins D .next) X.xe s₃) X.xe s₂) X.xe s := by
    refine thn (he pins s σ H _ I h) fun w s1 ⟨y, H1, I1, r1, q1⟩ => ?_
    refine thn (ho pins s1 σ H1 v y u w _ I1 r r1 q1) fun z s2 ⟨zv, H2, I2, r2, q2⟩ => ?_
    exact store_ok I2 hN hi hx r2 (fun s3 I3 => ⟨_, H2, I3, q2⟩) hf
  rcases l with ⟨hk, hm⟩ | ⟨hk, c, hc, hcell⟩
  · exact wpAny_loadName_local I.ok.kind hk hn hm go
  · rcases hk with hk | hk
    · exact wpAny_loadName_cell I.ok.kind hk hc hcell go
    · rcases hx with k | k
      · have : X.env.scope.names.lookup x = some .free := hk
        rw [k] at this; cases this
      · have : X.env.scope.names.lookup x = some .free := hk
        rw [k] at this; cases this
/-- o[i] op= e -/
def tAugS (to ti te : TE) (tget : V → V → Hp → VK → Prop) (tip : TIp) (tset : TSet) : TS := fun D σ H => to σ H fun o H1 => ti σ H1 fun i H2 => tget o i H2 fun x H3 => te σ H3 fun y H4 => tip x y H4 fun z H5 => tset o i z H5 fun H6 => D.nx σ H6
/-- o[i], by values -/
def PGet (X : Cx) (t : V → V → Hp → VK → Prop) : Prop :=
  ∀ (pins : List (Addr × Obj)) (s : Shared) (σ : St) (H : Hp) (o i : V) (ov iv : Value) (Q : VK), Inv X pins σ H s → RelV o ov → RelV i iv → t o i H Q →
    wpAny (model X.prog X.w) X.A (getItem ov iv) (EP X pins σ Q) X.xe s
theorem ps_augS {o i e : Expr} {to ti te : TE} {tget : V → V → Hp → VK → Prop} {tip : TIp} {tset : TSet} {op : Operator} {tpos : Pos} (ho : PE X o to) (hi : PE X i ti) (hg : PGet X tget) (he : PE X e te) (hp : PIp X op tip) (hs : PSet X tset)
    (ha : ∀ ov iv new, augStore i ov iv new = (do holding [new, ov, iv] (setItem ov iv new); release [new, ov, iv] []; pure .next) := by intros; rfl) : PS X (.AugAssign (.Subscript o i tpos) op e pos) (tAugS to ti te tget tip tset) := by
  intro pins s σ H D I h
  refine wpAny_AugAssign_SubscriptAny (thn (ho pins s σ H _ I h) fun ov s1 ⟨x1, H1, I1, r1, q1⟩ => ?_) ha
  refine thn (hi pins s1 σ H1 _ I1 q1) fun iv s2 ⟨x2, H2, I2, r2, q2⟩ => ?_
  refine thn (hg pins s2 σ H2 x1 x2 ov iv _ I2 r1 r2 q2) fun old s3 ⟨x3, H3, I3, r3, q3⟩ => ?_
  refine thn (he pins s3 σ H3 _ I3 q3) fun v s4 ⟨x4, H4, I4, r4, q4⟩ => ?_
  refine thn (hp pins s4 σ H4 x3 x4 old v _ I4 r3 r4 q4) fun new s5 ⟨x5, H5, I5, r5, q5⟩ => ?_
  exact thn (hs pins s5 σ H5 x1 x2 x5 ov iv new _ I5 r1 r2 r5 q5) fun _ s6 ⟨H6, I6, q6⟩ => ⟨σ, H6, I6, q6⟩
/-- ints -/
def ipI (f : Int → Int → Int) : TIp := fun x y H Q => ∃ i j, x = .int i ∧ y = .int j ∧ Q (.int (f i j)) H
theorem ip_add : PIp X .Add (ipI fun i j => i + j) := by
  intro pins s σ H x y v u Q I r1 r2 h
  obtain ⟨i, j, e1, e2, q⟩ := h
  subst e1; subst e2
  obtain ⟨t, rfl⟩ := r1
  obtain ⟨t', rfl⟩ := r2
  exact iadd_int ⟨.int _, H, I.tok _, ⟨_, rfl⟩, q⟩
theorem ip_sub : PIp X .Sub (ipI fun i j => i - j) := by
  intro pins s σ H x y v u Q I r1 r2 h
  obtain ⟨i, j, e1, e2, q⟩ := h
  subst e1; subst e2
  obtain ⟨t, rfl⟩ := r1
  obtain ⟨t', rfl⟩ := r2
  exact isub_int ⟨.int _, H, I.tok _, ⟨_, rfl⟩, q⟩
end

/-! ### while -/
section
variable {X : Cx} {pos : Pos}
/-- the invariant W with its measure -/
def tWhile (c : TT) (tb : TS) : TS := fun D σ H => ∃ W : Nat → St → Hp → Prop, (∃ m, W m σ H) ∧ ∀ m σ H, W m σ H →
  c σ H fun b H1 => if b = true then ∃ N : St → Hp → Prop, (∀ σ' H', N σ' H' → ∃ m', m' < m ∧ W m' σ' H') ∧ tb { D with nx := N, ct := N, bk := D.nx } σ H1 else D.nx σ H1
theorem ps_while {c : Expr} {body : List Stmt} {tc : TT} {tb : TS} (hp : PassesOwn (model X.prog X.w) X.A X.env X.xe) (hc : PT X c tc) (hb : PSs X body tb) : PS X (.While c body [] pos) (tWhile tc tb) := by
  intro pins s σ H D I h
  obtain ⟨W, ⟨m0, w0⟩, turn⟩ := h
  refine wpAny_While (codeAny_whileLoop (fun n s' => ∃ σ' H', Inv X pins σ' H' s' ∧ W n σ' H') ?_ m0 ⟨σ, H, I, w0⟩)
  rintro n s1 ⟨σ1, H1, I1, w1⟩
  refine wpAny_passesOwn hp (thn (hc pins s1 σ1 H1 _ I1 (turn n σ1 H1 w1)) fun b s2 ⟨H2, I2, q2⟩ => ?_)
  cases b with
  | true =>
    obtain ⟨N, hN, q2⟩ := q2
    rw [if_pos rfl]
    refine wpAny_passesOwn hp (thn (hb pins s2 σ1 H2 _ I2 q2) fun f s3 q3 => ?_)
    cases f with
    | next =>
      obtain ⟨σ3, H3, I3, n3⟩ := q3
      obtain ⟨m', hm, w3⟩ := hN σ3 H3 n3
      exact ⟨m', hm, σ3, H3, I3, w3⟩
    | cont =>
      obtain ⟨σ3, H3, I3, n3⟩ := q3
      obtain ⟨m', hm, w3⟩ := hN σ3 H3 n3
      exact ⟨m', hm, σ3, H3, I3, w3⟩
    | brk => exact q3
    | ret v => exact q3
  | false =>
    rw [if_neg Bool.false_ne_true]
    exact wpAny_execs_nil ⟨σ1, H2, I2, q2⟩
end

/-! ### what a loop or a comprehension walks -/
/-- at turn i: it yields x (the heap may grow), or it stops -/
structure It where
  go : Nat → Hp → Prop
  yld : Nat → Hp → V → Hp → Prop
  stop : Nat → Hp → Prop
/-- the iterator's own objects may turn: they are not the frame's, not pinned, younger than the entry (or a comprehension's own) -/
def FpOk (X : Cx) (pins : List (Addr × Obj)) (H : Hp) (b : Addr) : Prop :=
  H b = none ∧ b ≠ X.env.locals ∧ b ∉ X.fs ∧ (b ∈ X.ex ∨ X.s₀.heap.objs.size ≤ b) ∧ (∀ x c, X.env.cells.lookup x = some c → c ≠ b) ∧ ∀ p ∈ X.pn ++ pins, p.1 ≠ b
theorem Inv.fpOk {X : Cx} {pins : List (Addr × Obj)} {σ : St} {H H' : Hp} {s : Shared} {b : Addr} (I : Inv X pins σ H s) (hb : s.heap.objs.size ≤ b) (hn : H' b = none) : FpOk X pins H' b := by
  refine ⟨hn, Nat.ne_of_gt (Nat.lt_of_lt_of_le I.lt hb), I.nofs hb, .inr (Nat.le_trans I.sz hb), fun x c e z => ?_, fun p hp z => ?_⟩
  · obtain ⟨v, q⟩ := I.cell x c e
    exact absurd (Nat.lt_of_lt_of_le q.lt (by rw [z]; exact hb)) (Nat.lt_irrefl _)
  · exact absurd (Nat.lt_of_lt_of_le (Heap.lt_size (I.pin p hp).1) (by rw [z]; exact hb)) (Nat.lt_irrefl _)
structure Turn (P : Program) (w : World) (K : PySem.W.Frag) (tg : Expr) (J : It) (fp : List Addr) (it : Addr) (tn : Nat → Heap → Prop) : Prop where
  mem : it ∈ fp
  obj : ∀ i h, tn i h → ∀ b ∈ fp, ∃ o, h.get? b = some o ∧ ∀ v, o.data ≠ .cell v
  keep : ∀ i h h', tn i h → (∀ b ∈ fp, ∀ o, h.get? b = some o → h'.get? b = some o) → tn i h'
  item : ∀ (X : Cx), X.prog = P → X.w = w → X.K = K → X.calm = true → ∀ (i : Nat) (pins : List (Addr × Obj)) (s : Shared) (σ : St) (H : Hp) (E : Value → Shared → Prop), Inv X pins σ H s → (∀ b ∈ fp, FpOk X pins H b) → tn i s.heap → J.go i H →
    wpAny (model P w) X.A (pyNext (.ref it)) (fun r s1 => ∃ u, r = some u ∧
      wpAny (model P w) X.A (letOwnedTupleGo tg (.ref it) u) (fun _ s2 => ∃ x H', Inv X pins σ H' s2 ∧ RelV x u ∧ J.yld i H x H' ∧ tn (i + 1) s2.heap ∧ ∀ b ∈ fp, H' b = none) E s1) E s
  done : ∀ (X : Cx), X.prog = P → X.w = w → X.K = K → X.calm = true → ∀ (i : Nat) (pins : List (Addr × Obj)) (s : Shared) (σ : St) (H : Hp) (E : Value → Shared → Prop), Inv X pins σ H s → (∀ b ∈ fp, FpOk X pins H b) → tn i s.heap → J.stop i H →
    wpAny (model P w) X.A (pyNext (.ref it)) (fun r s1 => r = none ∧ Inv X pins σ H s1) E s
  self : ∀ (A : Around) (i : Nat) (s : Shared) (Q : Value → Shared → Prop) (E : Value → Shared → Prop), tn i s.heap → Q (.ref it) s → wpAny (model P w) A (pyIter (.ref it)) Q E s
abbrev TI := St → Hp → (It → Hp → Prop) → Prop
/-- an iterator has come -/
def PIE (X : Cx) (pins : List (Addr × Obj)) (σ : St) (tg : Expr) (R : It → Hp → Prop) (itv : Value) (s2 : Shared) : Prop :=
  ∃ (it : Addr) (fp : List Addr) (tn : Nat → Heap → Prop) (J : It) (H' : Hp), itv = .ref it ∧ Inv X pins σ H' s2 ∧ Turn X.prog X.w X.K tg J fp it tn ∧ tn 0 s2.heap ∧ (∀ b ∈ fp, FpOk X pins H' b) ∧ R J H'
def PI (X : Cx) (tg iter : Expr) (wi : TI) : Prop :=
  ∀ (pins : List (Addr × Obj)) (s : Shared) (σ : St) (H : Hp) (R : It → Hp → Prop), Inv X pins σ H s → wi σ H R →
    wpAny (model X.prog X.w) X.A (eval iter X.env) (fun v s1 => wpAny (model X.prog X.w) X.A (pyIter v) (PIE X pins σ tg R) X.xe s1) X.xe s

/-- the step ahead of the store is nothing for an iterator that keeps no tuple -/
theorem go_of {M : Model} {A : Around} {E : Value → Shared → Prop} {s : Shared} {tg : Expr} {it : Addr} {u : Value} {o : Obj} {n : String} {vs : Array Value} {Q : Unit → Shared → Prop} (ho : s.heap.get? it = some o) (hc : o.cls = .type n) (hd : o.data = .fields vs)
    (hn : ["enumerate", "zip", "dict_itemiterator", "dict_reverseitemiterator", "odict_iterator", "itertools.zip_longest", "itertools.pairwise"].contains n = false) (hQ : Q () s) : wpAny M A (letOwnedTupleGo tg (.ref it) u) Q E s := by
  unfold letOwnedTupleGo
  cases tg <;> first
    | exact wpAny_pure hQ
    | (cases u <;> first
        | exact wpAny_pure hQ
        | (refine wpAny_bind (wpAny_load ho ?_)
           rw [hc, hd]
           show wpAny M A (if (["enumerate", "zip", "dict_itemiterator", "dict_reverseitemiterator", "odict_iterator", "itertools.zip_longest", "itertools.pairwise"].contains n && vs[0]? == some (rawInt _)) = true then _ else _) Q E s
           rw [if_neg (by intro h; rw [hn, Bool.false_and] at h; cases h)]
           exact wpAny_pure hQ))

/-- the list at a, as it stands at each turn (a loop may append to it) -/
def Itl (K : PySem.W.Frag) (a : Addr) : It :=
  ⟨fun i H => ∃ xs x, SqL K H a xs ∧ xs[i]? = some x, fun i H x H' => H' = H ∧ ∀ xs, SqL K H a xs → xs[i]? = some x, fun i H => ∃ xs, SqL K H a xs ∧ xs.length ≤ i⟩
def Itt (K : PySem.W.Frag) (a : Addr) : It :=
  ⟨fun i H => ∃ xs x, SqT K H a xs ∧ xs[i]? = some x, fun i H x H' => H' = H ∧ ∀ xs, SqT K H a xs → xs[i]? = some x, fun i H => ∃ xs, SqT K H a xs ∧ xs.length ≤ i⟩
/-- lo, lo + 1, .. (n of them) -/
def Itr (lo : Int) (n : Nat) : It := ⟨fun i _ => i < n, fun i H x H' => H' = H ∧ x = .int (lo + i), fun i _ => n ≤ i⟩
theorem turn_list {P : Program} {w : World} {K : PySem.W.Frag} {tg : Expr} (a it : Addr) : Turn P w K tg (Itl K a) [it] it (fun i h => h.IsListIter it a i) where
  mem := by simp
  obj := fun i h st b hb => by
    have e : b = it := by simpa using hb
    subst e
    obtain ⟨o, e, c, d⟩ := st
    exact ⟨o, e, fun v z => by rw [d] at z; cases z⟩
  keep := fun i h h' st k => st.at fun o e => k it (by simp) o e
  item := by
    intro X hP hw hK hc i pins s σ H E I hf st hg
    subst hP hw hK
    obtain ⟨xs, x, hq, hx⟩ := hg
    obtain ⟨its, rv, p, hz⟩ := I.list hq
    obtain ⟨u, hu, ru⟩ := rv.get hx
    obtain ⟨f0, f1, f2, f3, f4, f5⟩ := hf it (by simp)
    refine wpAny_pyNext_list_item st p.isList (x := u) (by simpa using hu) fun h' st' sb => ?_
    have I1 : Inv X pins σ H { s with heap := h' } := I.turned (t' := s.toks) (fun b o hb e => (sb.2 b hb).trans e) f0 f1 f3 f4 f5
    obtain ⟨o, e, c, d⟩ := id st'
    exact ⟨u, rfl, go_of (s := { s with heap := h' }) e c d (by decide) ⟨x, H, I1, ru, ⟨rfl, fun ys hy => by rw [I.list_inj hy hq]; exact hx⟩, st', fun b hb => (hf b hb).1⟩⟩
  done := by
    intro X hP hw hK hc i pins s σ H E I hf st hg
    subst hP hw hK
    obtain ⟨xs, hq, hx⟩ := hg
    obtain ⟨its, rv, p, hz⟩ := I.list hq
    obtain ⟨f0, f1, f2, f3, f4, f5⟩ := hf it (by simp)
    have hl := rv.length
    exact wpAny_pyNext_list_end (I.ok.hd hc) st p.isList (by simp; omega) fun h' eb => ⟨rfl, I.turned (t' := s.toks) (fun b o hb e => eb b o hb e) f0 f1 f3 f4 f5⟩
  self := fun _ _ _ _ _ st h => wpAny_pyIter_listiter st h
theorem turn_tuple {P : Program} {w : World} {K : PySem.W.Frag} {tg : Expr} (a it : Addr) : Turn P w K tg (Itt K a) [it] it (fun i h => h.IsTupleIter it a i) where
  mem := by simp
  obj := fun i h st b hb => by
    have e : b = it := by simpa using hb
    subst e
    obtain ⟨o, e, c, d⟩ := st
    exact ⟨o, e, fun v z => by rw [d] at z; cases z⟩
  keep := fun i h h' st k => st.at fun o e => k it (by simp) o e
  item := by
    intro X hP hw hK hc i pins s σ H E I hf st hg
    subst hP hw hK
    obtain ⟨xs, x, hq, hx⟩ := hg
    obtain ⟨its, rv, p, hz⟩ := I.tuple hq
    obtain ⟨u, hu, ru⟩ := rv.get hx
    obtain ⟨f0, f1, f2, f3, f4, f5⟩ := hf it (by simp)
    refine wpAny_pyNext_tuple_item st (show s.heap.IsTuple a its.toArray from p) (x := u) (by simpa using hu) fun h' st' sb => ?_
    have I1 : Inv X pins σ H { s with heap := h' } := I.turned (t' := s.toks) (fun b o hb e => (sb.2 b hb).trans e) f0 f1 f3 f4 f5
    obtain ⟨o, e, c, d⟩ := id st'
    exact ⟨u, rfl, go_of (s := { s with heap := h' }) e c d (by decide) ⟨x, H, I1, ru, ⟨rfl, fun ys hy => by rw [I.tuple_inj hy hq]; exact hx⟩, st', fun b hb => (hf b hb).1⟩⟩
  done := by
    intro X hP hw hK hc i pins s σ H E I hf st hg
    subst hP hw hK
    obtain ⟨xs, hq, hx⟩ := hg
    obtain ⟨its, rv, p, hz⟩ := I.tuple hq
    obtain ⟨f0, f1, f2, f3, f4, f5⟩ := hf it (by simp)
    have hl := rv.length
    exact wpAny_pyNext_tuple_end (I.ok.hd hc) st (show s.heap.IsTuple a its.toArray from p) (by simp; omega) fun h' eb => ⟨rfl, I.turned (t' := s.toks) (fun b o hb e => eb b o hb e) f0 f1 f3 f4 f5⟩
  self := fun _ _ _ _ _ st h => wpAny_pyIter_tupleiter st h
theorem turn_range {P : Program} {w : World} {K : PySem.W.Frag} {tg : Expr} (it : Addr) (lo : Int) (n : Nat) : Turn P w K tg (Itr lo n) [it] it (fun i h => IsRangeIter h it (lo + (i : Nat) * 1) ((n : Int) - (i : Nat)) 1) where
  mem := by simp
  obj := fun i h st b hb => by
    have e : b = it := by simpa using hb
    subst e
    exact ⟨_, st, fun v z => by
      have z' : Data.fields _ = Data.cell v := z
      cases z'⟩
  keep := fun i h h' st k => k it (by simp) _ st
  item := by
    intro X hP hw hK hc i pins s σ H E I hf st hg
    subst hP hw hK
    obtain ⟨f0, f1, f2, f3, f4, f5⟩ := hf it (by simp)
    have W := Walks.range (prog := X.prog) (w := X.w) (I.ok.hd hc) it lo 1 n
    refine W.item i s _ _ hg st fun v h' tk hv st' kk => ?_
    obtain ⟨t, rfl⟩ := hv
    have I1 : Inv X pins σ H { s with heap := h', toks := tk } := I.turned (fun b o hb e => kk b o (by simpa using hb) e) f0 f1 f3 f4 f5
    refine ⟨_, rfl, go_of (s := { s with heap := h', toks := tk }) (n := "range_iterator") st' rfl rfl (by decide) ⟨.int (lo + i), H, I1, ⟨t, ?_⟩, ⟨rfl, rfl⟩, st', fun b hb => (hf b hb).1⟩⟩
    rw [Int.mul_one]
  done := by
    intro X hP hw hK hc i pins s σ H E I hf st hg
    subst hP hw hK
    obtain ⟨f0, f1, f2, f3, f4, f5⟩ := hf it (by simp)
    exact wpAny_pyNext_range_end (I.ok.hd hc) st (by have : n ≤ i := hg; omega) fun h' eb => ⟨rfl, I.turned (t' := s.toks) (fun b o hb e => eb b o hb e) f0 f1 f3 f4 f5⟩
  self := fun _ _ _ _ _ st h => wpAny_pyIter_rangeiter st h
end L2

namespace L2
open PySem PySem.Spec PyProof.Rows
section
variable {X : Cx} {tg : Expr}
def iList (K : PySem.W.Frag) (tl : TE) : TI := fun σ H R => tl σ H fun x H1 => ∃ a, x = .ref a ∧ (∃ xs, SqL K H1 a xs) ∧ R (Itl K a) H1
def iTup (K : PySem.W.Frag) (tl : TE) : TI := fun σ H R => tl σ H fun x H1 => ∃ a, x = .ref a ∧ (∃ xs, SqT K H1 a xs) ∧ R (Itt K a) H1
theorem pi_list {l : Expr} {tl : TE} (hl : PE X l tl) : PI X tg l (iList X.K tl) := by
  intro pins s σ H R I h
  refine thn (hl pins s σ H _ I h) fun v s1 ⟨x, H1, I1, r1, q1⟩ => ?_
  obtain ⟨a, e, ⟨xs, hq⟩, q⟩ := q1
  subst e
  cases r1
  obtain ⟨its, rv, p, hz⟩ := I1.list hq
  refine wpAny_pyIter_list p.isList ?_
  refine ⟨s1.heap.objs.size, [s1.heap.objs.size], _, _, H1, rfl, I1.kept (t' := s1.toks) fun b o e => Heap.get?_push_of_some _ e, turn_list a _, ⟨_, Heap.get?_push_size _ rfl, rfl, rfl⟩, fun b hb => ?_, q⟩
  have e : b = s1.heap.objs.size := by simpa using hb
  subst e
  exact I1.fpOk (Nat.le_refl _) (I1.hok.fresh (Nat.le_refl _))
theorem pi_tup {l : Expr} {tl : TE} (hl : PE X l tl) : PI X tg l (iTup X.K tl) := by
  intro pins s σ H R I h
  refine thn (hl pins s σ H _ I h) fun v s1 ⟨x, H1, I1, r1, q1⟩ => ?_
  obtain ⟨a, e, ⟨xs, hq⟩, q⟩ := q1
  subst e
  cases r1
  obtain ⟨its, rv, p, hz⟩ := I1.tuple hq
  refine wpAny_pyIter_tuple (show s1.heap.IsTuple a its.toArray from p) ?_
  refine ⟨s1.heap.objs.size, [s1.heap.objs.size], _, _, H1, rfl, I1.kept (t' := s1.toks) fun b o e => Heap.get?_push_of_some _ e, turn_tuple a _, ⟨_, Heap.get?_push_size _ rfl, rfl, rfl⟩, fun b hb => ?_, q⟩
  have e : b = s1.heap.objs.size := by simpa using hb
  subst e
  exact I1.fpOk (Nat.le_refl _) (I1.hok.fresh (Nat.le_refl _))
/-- a range object just made, walked -/
theorem range_it {pins : List (Addr × Obj)} {σ : St} {H : Hp} {s : Shared} {R : It → Hp → Prop} {E : Value → Shared → Prop} {lo hi : Int} {t u v : Tok} {tk : Nat} (I : Inv X pins σ H s) (h1 : -(2 ^ 62) ≤ lo) (h2 : lo < 2 ^ 62) (h3 : -(2 ^ 62) ≤ hi) (h4 : hi < 2 ^ 62)
    (q : R (Itr lo (hi - lo).toNat) H) : wpAny (model X.prog X.w) X.A (pyIter (.ref s.heap.objs.size)) (PIE X pins σ tg R) E { s with heap := s.heap.push { cls := .type "range", data := .fields #[.int lo t, .int hi u, .int 1 v] }, toks := tk } := by
  refine wpAny_pyIter_range (IsRange.new ..) (small_one h1 h2 h3 h4) ?_
  have I1 : Inv X pins σ H { s with heap := s.heap.push { cls := .type "range", data := .fields #[.int lo t, .int hi u, .int 1 v] }, toks := tk } := I.kept fun b o e => Heap.get?_push_of_some _ e
  refine ⟨(s.heap.push { cls := .type "range", data := .fields #[.int lo t, .int hi u, .int 1 v] }).objs.size, [(s.heap.push { cls := .type "range", data := .fields #[.int lo t, .int hi u, .int 1 v] }).objs.size], _, _, H, rfl,
    I1.kept (t' := tk) fun b o e => Heap.get?_push_of_some _ e, turn_range _ lo (hi - lo).toNat, ?_, fun b hb => ?_, q⟩
  · have e1 : lo + ((0 : Nat) : Int) * 1 = lo := by simp
    have e2 : (((hi - lo).toNat : Nat) : Int) - ((0 : Nat) : Int) = Builtin.Range.rangeSize lo hi 1 := by rw [rangeSize_one]; split <;> omega
    show IsRangeIter _ _ (lo + ((0 : Nat) : Int) * 1) ((((hi - lo).toNat : Nat) : Int) - ((0 : Nat) : Int)) 1
    rw [e1, e2]
    exact Heap.get?_push_size _ rfl
  · have e : b = (s.heap.push { cls := .type "range", data := .fields #[.int lo t, .int hi u, .int 1 v] }).objs.size := by simpa using hb
    subst e
    exact I1.fpOk (Nat.le_refl _) (I1.hok.fresh (Nat.le_refl _))
def iRng1 (ta : TA) : TI := fun σ H R => ta σ H fun vs H1 => ∃ j : Int, vs = [.int j] ∧ -(2 ^ 62) ≤ j ∧ j < 2 ^ 62 ∧ R (Itr 0 j.toNat) H1
def iRng2 (ta : TA) : TI := fun σ H R => ta σ H fun vs H1 => ∃ i j : Int, vs = [.int i, .int j] ∧ (-(2 ^ 62) ≤ i ∧ i < 2 ^ 62 ∧ -(2 ^ 62) ≤ j ∧ j < 2 ^ 62) ∧ R (Itr i (j - i).toNat) H1
theorem pi_range1 {a : Expr} {ta : TA} {p pos : Pos} (hg : Gl X "range") (hm : X.mg "range" = none) (ha : PA X [a] ta) (hs : starEach [a] X.env = [(false, eval a X.env)] := by rfl) : PI X tg (.Call (.Name "range" p) [a] [] pos) (iRng1 ta) := by
  intro pins s σ H R I h
  refine Call_ (ld_blt I hg hm boot_range (PyProof.Rows.callWith_type1 (thn (ha pos pins s σ H _ I h) fun us s1 ⟨vs, H1, I1, r1, q1⟩ => ?_) hs rfl))
  obtain ⟨j, e, q1, q2, q⟩ := q1
  subst e
  cases r1 with
  | cons r rr =>
    cases rr
    obtain ⟨t, rfl⟩ := r
    exact call_range_1 (range_it I1 (by omega) (by omega) q1 q2 (by simpa using q))
theorem pi_range2 {a b : Expr} {ta : TA} {p pos : Pos} (hg : Gl X "range") (hm : X.mg "range" = none) (ha : PA X [a, b] ta) (hs : starEach [a, b] X.env = [(false, eval a X.env), (false, eval b X.env)] := by rfl) (hs2 : starEach [b] X.env = [(false, eval b X.env)] := by rfl) :
    PI X tg (.Call (.Name "range" p) [a, b] [] pos) (iRng2 ta) := by
  intro pins s σ H R I h
  refine Call_ (ld_blt I hg hm boot_range (PyProof.Rows.callWith_type1 (thn (ha pos pins s σ H _ I h) fun us s1 ⟨vs, H1, I1, r1, q1⟩ => ?_) (by rw [hs, hs2]) (by rw [hs2]; rfl)))
  obtain ⟨i, j, e, ⟨q1, q2, q3, q4⟩, q⟩ := q1
  subst e
  cases r1 with
  | cons r rr =>
    cases rr with
    | cons r' rr =>
      cases rr
      obtain ⟨t, rfl⟩ := r
      obtain ⟨t', rfl⟩ := r'
      exact call_range_2 (range_it I1 q1 q2 q3 q4 q)

/-! ### for -/
/-- W: the invariant by the turn and a measure; N: what the body is to reach -/
def tFor (wi : TI) (g : TG) (tb : TS) : TS := fun D σ H => wi σ H fun J H1 => ∃ W : Nat → Nat → St → Hp → Prop, (∃ m, W 0 m σ H1) ∧ ∀ i m σ H, W i m σ H →
  (J.stop i H ∧ D.nx σ H) ∨ (J.go i H ∧ ∃ N : St → Hp → Prop, (∀ σ' H', N σ' H' → ∃ m', m' < m ∧ W (i + 1) m' σ' H') ∧ ∀ x H', J.yld i H x H' → g x σ H' fun σ2 H2 => tb { D with nx := N, ct := N, bk := D.nx } σ2 H2)
/-- the records at fp as they stand -/
def pinsAt (fp : List Addr) (h : Heap) : List (Addr × Obj) := fp.filterMap fun b => (h.get? b).map fun o => (b, o)
theorem mem_pinsAt {fp : List Addr} {h : Heap} {b : Addr} {o : Obj} (hb : b ∈ fp) (e : h.get? b = some o) : (b, o) ∈ pinsAt fp h := List.mem_filterMap.mpr ⟨b, hb, by rw [e]; rfl⟩
theorem of_pinsAt {fp : List Addr} {h : Heap} {p : Addr × Obj} (hp : p ∈ pinsAt fp h) : p.1 ∈ fp ∧ h.get? p.1 = some p.2 := by
  obtain ⟨b, hb, e⟩ := List.mem_filterMap.mp hp
  cases q : h.get? b with
  | none => rw [q] at e; cases e
  | some o =>
    rw [q] at e
    have e' : (b, o) = p := Option.some.inj e
    subst e'
    exact ⟨hb, q⟩
theorem Inv.pinned {pins : List (Addr × Obj)} {σ : St} {H : Hp} {s : Shared} {fp : List Addr} (I : Inv X pins σ H s) (hf : ∀ b ∈ fp, FpOk X pins H b) (ho : ∀ b ∈ fp, ∃ o, s.heap.get? b = some o ∧ ∀ v, o.data ≠ .cell v) : Inv X (pins ++ pinsAt fp s.heap) σ H s :=
  I.pins_of fun p hp => (List.mem_append.mp hp).elim (fun z => I.pin p (List.mem_append_right _ z)) fun z => by
    obtain ⟨hb, e⟩ := of_pinsAt z
    obtain ⟨f0, f1, f2, _⟩ := hf p.1 hb
    obtain ⟨o, e', d⟩ := ho p.1 hb
    rw [e] at e'; cases e'
    exact ⟨e, f0, f1, f2, d⟩
theorem Inv.unpinned {pins pl : List (Addr × Obj)} {σ : St} {H : Hp} {s : Shared} (I : Inv X (pins ++ pl) σ H s) : Inv X pins σ H s := I.pins_of fun p hp => I.pin p (List.mem_append_right _ (List.mem_append_left _ hp))
theorem ps_for {iter : Expr} {body : List Stmt} {wi : TI} {g : TG} {tb : TS} {pos : Pos} (hp : PassesOwn (model X.prog X.w) X.A X.env X.xe) (hc : X.calm = true) (hi : PI X tg iter wi) (hg : PG X tg g) (hb : PSs X body tb)
    (hs : ∀ x, foldedSetIterable iter X.env x = pure x := by intro _; rfl) : PS X (.For tg iter body [] pos) (tFor wi g tb) := by
  intro pins s σ H D I h
  refine wpAny_For (thn (hi pins s σ H _ I h) fun v s1 h1 => thn h1 fun itv s2 h2 => ?_) hs
  obtain ⟨it, fp, tn, J, H2, e, I2, T, st2, f2, W, ⟨m0, w0⟩, turn⟩ := h2
  subst e
  -- what stays true of the iterator's objects through the loop
  have stat : ∀ {H' : Hp}, (∀ b ∈ fp, H' b = none) → ∀ b ∈ fp, FpOk X pins H' b := fun hn b hb => ⟨hn b hb, (f2 b hb).2⟩
  refine codeAny_forLoop_any (fun n s' => ∃ i σ' H', Inv X pins σ' H' s' ∧ tn i s'.heap ∧ (∀ b ∈ fp, H' b = none) ∧ W i n σ' H') ?_ m0 ⟨0, σ, H2, I2, st2, fun b hb => (f2 b hb).1, w0⟩
  rintro n s3 ⟨i, σ3, H3, I3, st3, fr3, w3⟩
  rcases turn i n σ3 H3 w3 with ⟨stop, qn⟩ | ⟨go, N, hN, step⟩
  · refine wpAny_passesOwn hp (thn (T.done X rfl rfl rfl hc i pins s3 σ3 H3 X.xe I3 (stat fr3) st3 stop) fun r s4 ⟨hr, I4⟩ => ?_)
    subst hr
    exact wpAny_execs_nil ⟨σ3, H3, I4, qn⟩
  · refine wpAny_passesOwn hp (thn (T.item X rfl rfl rfl hc i pins s3 σ3 H3 X.xe I3 (stat fr3) st3 go) fun r s4 ⟨u, hr, h4⟩ => ?_)
    subst hr
    refine wpAny_passesOwn hp (thn h4 fun _ s5 ⟨x, H5, I5, r5, y5, st5, fr5⟩ => ?_)
    have I5' := I5.pinned (stat fr5) (T.obj _ _ st5)
    refine wpAny_passesOwn hp (thn (hg _ s5 σ3 H5 x u _ I5' r5 (step x H5 y5)) fun _ s6 ⟨σ6, H6, I6, q6⟩ => ?_)
    refine wpAny_passesOwn hp (thn (hb _ s6 σ6 H6 _ I6 q6) fun f s7 q7 => ?_)
    have again : ∀ {σ7 : St} {H7 : Hp}, Inv X (pins ++ pinsAt fp s5.heap) σ7 H7 s7 → N σ7 H7 → ∃ m, m < n ∧ ∃ i σ' H', Inv X pins σ' H' s7 ∧ tn i s7.heap ∧ (∀ b ∈ fp, H' b = none) ∧ W i m σ' H' := fun {σ7 H7} I7 n7 => by
      obtain ⟨m', hm, w7⟩ := hN σ7 H7 n7
      refine ⟨m', hm, i + 1, σ7, H7, I7.unpinned, T.keep _ _ _ st5 fun b hb o e => (I7.pin (b, o) (List.mem_append_right _ (List.mem_append_right _ (mem_pinsAt hb e)))).1, fun b hb => ?_, w7⟩
      obtain ⟨o, e, d⟩ := T.obj _ _ st5 b hb
      exact (I7.pin (b, o) (List.mem_append_right _ (List.mem_append_right _ (mem_pinsAt hb e)))).2.1
    cases f with
    | next => obtain ⟨σ7, H7, I7, n7⟩ := q7; exact again I7 n7
    | cont => obtain ⟨σ7, H7, I7, n7⟩ := q7; exact again I7 n7
    | brk => obtain ⟨σ7, H7, I7, q7⟩ := q7; exact ⟨σ7, H7, I7.unpinned, q7⟩
    | ret v => obtain ⟨x7, σ7, H7, I7, r7, q7⟩ := q7; exact ⟨x7, σ7, H7, I7.unpinned, r7, q7⟩
end

/-! ### the forms one uses -/
/-- over a list that the body leaves as it is -/
theorem for_list {K : PySem.W.Frag} {a : Addr} {xs : List V} {g : TG} {tb : TS} {D : Ends} {σ : St} {H : Hp} (Pv : Nat → St → Hp → Prop) (h0 : Pv 0 σ H) (hl : ∀ i σ H, i ≤ xs.length → Pv i σ H → SqL K H a xs)
    (hs : ∀ i x σ H, xs[i]? = some x → Pv i σ H → g x σ H fun σ2 H2 => tb { D with nx := Pv (i + 1), ct := Pv (i + 1), bk := D.nx } σ2 H2) (hd : ∀ σ H, Pv xs.length σ H → D.nx σ H) :
    ∃ W : Nat → Nat → St → Hp → Prop, (∃ m, W 0 m σ H) ∧ ∀ i m σ H, W i m σ H →
      ((Itl K a).stop i H ∧ D.nx σ H) ∨ ((Itl K a).go i H ∧ ∃ N : St → Hp → Prop, (∀ σ' H', N σ' H' → ∃ m', m' < m ∧ W (i + 1) m' σ' H') ∧ ∀ x H', (Itl K a).yld i H x H' → g x σ H' fun σ2 H2 => tb { D with nx := N, ct := N, bk := D.nx } σ2 H2) := by
  refine ⟨fun i m σ H => m = xs.length - i ∧ i ≤ xs.length ∧ Pv i σ H, ⟨xs.length, by simp, Nat.zero_le _, h0⟩, ?_⟩
  rintro i m σ H ⟨rfl, hi, p⟩
  have q := hl i σ H hi p
  by_cases hlt : i < xs.length
  · refine .inr ⟨⟨xs, xs[i], q, by simp [hlt]⟩, Pv (i + 1), fun σ' H' p' => ⟨xs.length - (i + 1), by omega, rfl, hlt, p'⟩, fun x H' y => ?_⟩
    obtain ⟨e, y⟩ := y
    subst e
    exact hs i x σ _ (y xs q) p
  · have e : i = xs.length := by omega
    subst e
    exact .inl ⟨⟨xs, q, Nat.le_refl _⟩, hd σ H p⟩
theorem for_tup {K : PySem.W.Frag} {a : Addr} {xs : List V} {g : TG} {tb : TS} {D : Ends} {σ : St} {H : Hp} (Pv : Nat → St → Hp → Prop) (h0 : Pv 0 σ H) (hl : ∀ i σ H, i ≤ xs.length → Pv i σ H → SqT K H a xs)
    (hs : ∀ i x σ H, xs[i]? = some x → Pv i σ H → g x σ H fun σ2 H2 => tb { D with nx := Pv (i + 1), ct := Pv (i + 1), bk := D.nx } σ2 H2) (hd : ∀ σ H, Pv xs.length σ H → D.nx σ H) :
    ∃ W : Nat → Nat → St → Hp → Prop, (∃ m, W 0 m σ H) ∧ ∀ i m σ H, W i m σ H →
      ((Itt K a).stop i H ∧ D.nx σ H) ∨ ((Itt K a).go i H ∧ ∃ N : St → Hp → Prop, (∀ σ' H', N σ' H' → ∃ m', m' < m ∧ W (i + 1) m' σ' H') ∧ ∀ x H', (Itt K a).yld i H x H' → g x σ H' fun σ2 H2 => tb { D with nx := N, ct := N, bk := D.nx } σ2 H2) := by
  refine ⟨fun i m σ H => m = xs.length - i ∧ i ≤ xs.length ∧ Pv i σ H, ⟨xs.length, by simp, Nat.zero_le _, h0⟩, ?_⟩
  rintro i m σ H ⟨rfl, hi, p⟩
  have q := hl i σ H hi p
  by_cases hlt : i < xs.length
  · refine .inr ⟨⟨xs, xs[i], q, by simp [hlt]⟩, Pv (i + 1), fun σ' H' p' => ⟨xs.length - (i + 1), by omega, rfl, hlt, p'⟩, fun x H' y => ?_⟩
    obtain ⟨e, y⟩ := y
    subst e
    exact hs i x σ _ (y xs q) p
  · have e : i = xs.length := by omega
    subst e
    exact .inl ⟨⟨xs, q, Nat.le_refl _⟩, hd σ H p⟩
theorem for_range {lo : Int} {n : Nat} {g : TG} {tb : TS} {D : Ends} {σ : St} {H : Hp} (Pv : Nat → St → Hp → Prop) (h0 : Pv 0 σ H)
    (hs : ∀ i σ H, i < n → Pv i σ H → g (.int (lo + i)) σ H fun σ2 H2 => tb { D with nx := Pv (i + 1), ct := Pv (i + 1), bk := D.nx } σ2 H2) (hd : ∀ σ H, Pv n σ H → D.nx σ H) :
    ∃ W : Nat → Nat → St → Hp → Prop, (∃ m, W 0 m σ H) ∧ ∀ i m σ H, W i m σ H →
      ((Itr lo n).stop i H ∧ D.nx σ H) ∨ ((Itr lo n).go i H ∧ ∃ N : St → Hp → Prop, (∀ σ' H', N σ' H' → ∃ m', m' < m ∧ W (i + 1) m' σ' H') ∧ ∀ x H', (Itr lo n).yld i H x H' → g x σ H' fun σ2 H2 => tb { D with nx := N, ct := N, bk := D.nx } σ2 H2) := by
  refine ⟨fun i m σ H => m = n - i ∧ i ≤ n ∧ Pv i σ H, ⟨n, by simp, Nat.zero_le _, h0⟩, ?_⟩
  rintro i m σ H ⟨rfl, hi, p⟩
  by_cases hlt : i < n
  · refine .inr ⟨hlt, Pv (i + 1), fun σ' H' p' => ⟨n - (i + 1), by omega, rfl, hlt, p'⟩, fun x H' y => ?_⟩
    obtain ⟨e, y⟩ := y
    subst e y
    exact hs i σ _ hlt p
  · have e : i = n := by omega
    subst e
    exact .inl ⟨Nat.le_refl _, hd σ H p⟩
/-- while, by a word and a measure of the state -/
theorem while_by {c : TT} {tb : TS} {D : Ends} {σ : St} {H : Hp} (Pv : St → Hp → Prop) (μ : St → Hp → Nat) (h0 : Pv σ H)
    (hs : ∀ σ H, Pv σ H → c σ H fun b H1 => if b = true then tb { D with nx := fun σ' H' => Pv σ' H' ∧ μ σ' H' < μ σ H, ct := fun σ' H' => Pv σ' H' ∧ μ σ' H' < μ σ H, bk := D.nx } σ H1 else D.nx σ H1)
    (mono : ∀ σ H Q Q', (∀ b H1, Q b H1 → Q' b H1) → c σ H Q → c σ H Q') : tWhile c tb D σ H := by
  refine ⟨fun m σ H => m = μ σ H ∧ Pv σ H, ⟨_, rfl, h0⟩, ?_⟩
  rintro m σ H ⟨rfl, p⟩
  refine mono σ H _ _ (fun b H1 q => ?_) (hs σ H p)
  cases b with
  | true => exact ⟨_, fun σ' H' ⟨p', l⟩ => ⟨_, l, rfl, p'⟩, q⟩
  | false => exact q
end L2

namespace L2
open PySem PySem.Spec PyProof.Rows

abbrev R2 := V → V → Hp → VK → Prop
/-- a two-place operation on values: f is binaryOp op, inplaceOp op or compareOp op -/
def OpR (X : Cx) (f : Value → Value → Sem Value) (r : R2) : Prop :=
  ∀ (pins : List (Addr × Obj)) (s : Shared) (σ : St) (H : Hp) (x y : V) (v u : Value) (Q : VK), Inv X pins σ H s → RelV x v → RelV y u → r x y H Q →
    wpAny (model X.prog X.w) X.A (f v u) (EP X pins σ Q) X.xe s
/-- a one-place operation -/
def UnR (X : Cx) (f : Value → Sem Value) (r : V → Hp → VK → Prop) : Prop :=
  ∀ (pins : List (Addr × Obj)) (s : Shared) (σ : St) (H : Hp) (x : V) (v : Value) (Q : VK), Inv X pins σ H s → RelV x v → r x H Q →
    wpAny (model X.prog X.w) X.A (f v) (EP X pins σ Q) X.xe s
/-- a call of a value that is known (a builtin, a type) with values -/
def CallR (X : Cx) (f : Value) (r : List V → Hp → VK → Prop) : Prop :=
  ∀ (pins : List (Addr × Obj)) (s : Shared) (σ : St) (H : Hp) (xs : List V) (us : List Value) (Q : VK), Inv X pins σ H s → Vals xs us → r xs H Q →
    wpAny (model X.prog X.w) X.A (call f us) (EP X pins σ Q) X.xe s
/-- a value's truth -/
def TruR (X : Cx) (r : V → Hp → (Bool → Hp → Prop) → Prop) : Prop :=
  ∀ (pins : List (Addr × Obj)) (s : Shared) (σ : St) (H : Hp) (x : V) (v : Value) (Q : Bool → Hp → Prop), Inv X pins σ H s → RelV x v → r x H Q →
    wpAny (model X.prog X.w) X.A (truthy v) (TP X pins σ Q) X.xe s

def tOp (r : R2) (ta tb : TE) : TE := fun σ H Q => ta σ H fun x H1 => tb σ H1 fun y H2 => r x y H2 Q
def tUn (r : V → Hp → VK → Prop) (ta : TE) : TE := fun σ H Q => ta σ H fun x H1 => r x H1 Q
/-- ints in, under C, and a value out -/
def rI (C : Int → Int → Prop) (g : Int → Int → V) : R2 := fun x y H Q => ∃ i j, x = .int i ∧ y = .int j ∧ C i j ∧ Q (g i j) H
def rI0 (g : Int → Int → V) : R2 := fun x y H Q => ∃ i j, x = .int i ∧ y = .int j ∧ Q (g i j) H
def rU (g : Int → V) : V → Hp → VK → Prop := fun x H Q => ∃ i, x = .int i ∧ Q (g i) H

section
variable {X : Cx} {a b c : Expr} {ta tb tc : TE} {pos : Pos}

theorem binT (ha : PE X a ta) (hb : PE X b tb) {pins : List (Addr × Obj)} {s : Shared} {σ : St} {H : Hp} {R : V → V → Hp → Prop} (I : Inv X pins σ H s)
    (h : ta σ H fun x H1 => tb σ H1 fun y H2 => R x y H2) {Q : Value → Shared → Prop} {f : Value → Value → Sem Value}
    (hf : ∀ v u s2 x y H2, Inv X pins σ H2 s2 → RelV x v → RelV y u → R x y H2 → wpAny (model X.prog X.w) X.A (f v u) Q X.xe s2) :
    wpAny (model X.prog X.w) X.A (eval a X.env) (fun v s₁ => wpAny (model X.prog X.w) X.A (eval b X.env) (fun u s₂ => wpAny (model X.prog X.w) X.A (f v u) Q X.xe s₂) X.xe s₁) X.xe s := by
  refine thn (ha pins s σ H _ I h) fun v s1 ⟨x, H1, I1, r1, q1⟩ => ?_
  refine thn (hb pins s1 σ H1 _ I1 q1) fun u s2 ⟨y, H2, I2, r2, q2⟩ => ?_
  exact hf v u s2 x y H2 I2 r1 r2 q2

theorem pe_op {op : Operator} {r : R2} (ho : OpR X (binaryOp op) r) (ha : PE X a ta) (hb : PE X b tb) : PE X (.BinOp a op b pos) (tOp r ta tb) := by
  intro pins s σ H Q I h
  exact wpAny_BinOp (binT ha hb I h fun v u s2 x y H2 I2 rx ry q => ho pins s2 σ H2 x y v u Q I2 rx ry q)
theorem pe_un {op : UnaryOp} {r : V → Hp → VK → Prop} (ho : UnR X (unaryOp op) r) (ha : PE X a ta) : PE X (.UnaryOp op a pos) (tUn r ta) := by
  intro pins s σ H Q I h
  exact UnaryOp_ (thn (ha pins s σ H _ I h) fun v s1 ⟨x, H1, I1, r1, q1⟩ => ho pins s1 σ H1 x v Q I1 r1 q1)
/-- a op= e at a name: the name's slot i -/
theorem augR {op : Operator} {r : R2} (ho : OpR X (inplaceOp op) r) {pins : List (Addr × Obj)} {s : Shared} {σ : St} {H : Hp} {x y : V} {v u : Value} {Q : VK} (I : Inv X pins σ H s)
    (rx : RelV x v) (ry : RelV y u) (q : r x y H Q) : wpAny (model X.prog X.w) X.A (inplaceOp op v u) (EP X pins σ Q) X.xe s := ho pins s σ H x y v u Q I rx ry q

/-! ### ints -/
theorem opI {f : Value → Value → Sem Value} {C : Int → Int → Prop} {g : Int → Int → Int}
    (rule : ∀ (i j : Int) (t u : Tok) (s : Shared) (Q : Value → Shared → Prop) (E : Value → Shared → Prop), C i j → Q (.int (g i j) s.toks) { s with toks := s.toks + 1 } → wpAny (model X.prog X.w) X.A (f (.int i t) (.int j u)) Q E s) :
    OpR X f (rI C fun i j => .int (g i j)) := by
  intro pins s σ H x y v u Q I rx ry h
  obtain ⟨i, j, rfl, rfl, hc, q⟩ := h
  obtain ⟨t, rfl⟩ := rx
  obtain ⟨t', rfl⟩ := ry
  exact rule i j t t' s _ _ hc ⟨.int (g i j), H, I.tok _, ⟨_, rfl⟩, q⟩
theorem opI0 {f : Value → Value → Sem Value} {g : Int → Int → Int}
    (rule : ∀ (i j : Int) (t u : Tok) (s : Shared) (Q : Value → Shared → Prop) (E : Value → Shared → Prop), Q (.int (g i j) s.toks) { s with toks := s.toks + 1 } → wpAny (model X.prog X.w) X.A (f (.int i t) (.int j u)) Q E s) :
    OpR X f (rI0 fun i j => .int (g i j)) := by
  intro pins s σ H x y v u Q I rx ry h
  obtain ⟨i, j, rfl, rfl, q⟩ := h
  obtain ⟨t, rfl⟩ := rx
  obtain ⟨t', rfl⟩ := ry
  exact rule i j t t' s _ _ ⟨.int (g i j), H, I.tok _, ⟨_, rfl⟩, q⟩
theorem opB0 {f : Value → Value → Sem Value} {g : Int → Int → Bool}
    (rule : ∀ (i j : Int) (t u : Tok) (s : Shared) (Q : Value → Shared → Prop) (E : Value → Shared → Prop), Q (.bool (g i j)) s → wpAny (model X.prog X.w) X.A (f (.int i t) (.int j u)) Q E s) :
    OpR X f (rI0 fun i j => .bl (g i j)) := by
  intro pins s σ H x y v u Q I rx ry h
  obtain ⟨i, j, rfl, rfl, q⟩ := h
  obtain ⟨t, rfl⟩ := rx
  obtain ⟨t', rfl⟩ := ry
  exact rule i j t t' s _ _ ⟨.bl (g i j), H, I, rfl, q⟩

def CDiv (i j : Int) : Prop := 0 < j ∧ j < 1073741824
def CDivN (i j : Int) : Prop := j ≠ 0 ∧ j.natAbs < 1073741824
def CPow (i j : Int) : Prop := 0 ≤ j ∧ j ≤ 1000000 ∧ i.natAbs < 2 ^ 64
def CMul (i j : Int) : Prop := (-(2 ^ 64) < i ∧ i < 2 ^ 64) ∨ (-(2 ^ 64) < j ∧ j < 2 ^ 64)
theorem CMul.ok {i j : Int} (h : CMul i j) : IntMulOk i j := by
  rcases h with ⟨h1, h2⟩ | ⟨h1, h2⟩
  · exact .of_left (intBits_le_64 h1 h2)
  · exact .of_right (intBits_le_64 h1 h2)
theorem two_pow_nn (k : Nat) : (0 : Int) ≤ 2 ^ k := by
  rw [two_pow_cast]
  exact Int.natCast_nonneg _

theorem op_add : OpR X (binaryOp .Add) (rI0 fun i j => .int (i + j)) := opI0 fun _ _ _ _ _ _ _ q => add_int q
theorem op_sub : OpR X (binaryOp .Sub) (rI0 fun i j => .int (i - j)) := opI0 fun _ _ _ _ _ _ _ q => sub_int q
theorem op_mul : OpR X (binaryOp .Mult) (rI CMul fun i j => .int (i * j)) := opI fun _ _ _ _ _ _ _ hc q => mul_int q hc.ok
/-- // by a positive divisor -/
theorem op_fdiv : OpR X (binaryOp .FloorDiv) (rI CDiv fun i j => .int (i / j)) := opI fun i j _ _ _ _ _ hc q => by
  have h1 : (0 : Int) < j := hc.1
  have h2 : j < 1073741824 := hc.2
  exact floordiv_int (by omega) (by rw [Int.fdiv_eq_ediv_of_nonneg i (by omega)]; exact q) (.inl (PyProof.noPylong_small (by omega)))
theorem op_fdivN : OpR X (binaryOp .FloorDiv) (rI CDivN fun i j => .int (i.fdiv j)) := opI fun _ _ _ _ _ _ _ hc q => floordiv_int hc.1 q (.inl (PyProof.noPylong_small hc.2))
/-- % by a positive divisor of any size -/
theorem op_mod : OpR X (binaryOp .Mod) (rI (fun _ j => 0 < j) fun i j => .int (i % j)) := opI fun i j _ _ _ _ _ hc q => by
  have h1 : (0 : Int) < j := hc
  exact mod_int' (by omega) (by rw [Int.fmod_eq_emod_of_nonneg i (by omega)]; exact q)
theorem op_modN : OpR X (binaryOp .Mod) (rI (fun _ j => j ≠ 0) fun i j => .int (i.fmod j)) := opI fun _ _ _ _ _ _ _ hc q => mod_int' hc q
theorem op_pow : OpR X (binaryOp .Pow) (rI CPow fun i j => .int (i ^ j.toNat)) := opI fun _ _ _ _ _ _ _ hc q => pow_int_small hc.1 hc.2.1 hc.2.2 q
theorem op_shl : OpR X (binaryOp .LShift) (rI CPow fun i j => .int (i * 2 ^ j.toNat)) := opI fun _ _ _ _ _ _ _ hc q => lshift_int_small hc.1 hc.2.1 hc.2.2 q
theorem op_shr : OpR X (binaryOp .RShift) (rI (fun _ j => 0 ≤ j) fun i j => .int (i / 2 ^ j.toNat)) := opI fun i j _ _ _ _ _ hc q =>
  rshift_int hc (by rw [Int.fdiv_eq_ediv_of_nonneg i (two_pow_nn _)]; exact q)
theorem op_and : OpR X (binaryOp .BitAnd) (rI0 fun i j => .int (Builtin.bitAnd i j)) := opI0 fun _ _ _ _ _ _ _ q => and_int q
theorem op_or : OpR X (binaryOp .BitOr) (rI0 fun i j => .int (Builtin.bitOr i j)) := opI0 fun _ _ _ _ _ _ _ q => or_int q
theorem op_xor : OpR X (binaryOp .BitXor) (rI0 fun i j => .int (Builtin.bitXor i j)) := opI0 fun _ _ _ _ _ _ _ q => xor_int q

theorem iop_add : OpR X (inplaceOp .Add) (rI0 fun i j => .int (i + j)) := opI0 fun _ _ _ _ _ _ _ q => iadd_int q
theorem iop_sub : OpR X (inplaceOp .Sub) (rI0 fun i j => .int (i - j)) := opI0 fun _ _ _ _ _ _ _ q => isub_int q
theorem iop_mul : OpR X (inplaceOp .Mult) (rI CMul fun i j => .int (i * j)) := opI fun _ _ _ _ _ _ _ hc q => imul_int q hc.ok
theorem iop_fdiv : OpR X (inplaceOp .FloorDiv) (rI CDiv fun i j => .int (i / j)) := opI fun i j _ _ _ _ _ hc q => by
  have h1 : (0 : Int) < j := hc.1
  have h2 : j < 1073741824 := hc.2
  exact ifloordiv_int (by omega) (by rw [Int.fdiv_eq_ediv_of_nonneg i (by omega)]; exact q) (.inl (PyProof.noPylong_small (by omega)))
theorem iop_mod : OpR X (inplaceOp .Mod) (rI (fun _ j => 0 < j) fun i j => .int (i % j)) := opI fun i j _ _ _ _ _ hc q => by
  have h1 : (0 : Int) < j := hc
  exact imod_int (by omega) (by rw [Int.fmod_eq_emod_of_nonneg i (by omega)]; exact q)
theorem iop_shl : OpR X (inplaceOp .LShift) (rI CPow fun i j => .int (i * 2 ^ j.toNat)) := opI fun _ _ _ _ _ _ _ hc q => ilshift_int_small hc.1 hc.2.1 hc.2.2 q
theorem iop_shr : OpR X (inplaceOp .RShift) (rI (fun _ j => 0 ≤ j) fun i j => .int (i / 2 ^ j.toNat)) := opI fun i j _ _ _ _ _ hc q =>
  irshift_int hc (by rw [Int.fdiv_eq_ediv_of_nonneg i (two_pow_nn _)]; exact q)
theorem iop_and : OpR X (inplaceOp .BitAnd) (rI0 fun i j => .int (Builtin.bitAnd i j)) := opI0 fun _ _ _ _ _ _ _ q => iand_int q
theorem iop_or : OpR X (inplaceOp .BitOr) (rI0 fun i j => .int (Builtin.bitOr i j)) := opI0 fun _ _ _ _ _ _ _ q => ior_int q
theorem iop_xor : OpR X (inplaceOp .BitXor) (rI0 fun i j => .int (Builtin.bitXor i j)) := opI0 fun _ _ _ _ _ _ _ q => ixor_int q

theorem unI {f : Value → Sem Value} {g : Int → Int}
    (rule : ∀ (i : Int) (t : Tok) (s : Shared) (Q : Value → Shared → Prop) (E : Value → Shared → Prop), Q (.int (g i) s.toks) { s with toks := s.toks + 1 } → wpAny (model X.prog X.w) X.A (f (.int i t)) Q E s) :
    UnR X f (rU fun i => .int (g i)) := by
  intro pins s σ H x v Q I rx h
  obtain ⟨i, rfl, q⟩ := h
  obtain ⟨t, rfl⟩ := rx
  exact rule i t s _ _ ⟨.int (g i), H, I.tok _, ⟨_, rfl⟩, q⟩
theorem un_neg : UnR X (unaryOp .USub) (rU fun i => .int (-i)) := unI fun _ _ _ _ _ q => neg_int q
theorem un_inv : UnR X (unaryOp .Invert) (rU fun i => .int (Builtin.bitNot i)) := unI fun _ _ _ _ _ q => invert_int q

/-! ### bools among ints: n += (a < b) -/
theorem op_add_ib : OpR X (binaryOp .Add) (fun x y H Q => ∃ i k, x = .int i ∧ y = .bl k ∧ Q (.int (i + b2i k)) H) := by
  intro pins s σ H x y v u Q I rx ry h
  obtain ⟨i, k, rfl, rfl, q⟩ := h
  obtain ⟨t, rfl⟩ := rx
  cases ry
  exact add_int_bool ⟨.int (i + b2i k), H, I.tok _, ⟨_, rfl⟩, q⟩
end

/-! ### comparisons -/
/-- the scalars that == tells apart as data does -/
def scal : V → V → Bool
  | .non, .non => true | .non, .int _ => true | .int _, .non => true | .non, .bl _ => true | .bl _, .non => true | .non, .str _ => true | .str _, .non => true
  | .int _, .int _ => true | .bl _, .bl _ => true | .str _, .str _ => true | .byt _, .byt _ => true
  | .int _, .str _ => true | .str _, .int _ => true | .bl _, .str _ => true | .str _, .bl _ => true
  | _, _ => false
def rEq : R2 := fun x y H Q => scal x y = true ∧ Q (.bl (decide (x = y))) H
def rNe : R2 := fun x y H Q => scal x y = true ∧ Q (.bl (!decide (x = y))) H

theorem dec_int {i j : Int} : decide (V.int i = V.int j) = (i == j) := by
  rw [Bool.eq_iff_iff]
  simp
theorem dec_bl {i j : Bool} : decide (V.bl i = V.bl j) = (i == j) := by
  rw [Bool.eq_iff_iff]
  simp
theorem dec_str {i j : Str} : decide (V.str i = V.str j) = (i == j) := by
  rw [Bool.eq_iff_iff]
  simp
theorem dec_byt {i j : Array UInt8} : decide (V.byt i = V.byt j) = (i.toList == j.toList) := by
  rw [Bool.eq_iff_iff]
  cases i
  cases j
  simp

section
variable {X : Cx} {a b c : Expr} {ta tb tc : TE} {pos : Pos}
theorem fin_bl {pins : List (Addr × Obj)} {σ : St} {H : Hp} {s : Shared} {Q : VK} {k k' : Bool} (I : Inv X pins σ H s) (q : Q (.bl k) H) (e : k = k') : EP X pins σ Q (.bool k') s := by
  subst e
  exact ⟨.bl k, H, I, rfl, q⟩
theorem op_eq : OpR X (compareOp .Eq) rEq := by
  intro pins s σ H x y v u Q I rx ry h
  obtain ⟨hs, q⟩ := h
  cases x with
  | non =>
    cases rx
    cases y with
    | non => cases ry; exact PySem.EqNone.eq_none_none (fin_bl I q (by simp))
    | bl j => cases ry; exact PySem.EqNone.eq_none_bool (fin_bl I q (by simp))
    | int j => obtain ⟨t', rfl⟩ := ry; exact PySem.EqNone.eq_none_int (fin_bl I q (by simp))
    | str j => obtain ⟨t', rfl⟩ := ry; exact PySem.EqNone.eq_none_str (fin_bl I q (by simp))
    | _ => exact absurd (show false = true from hs) Bool.false_ne_true
  | bl i =>
    cases rx
    cases y with
    | non => cases ry; exact PySem.EqNone.eq_bool_none (fin_bl I q (by simp))
    | bl j => cases ry; exact eq_bool (fin_bl I q dec_bl)
    | str j => obtain ⟨t', rfl⟩ := ry; exact PySem.EqMixed.eq_bool_str (fin_bl I q (by simp))
    | _ => exact absurd (show false = true from hs) Bool.false_ne_true
  | int i =>
    obtain ⟨t, rfl⟩ := rx
    cases y with
    | non => cases ry; exact PySem.EqNone.eq_int_none (fin_bl I q (by simp))
    | int j => obtain ⟨t', rfl⟩ := ry; exact eq_int (fin_bl I q dec_int)
    | str j => obtain ⟨t', rfl⟩ := ry; exact PySem.EqMixed.eq_int_str (fin_bl I q (by simp))
    | _ => exact absurd (show false = true from hs) Bool.false_ne_true
  | str i =>
    obtain ⟨t, rfl⟩ := rx
    cases y with
    | non => cases ry; exact PySem.EqNone.eq_str_none (fin_bl I q (by simp))
    | bl j => cases ry; exact PySem.EqMixed.eq_str_bool (fin_bl I q (by simp))
    | int j => obtain ⟨t', rfl⟩ := ry; exact PySem.EqMixed.eq_str_int (fin_bl I q (by simp))
    | str j => obtain ⟨t', rfl⟩ := ry; exact eq_str (fin_bl I q dec_str)
    | _ => exact absurd (show false = true from hs) Bool.false_ne_true
  | byt i =>
    obtain ⟨t, rfl⟩ := rx
    cases y with
    | byt j => obtain ⟨t', rfl⟩ := ry; exact PySem.W.eq_bytes (fin_bl I q dec_byt)
    | _ => exact absurd (show false = true from hs) Bool.false_ne_true
  | _ => cases y <;> exact absurd (show false = true from hs) Bool.false_ne_true
theorem op_ne : OpR X (compareOp .NotEq) rNe := by
  intro pins s σ H x y v u Q I rx ry h
  obtain ⟨hs, q⟩ := h
  cases x with
  | non =>
    cases rx
    cases y with
    | non => cases ry; exact PySem.EqNone.ne_none_none (fin_bl I q (by simp))
    | bl j => cases ry; exact PySem.EqNone.ne_none_bool (fin_bl I q (by simp))
    | int j => obtain ⟨t', rfl⟩ := ry; exact PySem.EqNone.ne_none_int (fin_bl I q (by simp))
    | str j => obtain ⟨t', rfl⟩ := ry; exact PySem.EqNone.ne_none_str (fin_bl I q (by simp))
    | _ => exact absurd (show false = true from hs) Bool.false_ne_true
  | bl i =>
    cases rx
    cases y with
    | non => cases ry; exact PySem.EqNone.ne_bool_none (fin_bl I q (by simp))
    | bl j => cases ry; exact ne_bool (fin_bl I q (congrArg not dec_bl))
    | str j => obtain ⟨t', rfl⟩ := ry; exact PySem.EqMixed.ne_bool_str (fin_bl I q (by simp))
    | _ => exact absurd (show false = true from hs) Bool.false_ne_true
  | int i =>
    obtain ⟨t, rfl⟩ := rx
    cases y with
    | non => cases ry; exact PySem.EqNone.ne_int_none (fin_bl I q (by simp))
    | int j => obtain ⟨t', rfl⟩ := ry; exact ne_int (fin_bl I q (congrArg not dec_int))
    | str j => obtain ⟨t', rfl⟩ := ry; exact PySem.EqMixed.ne_int_str (fin_bl I q (by simp))
    | _ => exact absurd (show false = true from hs) Bool.false_ne_true
  | str i =>
    obtain ⟨t, rfl⟩ := rx
    cases y with
    | non => cases ry; exact PySem.EqNone.ne_str_none (fin_bl I q (by simp))
    | bl j => cases ry; exact PySem.EqMixed.ne_str_bool (fin_bl I q (by simp))
    | int j => obtain ⟨t', rfl⟩ := ry; exact PySem.EqMixed.ne_str_int (fin_bl I q (by simp))
    | str j => obtain ⟨t', rfl⟩ := ry; exact ne_str (fin_bl I q (congrArg not dec_str))
    | _ => exact absurd (show false = true from hs) Bool.false_ne_true
  | byt i =>
    obtain ⟨t, rfl⟩ := rx
    cases y with
    | byt j => obtain ⟨t', rfl⟩ := ry; exact PySem.W.ne_bytes (fin_bl I q (congrArg not dec_byt))
    | _ => exact absurd (show false = true from hs) Bool.false_ne_true
  | _ => cases y <;> exact absurd (show false = true from hs) Bool.false_ne_true

theorem op_lt : OpR X (compareOp .Lt) (rI0 fun i j => .bl (decide (i < j))) := opB0 fun _ _ _ _ _ _ _ q => lt_int q
theorem op_le : OpR X (compareOp .LtE) (rI0 fun i j => .bl (decide (i ≤ j))) := opB0 fun _ _ _ _ _ _ _ q => le_int q
theorem op_gt : OpR X (compareOp .Gt) (rI0 fun i j => .bl (decide (j < i))) := opB0 fun _ _ _ _ _ _ _ q => gt_int q
theorem op_ge : OpR X (compareOp .GtE) (rI0 fun i j => .bl (decide (j ≤ i))) := opB0 fun _ _ _ _ _ _ _ q => ge_int q
theorem op_lt_str : OpR X (compareOp .Lt) (fun x y H Q => ∃ i j, x = .str i ∧ y = .str j ∧ Q (.bl (decide (i.cps.toList < j.cps.toList))) H) := by
  intro pins s σ H x y v u Q I rx ry h
  obtain ⟨i, j, rfl, rfl, q⟩ := h
  obtain ⟨t, rfl⟩ := rx
  obtain ⟨t', rfl⟩ := ry
  exact lt_str (fin_bl I q rfl)
/-- the one string within the other -/
theorem op_in_str : OpR X (compareOp .In) (fun x y H Q => ∃ i j, x = .str i ∧ y = .str j ∧ Q (.bl (!(Builtin.Str.occurrences j i 0 j.length 1).isEmpty)) H) := by
  intro pins s σ H x y v u Q I rx ry h
  obtain ⟨i, j, rfl, rfl, q⟩ := h
  obtain ⟨t, rfl⟩ := rx
  obtain ⟨t', rfl⟩ := ry
  exact in_str (fin_bl I q rfl)

/-- is None, is not None: the right side a value none -/
theorem op_isN : OpR X (compareOp .Is) (fun x y H Q => y = .non ∧ Q (.bl (decide (x = .non))) H) := by
  intro pins s σ H x y v u Q I rx ry h
  obtain ⟨rfl, q⟩ := h
  cases ry
  refine is_none_gen (fin_bl I q ?_)
  cases x <;> first
    | (cases rx; rfl)
    | (obtain ⟨t, rfl⟩ := rx; rfl)
theorem op_notN : OpR X (compareOp .IsNot) (fun x y H Q => y = .non ∧ Q (.bl (!decide (x = .non))) H) := by
  intro pins s σ H x y v u Q I rx ry h
  obtain ⟨rfl, q⟩ := h
  cases ry
  refine isnot_none_gen (fin_bl I q ?_)
  cases x <;> first
    | (cases rx; rfl)
    | (obtain ⟨t, rfl⟩ := rx; rfl)

theorem op_notin_str : OpR X (compareOp .NotIn) (fun x y H Q => ∃ i j, x = .str i ∧ y = .str j ∧ Q (.bl (!(!(Builtin.Str.occurrences j i 0 j.length 1).isEmpty))) H) := by
  intro pins s σ H x y v u Q I rx ry h
  obtain ⟨i, j, rfl, rfl, q⟩ := h
  obtain ⟨t, rfl⟩ := rx
  obtain ⟨t', rfl⟩ := ry
  exact notIn_str (fin_bl I q rfl)
/-- is, is not of two objects that are tracked lists or instances -/
def isObj : HO → Bool
  | .lst _ => true
  | .ins _ _ _ => true
  | _ => false
theorem obj_there {pins : List (Addr × Obj)} {s : Shared} {σ : St} {H : Hp} {a : Addr} {o : HO} (I : Inv X pins σ H s) (h : H a = some o) (p : isObj o = true) : ∃ ob, s.heap.get? a = some ob ∧ ob.cls ≠ .type "tuple" := by
  cases o with
  | lst xs =>
    obtain ⟨_, its, n, _, e⟩ : xs.length ≤ sizeLine ∧ ∃ (its : List Value) (n : Nat), Vals xs its ∧ s.heap.get? a = some { cls := .type "list", data := .seq its.toArray n } := I.hok a _ h
    exact ⟨_, e, (by show Value.type "list" ≠ .type "tuple"; decide +kernel)⟩
  | ins C dx fs =>
    have x := I.hok a _ h
    obtain ⟨_, _, _, e, _⟩ := x
    exact ⟨_, e, (by show Value.ref C ≠ .type "tuple"; exact fun z => by cases z)⟩
  | _ => exact absurd (show false = true from p) Bool.false_ne_true
theorem op_is_ref : OpR X (compareOp .Is) (fun x y H Q => ∃ a b oa ob, x = .ref a ∧ y = .ref b ∧ H a = some oa ∧ isObj oa = true ∧ H b = some ob ∧ isObj ob = true ∧ Q (.bl (decide (a = b))) H) := by
  intro pins s σ H x y v u Q I rx ry h
  obtain ⟨a, b, oa, ob, rfl, rfl, ha, pa, hb, pb, q⟩ := h
  cases rx
  cases ry
  obtain ⟨o1, e1, n1⟩ := obj_there I ha pa
  obtain ⟨o2, e2, _⟩ := obj_there I hb pb
  by_cases z : a = b
  · subst z
    exact wpAny_is_ref_self (fin_bl I q (by simp))
  · exact wpAny_is_ref_other z e1 e2 n1 (fin_bl I q (by simp [z]))
theorem op_isnot_ref : OpR X (compareOp .IsNot) (fun x y H Q => ∃ a b oa ob, x = .ref a ∧ y = .ref b ∧ H a = some oa ∧ isObj oa = true ∧ H b = some ob ∧ isObj ob = true ∧ Q (.bl (!decide (a = b))) H) := by
  intro pins s σ H x y v u Q I rx ry h
  obtain ⟨a, b, oa, ob, rfl, rfl, ha, pa, hb, pb, q⟩ := h
  cases rx
  cases ry
  obtain ⟨o1, e1, n1⟩ := obj_there I ha pa
  obtain ⟨o2, e2, _⟩ := obj_there I hb pb
  by_cases z : a = b
  · subst z
    exact wpAny_isNot_ref_self (fin_bl I q (by simp))
  · exact wpAny_isNot_ref_other z e1 e2 n1 (fin_bl I q (by simp [z]))

/-- two rules for one operation: by cases -/
theorem OpR.or {f : Value → Value → Sem Value} {r r' : R2} (h : OpR X f r) (h' : OpR X f r') : OpR X f (fun x y H Q => r x y H Q ∨ r' x y H Q) := by
  intro pins s σ H x y v u Q I rx ry q
  rcases q with q | q
  · exact h pins s σ H x y v u Q I rx ry q
  · exact h' pins s σ H x y v u Q I rx ry q

theorem nomark (b : Expr) {op : CmpOp} (h : op ≠ .In := by decide) (h2 : op ≠ .NotIn := by decide) : behindInMarks op b = false := by
  have e1 : (op == CmpOp.In) = false := by cases op <;> first | rfl | exact absurd rfl h
  have e2 : (op == CmpOp.NotIn) = false := by cases op <;> first | rfl | exact absurd rfl h2
  cases b <;> simp [behindInMarks, e1, e2]
/-- a comparison as a value; hm: nomark b, or (for in, not in) by with_unfolding_all rfl -/
theorem pe_cmpR {op : CmpOp} {r : R2} (ho : OpR X (compareOp op) r) (ha : PE X a ta) (hb : PE X b tb) (hm : behindInMarks op b = false) : PE X (.Compare a [op] [b] pos) (tOp r ta tb) := by
  intro pins s σ H Q I h
  exact wpAny_Compare1 (binT ha hb I h fun v u s2 x y H2 I2 rx ry q => ho pins s2 σ H2 x y v u Q I2 rx ry q) hm
/-- a reading of a value as a test -/
def tTest (t : TE) : TT := fun σ H Q => t σ H fun x H' => ∃ k, x = .bl k ∧ Q k H'
theorem pt_cmpR {op : CmpOp} {r : R2} (ho : OpR X (compareOp op) r) (ha : PE X a ta) (hb : PE X b tb) (hm : behindInMarks op b = false) : PT X (.Compare a [op] [b] pos) (tTest (tOp r ta tb)) := by
  intro pins s σ H Q I h
  refine wpAny_isTrue_Compare1 (thn (ha pins s σ H _ I h) fun v s1 ⟨x, H1, I1, r1, q1⟩ => thn (hb pins s1 σ H1 _ I1 q1) fun u s2 ⟨y, H2, I2, r2, q2⟩ =>
    thn (ho pins s2 σ H2 x y v u _ I2 r1 r2 q2) fun c s3 ⟨z, H3, I3, r3, k, e, q3⟩ => ?_) hm
  subst e
  cases r3
  exact wpAny_truthy_bool ⟨H3, I3, q3⟩
/-- a op1 b op2 c -/
def tChain (r r' : R2) (ta tb tc : TE) : TE := fun σ H Q => ta σ H fun x H1 => tb σ H1 fun y H2 => r x y H2 fun z H3 => ∃ k, z = .bl k ∧
  (if k = true then tc σ H3 fun w' H4 => r' y w' H4 Q else Q (.bl false) H3)
theorem pe_chain {op op' : CmpOp} {r r' : R2} (ho : OpR X (compareOp op) r) (ho' : OpR X (compareOp op') r') (ha : PE X a ta) (hb : PE X b tb) (hc : PE X c tc)
    (hm : lastMarks [op, op'] [b, c] = false := by with_unfolding_all rfl) : PE X (.Compare a [op, op'] [b, c] pos) (tChain r r' ta tb tc) := by
  intro pins s σ H Q I h
  refine Compare_chain (thn (ha pins s σ H _ I h) fun v s1 ⟨x, H1, I1, r1, q1⟩ => chain_link (thn (hb pins s1 σ H1 _ I1 q1) fun u s2 ⟨y, H2, I2, r2, q2⟩ =>
    thn (ho pins s2 σ H2 x y v u _ I2 r1 r2 q2) fun d s3 ⟨z, H3, I3, r3, k, e, q3⟩ => ?_)) hm
  subst e
  cases r3
  refine wpAny_truthy_bool ?_
  cases k with
  | false => exact ite_ff ⟨.bl false, H3, I3, rfl, q3⟩
  | true => exact ite_tt (chain_last (thn (hc pins s3 σ H3 _ I3 q3) fun w' s4 ⟨z', H4, I4, r4, q4⟩ => ho' pins s4 σ H4 y z' u w' Q I4 r2 r4 q4))
theorem pt_chain {op op' : CmpOp} {r r' : R2} (ho : OpR X (compareOp op) r) (ho' : OpR X (compareOp op') r') (ha : PE X a ta) (hb : PE X b tb) (hc : PE X c tc)
    (hm : lastMarks [op, op'] [b, c] = false := by with_unfolding_all rfl) : PT X (.Compare a [op, op'] [b, c] pos) (tTest (tChain r r' ta tb tc)) := by
  intro pins s σ H Q I h
  refine isTrue_chain (thn (ha pins s σ H _ I h) fun v s1 ⟨x, H1, I1, r1, q1⟩ => test_link (thn (hb pins s1 σ H1 _ I1 q1) fun u s2 ⟨y, H2, I2, r2, q2⟩ =>
    thn (ho pins s2 σ H2 x y v u _ I2 r1 r2 q2) fun d s3 ⟨z, H3, I3, r3, k, e, q3⟩ => ?_)) hm
  subst e
  cases r3
  refine wpAny_truthy_bool ?_
  cases k with
  | false =>
    obtain ⟨k', e', q'⟩ := q3
    cases e'
    exact ite_ff ⟨H3, I3, q'⟩
  | true =>
    refine ite_tt (test_last (thn (hc pins s3 σ H3 _ I3 q3) fun w' s4 ⟨z', H4, I4, r4, q4⟩ => thn (ho' pins s4 σ H4 y z' u w' _ I4 r2 r4 q4) fun d' s5 ⟨z2, H5, I5, r5, k2, e2, q5⟩ => ?_))
    subst e2
    cases r5
    exact wpAny_truthy_bool ⟨H5, I5, q5⟩

/-! ### truth -/
/-- a value's truth by the abstract heap -/
def TruV (K : PySem.W.Frag) (x : V) (H : Hp) (k : Bool) : Prop :=
  match x with
  | .non => k = false
  | .bl b => k = b
  | .int i => k = (i != 0)
  | .str y => y.length ≤ sizeLine ∧ k = ((y.length : Int) != 0)
  | .byt y => y.size ≤ sizeLine ∧ k = ((y.size : Int) != 0)
  | .ref p => (∃ xs, SqL K H p xs ∧ k = !xs.isEmpty) ∨ (∃ xs, SqT K H p xs ∧ k = !xs.isEmpty) ∨ ∃ kvs, H p = some (.dK kvs) ∧ k = !kvs.isEmpty
  | _ => False
theorem isEmpty_kv {κ : Type} {kvs : List (κ × V)} {vs : List (κ × Value)} (r : KV kvs vs) : (!vs.isEmpty) = !kvs.isEmpty := by
  cases r <;> rfl
theorem isEmpty_of {xs : List V} {its : List Value} (r : Vals xs its) : (!its.toArray.isEmpty) = !xs.isEmpty := by
  cases r <;> simp
theorem line63 : (sizeLine : Nat) < 2 ^ 63 := by rw [sizeLine_eq]; decide
theorem tru_ok : TruR X (fun x H Q => ∃ k, TruV X.K x H k ∧ Q k H) := by
  intro pins s σ H x v Q I rx h
  obtain ⟨k, e, q⟩ := h
  have hl := line63
  have hs : sizeLine = 16777216 := sizeLine_eq
  cases x with
  | non =>
    cases rx
    have e' : k = false := e
    subst e'
    exact truthy_none ⟨H, I, q⟩
  | bl b =>
    cases rx
    have e' : k = b := e
    subst e'
    exact wpAny_truthy_bool ⟨H, I, q⟩
  | int i =>
    obtain ⟨t, rfl⟩ := rx
    have e' : k = (i != 0) := e
    subst e'
    exact PySem.P.truthy_int ⟨H, I, q⟩
  | str y =>
    obtain ⟨t, rfl⟩ := rx
    obtain ⟨hy, e'⟩ : y.length ≤ sizeLine ∧ k = ((y.length : Int) != 0) := e
    subst e'
    exact PySem.P.truthy_str (by omega) ⟨H, I.tok _, q⟩
  | byt y =>
    obtain ⟨t, rfl⟩ := rx
    obtain ⟨hy, e'⟩ : y.size ≤ sizeLine ∧ k = ((y.size : Int) != 0) := e
    subst e'
    exact PySem.W.truthy_bytes (by omega) ⟨H, I.tok _, q⟩
  | ref p =>
    cases rx
    have e' : (∃ xs, SqL X.K H p xs ∧ k = !xs.isEmpty) ∨ (∃ xs, SqT X.K H p xs ∧ k = !xs.isEmpty) ∨ ∃ kvs, H p = some (.dK kvs) ∧ k = !kvs.isEmpty := e
    rcases e' with ⟨xs, hx, e'⟩ | ⟨xs, hx, e'⟩ | ⟨kvs, hx, e'⟩
    · subst e'
      obtain ⟨its, r, pl, hz⟩ := I.list hx
      have hlen := r.length
      exact wpAny_truthy_list pl.isList (by simp only [List.size_toArray]; omega) ⟨H, I.tok _, by rw [isEmpty_of r]; exact q⟩
    · subst e'
      obtain ⟨its, r, pl, hz⟩ := I.tuple hx
      have hlen := r.length
      exact truthy_tuple pl (by simp only [List.size_toArray]; omega) ⟨H, I.tok _, by rw [isEmpty_of r]; exact q⟩
    · subst e'
      obtain ⟨hz, hS, vs, r, m⟩ : kvs.length ≤ sizeLine ∧ (p == sysModules) = false ∧ ∃ vs, KV kvs vs ∧ s.heap.DictOf (mixKind X.prog X.w) p vs := I.hok p _ hx
      have hlen : kvs.length = vs.length := Paired.length r
      exact wpAny_truthy_dict hS m (by omega) ⟨H, I.tok _, by rw [isEmpty_kv r]; exact q⟩
  | _ => exact (show False from e).elim
/-- any expression whose test is its value's truth (a name, a call, a subscript, a field ..: he by fun _ => rfl) -/
theorem pt_truth (ha : PE X a ta) (he : ∀ whole, isTrue a X.env whole = (do let v ← whole; standAt a.pos; holding [v] (truthy v))) :
    PT X a (fun σ H Q => ta σ H fun x H' => ∃ k, TruV X.K x H' k ∧ Q k H') := by
  intro pins s σ H Q I h
  exact isTrue_plain (thn (ha pins s σ H _ I h) fun v s1 ⟨x, H1, I1, r1, q1⟩ => tru_ok pins s1 σ H1 x v Q I1 r1 q1) (he _)

/-! ### strs and bytes -/
theorem pe_byt {x : List UInt8} {k : Nat} : PE X (.Constant (.bytes x) k pos) (fun _ H Q => Q (.byt x.toArray) H) := fun _ _ _ H _ I h => PySem.W.Constant_bytes ⟨.byt x.toArray, H, I.tok _, ⟨_, rfl⟩, h⟩
theorem op_add_str : OpR X (binaryOp .Add) (fun x y H Q => ∃ i j, x = .str i ∧ y = .str j ∧ i.length + j.length ≤ sizeLine ∧ Q (.str (i ++ j)) H) := by
  intro pins s σ H x y v u Q I rx ry h
  obtain ⟨i, j, rfl, rfl, hz, q⟩ := h
  obtain ⟨t, rfl⟩ := rx
  obtain ⟨t', rfl⟩ := ry
  exact add_str (fun t' tk => ⟨.str (i ++ j), H, I.tok _, ⟨_, rfl⟩, q⟩) hz
theorem iop_add_str : OpR X (inplaceOp .Add) (fun x y H Q => ∃ i j, x = .str i ∧ y = .str j ∧ i.length + j.length ≤ sizeLine ∧ Q (.str (i ++ j)) H) := by
  intro pins s σ H x y v u Q I rx ry h
  obtain ⟨i, j, rfl, rfl, hz, q⟩ := h
  obtain ⟨t, rfl⟩ := rx
  obtain ⟨t', rfl⟩ := ry
  exact iadd_str (fun t' tk => ⟨.str (i ++ j), H, I.tok _, ⟨_, rfl⟩, q⟩) hz
theorem op_add_byt : OpR X (binaryOp .Add) (fun x y H Q => ∃ i j, x = .byt i ∧ y = .byt j ∧ i.size + j.size ≤ 16777216 ∧ Q (.byt (i ++ j)) H) := by
  intro pins s σ H x y v u Q I rx ry h
  obtain ⟨i, j, rfl, rfl, hz, q⟩ := h
  obtain ⟨t, rfl⟩ := rx
  obtain ⟨t', rfl⟩ := ry
  exact PySem.W.KBy.add_bytes hz (fun t' tk => ⟨.byt (i ++ j), H, I.tok _, ⟨_, rfl⟩, q⟩)

def PlainIxT (b : Expr) : Prop := ∀ o i, subscripted b false o i = operate [o, i] (getItem o i)
/-- s[i], 0 ≤ i < len -/
theorem pe_item_str (ha : PE X a ta) (hb : PE X b tb) (hs : PlainIxT b) :
    PE X (.Subscript a b pos) (tOp (fun x y H Q => ∃ z i c, x = .str z ∧ y = .int i ∧ 0 ≤ i ∧ i < 2 ^ 63 ∧ i < z.length ∧ z.cps[i.toNat]? = some c ∧ Q (.str ⟨#[c]⟩) H) ta tb) := by
  intro pins s σ H Q I h
  refine Subscript_ (binT ha hb I h fun v u s2 x y H2 I2 rx ry q => ?_)
  obtain ⟨z, i, c, rfl, rfl, h0, h63, h1, hc, q⟩ := q
  obtain ⟨t, rfl⟩ := rx
  obtain ⟨t', rfl⟩ := ry
  have e : seqIndex? i z.length = some i.toNat := PySem.StrLaws.seqIndex_nonneg h0 h1
  exact tail_any (typeIs_str s2 z t) slot_str_getitem.lookup (getItem_str (c := c) (by
    have e1 : decide (i < -(2 ^ 63 : Int)) = false := decide_eq_false (by omega)
    have e2 : decide (i ≥ 2 ^ 63) = false := decide_eq_false (by omega)
    rw [e1, e2] <;> rfl) (by rw [e]; exact hc) ⟨.str ⟨#[c]⟩, H2, I2.tok _, ⟨_, rfl⟩, q⟩) (hs _ _)
/-- b[i], 0 ≤ i < len -/
theorem pe_item_byt (ha : PE X a ta) (hb : PE X b tb) (hs : PlainIxT b) :
    PE X (.Subscript a b pos) (tOp (fun x y H Q => ∃ (z : List UInt8) (i : Int), x = .byt z.toArray ∧ y = .int i ∧ z.length ≤ sizeLine ∧ 0 ≤ i ∧ i < z.length ∧ Q (.int ((z.getD i.toNat 0).toNat : Nat)) H) ta tb) := by
  intro pins s σ H Q I h
  refine Subscript_ (binT ha hb I h fun v u s2 x y H2 I2 rx ry q => ?_)
  obtain ⟨z, i, rfl, rfl, hz, h0, h1, q⟩ := q
  obtain ⟨t, rfl⟩ := rx
  obtain ⟨t', rfl⟩ := ry
  have hl : sizeLine = 16777216 := sizeLine_eq
  exact tail_any (PySem.W.typeIs_bytes s2 z.toArray t) PySem.W.FB.slot_bytes_getitem.lookup (PySem.W.getItem_bytes (by omega) h0 h1 ⟨.int ((z.getD i.toNat 0).toNat : Nat), H2, I2.tok _, ⟨_, rfl⟩, q⟩) (hs _ _)

/-! ### scalar builtins, by CallR -/
theorem vals1 {x : V} {us : List Value} (r : Vals [x] us) : ∃ u, us = [u] ∧ RelV x u := by
  cases r with
  | cons r1 r2 => cases r2; exact ⟨_, rfl, r1⟩
theorem vals2 {x y : V} {us : List Value} (r : Vals [x, y] us) : ∃ u w', us = [u, w'] ∧ RelV x u ∧ RelV y w' := by
  cases r with
  | cons r1 r2 =>
    cases r2 with
    | cons r3 r4 => cases r4; exact ⟨_, _, rfl, r1, r3⟩
theorem call_abs : CallR X (.builtin "abs") (fun xs H Q => ∃ i, xs = [.int i] ∧ Q (.int (if i < 0 then -i else i)) H) := by
  intro pins s σ H xs us Q I r h
  obtain ⟨i, rfl, q⟩ := h
  obtain ⟨u, rfl, t, rfl⟩ := vals1 r
  exact call_abs_int fun u tk => ⟨.int (if i < 0 then -i else i), H, I.tok _, ⟨_, rfl⟩, q⟩
theorem call_max2 (hc : X.calm = true) : CallR X (.builtin "max") (fun xs H Q => ∃ i j, xs = [.int i, .int j] ∧ Q (.int (if j > i then j else i)) H) := by
  intro pins s σ H xs us Q I r h
  obtain ⟨i, j, rfl, q⟩ := h
  obtain ⟨u, w', rfl, ⟨t, rfl⟩, ⟨t', rfl⟩⟩ := vals2 r
  refine max_two_ints (I.ok.hd hc) fun h' tk k => ⟨_, H, I.kept k, ?_, q⟩
  by_cases hj : j > i
  · rw [if_pos hj, if_pos hj]; exact ⟨_, rfl⟩
  · rw [if_neg hj, if_neg hj]; exact ⟨_, rfl⟩
theorem call_min2 (hc : X.calm = true) : CallR X (.builtin "min") (fun xs H Q => ∃ i j, xs = [.int i, .int j] ∧ Q (.int (if j < i then j else i)) H) := by
  intro pins s σ H xs us Q I r h
  obtain ⟨i, j, rfl, q⟩ := h
  obtain ⟨u, w', rfl, ⟨t, rfl⟩, ⟨t', rfl⟩⟩ := vals2 r
  refine min_two_ints (I.ok.hd hc) fun h' tk k => ⟨_, H, I.kept k, ?_, q⟩
  by_cases hj : j < i
  · rw [if_pos hj, if_pos hj]; exact ⟨_, rfl⟩
  · rw [if_neg hj, if_neg hj]; exact ⟨_, rfl⟩
theorem call_int1 : CallR X (.type "int") (fun xs H Q => (∃ i, xs = [.int i] ∧ Q (.int i) H) ∨ ∃ k, xs = [.bl k] ∧ Q (.int (if k then 1 else 0)) H) := by
  intro pins s σ H xs us Q I r h
  rcases h with ⟨i, rfl, q⟩ | ⟨k, rfl, q⟩
  · obtain ⟨u, rfl, t, rfl⟩ := vals1 r
    exact call_int_int ⟨.int i, H, I, ⟨_, rfl⟩, q⟩
  · obtain ⟨u, rfl, r1⟩ := vals1 r
    cases r1
    exact call_int_bool ⟨.int (if k then 1 else 0), H, I.tok _, ⟨_, rfl⟩, q⟩
theorem call_bool1 : CallR X (.type "bool") (fun xs H Q => (∃ i, xs = [.int i] ∧ Q (.bl (i != 0)) H) ∨ ∃ k, xs = [.bl k] ∧ Q (.bl k) H) := by
  intro pins s σ H xs us Q I r h
  rcases h with ⟨i, rfl, q⟩ | ⟨k, rfl, q⟩
  · obtain ⟨u, rfl, t, rfl⟩ := vals1 r
    exact call_bool_int ⟨.bl (i != 0), H, I, rfl, q⟩
  · obtain ⟨u, rfl, r1⟩ := vals1 r
    cases r1
    exact call_bool_bool ⟨.bl k, H, I, rfl, q⟩
theorem call_str_int : CallR X (.type "str") (fun xs H Q => ∃ i, xs = [.int i] ∧ i.natAbs.log2 < 1920 ∧ Q (.str (toString i)) H) := by
  intro pins s σ H xs us Q I r h
  obtain ⟨i, rfl, hz, q⟩ := h
  obtain ⟨u, rfl, t, rfl⟩ := vals1 r
  exact PySem.P.str_of_int hz ⟨.str _, H, I.tok _, ⟨_, rfl⟩, q⟩
theorem call_ord : CallR X (.builtin "ord") (fun xs H Q => ∃ x, xs = [.str x] ∧ x.length = 1 ∧ Q (.int (x.cps.getD 0 0 : Nat)) H) := by
  intro pins s σ H xs us Q I r h
  obtain ⟨x, rfl, hz, q⟩ := h
  obtain ⟨u, rfl, t, rfl⟩ := vals1 r
  exact ord_of_one hz ⟨.int _, H, I.tok _, ⟨_, rfl⟩, q⟩
theorem call_chr : CallR X (.builtin "chr") (fun xs H Q => ∃ i, xs = [.int i] ∧ 0 ≤ i ∧ i ≤ 1114111 ∧ Q (.str ⟨#[i.toNat]⟩) H) := by
  intro pins s σ H xs us Q I r h
  obtain ⟨i, rfl, h0, h1, q⟩ := h
  obtain ⟨u, rfl, t, rfl⟩ := vals1 r
  exact chr_of_range h0 h1 ⟨.str _, H, I.tok _, ⟨_, rfl⟩, q⟩
/-- len of a str, a bytes, a list, a tuple -/
def LenV (K : PySem.W.Frag) (x : V) (H : Hp) (n : Nat) : Prop :=
  match x with
  | .str y => y.length ≤ sizeLine ∧ n = y.length
  | .byt y => y.size ≤ sizeLine ∧ n = y.size
  | .ref p => (∃ xs, SqL K H p xs ∧ n = xs.length) ∨ ∃ xs, SqT K H p xs ∧ n = xs.length
  | _ => False
theorem call_len : CallR X (.builtin "len") (fun xs H Q => ∃ x n, xs = [x] ∧ LenV X.K x H n ∧ Q (.int n) H) := by
  intro pins s σ H xs us Q I r h
  obtain ⟨x, n, rfl, e, q⟩ := h
  obtain ⟨u, rfl, rx⟩ := vals1 r
  have hl := line63
  have hs : sizeLine = 16777216 := sizeLine_eq
  cases x with
  | str y =>
    obtain ⟨t, rfl⟩ := rx
    obtain ⟨hy, e'⟩ : y.length ≤ sizeLine ∧ n = y.length := e
    subst e'
    exact len_str (by omega) ⟨.int _, H, I.tok _, ⟨_, rfl⟩, q⟩
  | byt y =>
    obtain ⟨t, rfl⟩ := rx
    obtain ⟨hy, e'⟩ : y.size ≤ sizeLine ∧ n = y.size := e
    subst e'
    exact PySem.W.len_bytes (by omega) ⟨.int _, H, I.tok _, ⟨_, rfl⟩, q⟩
  | ref p =>
    cases rx
    have e' : (∃ xs, SqL X.K H p xs ∧ n = xs.length) ∨ ∃ xs, SqT X.K H p xs ∧ n = xs.length := e
    rcases e' with ⟨xs, hx, e'⟩ | ⟨xs, hx, e'⟩
    · subst e'
      obtain ⟨its, r', pl, hz⟩ := I.list hx
      have hlen := r'.length
      exact Calls.call_len_list pl.isList (by simp only [List.size_toArray]; omega) ⟨.int xs.length, H, I.tok _, ⟨_, by simp only [List.size_toArray]; rw [hlen]⟩, q⟩
    · subst e'
      obtain ⟨its, r', pl, hz⟩ := I.tuple hx
      have hlen := r'.length
      exact len_tuple pl (by simp only [List.size_toArray]; omega) ⟨.int xs.length, H, I.tok _, ⟨_, by simp only [List.size_toArray]; rw [hlen]⟩, q⟩
  | _ => exact (show False from e).elim
/-- divmod: a new tuple -/
theorem call_divmod : CallR X (.builtin "divmod") (fun xs H Q => ∃ i j, xs = [.int i, .int j] ∧ CDiv i j ∧ ∀ p, H p = none → Q (.ref p) (upd H p (.tup [.int (i / j), .int (i % j)]))) := by
  intro pins s σ H xs us Q I r h
  obtain ⟨i, j, rfl, ⟨h1, h2⟩, q⟩ := h
  obtain ⟨u, w', rfl, ⟨t, rfl⟩, ⟨t', rfl⟩⟩ := vals2 r
  refine divmod_int (by omega) ?_ (.inl (PyProof.noPylong_small (by omega)))
  rw [Int.fdiv_eq_ediv_of_nonneg i (by omega), Int.fmod_eq_emod_of_nonneg i (by omega)]
  have hn : H s.heap.objs.size = none := I.hok.fresh (Nat.le_refl _)
  refine ⟨.ref s.heap.objs.size, _, ?_, rfl, q _ hn⟩
  refine I.laid (fun b o e => Heap.get?_push_of_some _ e) (Nat.le_refl _) ⟨by simp only [List.length_cons, List.length_nil]; rw [sizeLine_eq]; decide, [.int (i / j) s.toks, .int (i % j) (s.toks + 1)], .cons ⟨_, rfl⟩ (.cons ⟨_, rfl⟩ .nil), ?_⟩
  exact ⟨_, Heap.get?_push_size s.heap rfl, rfl, 0, rfl⟩
end
end L2

namespace L2
open PySem PySem.Spec PyProof.Rows

/-! ### an instance, its attributes a map -/
structure ObjM (h : Heap) (x dx C : Addr) (mA : Str → Option Value) : Prop where
  obj : h.get? x = some (PySem.W.instObj C dx)
  ns : h.Ns1 dx mA
  ne : dx ≠ x

theorem lookIn_ns {h : Heap} {dx : Addr} {mA : Str → Option Value} (n : h.Ns1 dx mA) : ∃ od, h.get? dx = some od ∧ ∀ name, PySem.W.lookIn name od = some (mA name) := by
  obtain ⟨o, es, ep, ho, hd, hk, _, hm⟩ := n
  refine ⟨o, ho, fun name => ?_⟩
  have e := hm name
  unfold nsFind findBy at e
  rw [← Array.find?_toList] at e
  unfold PySem.W.lookIn
  rw [hd]
  dsimp only
  split
  · rename_i y q
    rw [q] at e
    exact congrArg some e
  · rename_i q
    rw [q] at e
    have a : es.toList.any (·.refKey) = false := by
      rw [List.any_eq_false]
      intro y hy
      obtain ⟨z, t, hkey⟩ := hk y (Array.mem_toList_iff.mp hy)
      simp [DictEntry.refKey, hkey]
    have a' : ¬ es.toList.any (·.refKey) = true := by rw [a]; exact Bool.false_ne_true
    rw [if_neg a']
    exact congrArg some e

theorem ObjM.look {h : Heap} {x dx C : Addr} {mA : Str → Option Value} (I : ObjM h x dx C mA) : ∃ od, PySem.W.InstAt h x (PySem.W.instObj C dx) C (some od) ∧ ∀ name, PySem.W.lookIn name od = some (mA name) :=
  let ⟨od, ho, hl⟩ := lookIn_ns I.ns
  ⟨od, ⟨I.obj, rfl, rfl, ho⟩, hl⟩

section
variable {prog : Program} {w : World} {A : Around} {E : Value → Shared → Prop} {s : Shared} {K : PySem.W.Frag} {x dx C f : Addr} {mA : Str → Option Value} {name : Str} {v : Value}

theorem get_map {expr : Bool} {Q : Value → Shared → Prop} (X : K.In s.heap) (I : ObjM s.heap x dx C mA) (hg : PySem.W.plainGet K C name = true) (hh : PySem.W.hasDictIn K C = true)
    (ha : PySem.W.findIn K (.ref C) name = some none) (hv : mA name = some v) (hv' : PySem.W.handedIn v = true) (h : Q v { s with toks := s.toks + 1 }) :
    wpAny (model prog w) A (getAttr (.ref x) name expr) Q E s := by
  obtain ⟨od, J, hl⟩ := I.look
  exact PySem.W.get_value X J (PySem.W.plainGet_of hg).1 (PySem.W.findObj_own hh ha rfl (by rw [hl, hv])) hv' h

theorem get_const {expr : Bool} {a : Value} {Q : Value → Shared → Prop} (X : K.In s.heap) (I : ObjM s.heap x dx C mA) (hg : PySem.W.plainGet K C name = true) (hh : PySem.W.hasDictIn K C = true)
    (ha : PySem.W.findIn K (.ref C) name = some (some a)) (hn : PySem.W.specialIn K a "__get__" = some none) (hc : PySem.W.copiedNames.contains name = false) (hv : mA name = none) (hv' : PySem.W.handedIn a = true)
    (h : Q a { s with toks := s.toks + 1 }) : wpAny (model prog w) A (getAttr (.ref x) name expr) Q E s := by
  obtain ⟨od, J, hl⟩ := I.look
  exact PySem.W.get_value X J (PySem.W.plainGet_of hg).1 (PySem.W.findObj_cls hh ha hn hv' hc (by rw [hl, hv])) hv' h

theorem get_meth {pl : Sem Bool} {Q : Value × List Value → Shared → Prop} (X : K.In s.heap) (I : ObjM s.heap x dx C mA) (hg : PySem.W.plainGet K C name = true)
    (hf : PySem.W.findIn K (.ref C) name = some (some (.ref f))) (ht : PySem.W.isFn K (.ref f) = true) (hv : mA name = none) (h : Q (.ref f, [.ref x]) s) :
    wpAny (model prog w) A (getMethod (.ref x) name pl) Q E s := by
  obtain ⟨od, J, hl⟩ := I.look
  exact PySem.W.method_fn X J (PySem.W.plainGet_of hg).1 (PySem.W.plainGet_of hg).2 hf (beq_iff_eq.mp ht) (by show (PySem.W.lookIn name od).map (·.isSome) = some false; rw [hl, hv]; rfl) h

theorem set_map {ns : List Str} {Q : Unit → Shared → Prop} (X : K.In s.heap) (I : ObjM s.heap x dx C mA)
    (hs : PySem.W.findIn K (.ref C) "__setattr__" = some (some (.builtin "object.__setattr__"))) (hp : PySem.W.plainOver K C = true) (ht : PySem.W.takerIn K C name = some none) (hh : PySem.W.hasDictIn K C = true)
    (hw : PySem.Within mA ns) (hsz : ns.length ≤ sizeLine)
    (h : ∀ h', ObjM h' x dx C (fun y => if y = name then some v else mA y) → Heap.SameBut dx s.heap h' → Q () { s with heap := h', toks := s.toks + 2 }) :
    wpAny (model prog w) A (setAttr (.ref x) name v) Q E s := by
  obtain ⟨od, J, hl⟩ := I.look
  refine PySem.W.set_plain X J hs (PySem.W.osa_open (s := { s with toks := s.toks + 1 }) (r := none) X J hp ht fun b => ?_)
  obtain ⟨cd, hc, hd'⟩ := PySem.W.any_some hh
  have hx : s.heap.get? x = some ⟨.ref C, some dx, .plain, #[]⟩ := I.obj
  refine wpAny_bind (wpAny_pure (wpAny_bind (wpAny_bind (wpAny_loadPart hx (wpAny_bind (PySem.W.Looks.here (s := { s with toks := s.toks + 1 }) (PySem.W.looks_clsIn X hc) ?_))))))
  rw [hd']
  refine wpAny_pure (a := some dx) (wpAny_bind (wpAny_pure (wpAny_bind ?_)))
  refine wpAny_nsSet1 (s := { s with toks := s.toks + 1 }) I.ns fun h' hn2 hs2 => ?_
  obtain ⟨oD, esD, epD, hoD, hdD, hcD⟩ := hn2.count (PySem.Within.cons name v hw)
  refine wpAny_bind (wpAny_lookBehind hoD (by rw [hdD]; exact pastItsLine_dict (Nat.le_trans hcD (by rw [List.length_cons]; omega))) ?_)
  exact wpAny_pure (h _ ⟨(hs2.2 _ (Ne.symm I.ne)).trans I.obj, hn2, I.ne⟩ hs2)

/-- C(..): the dict at the heap's end, the instance behind it; then its __init__ -/
theorem make_map {R : Result → Shared → Prop} {vs : List Value} {kw : List (Str × Value)} (X : K.In s.heap) (hm : PySem.W.makesIn K C = true)
    (hi : PySem.W.findIn K (.ref C) "__init__" = some (some (.ref f))) (hf : PySem.W.typeIn K (.ref f) = some (.type "function"))
    (h : codeAny (model prog w) (A.under (.builtin "type.__call__" ⟨.ref C :: vs, kw⟩)) (.call (.ref f) ⟨.ref (s.heap.objs.size + 1) :: vs, kw⟩) (PySem.W.InitBack (s.heap.objs.size + 1) R)
      { s with heap := (s.heap.push PySem.W.emptyDict).push (PySem.W.instObj C s.heap.objs.size) }) :
    codeAny (model prog w) A (.call (.ref C) ⟨vs, kw⟩) R s := by
  obtain ⟨hh, g, d, t, os⟩ := s
  exact PySem.W.make_core (PySem.W.makes_of X hm) (PySem.W.looks_findIn X hi) (fun self => PySem.W.bind_fn X self hf) (.inl rfl) h
/-- C() where there is no __init__ but object's -/
theorem make_map0 {R : Result → Shared → Prop} (X : K.In s.heap) (hm : PySem.W.makesIn K C = true)
    (hi : PySem.W.findIn K (.ref C) "__init__" = some (some (.builtin "object.__init__")))
    (hb : ∀ self, PySem.W.Looks (model prog w) s.heap (bindSpecial (.builtin "object.__init__") self) (.builtin "object.__init__", [self]))
    (h : codeAny (model prog w) (A.under (.builtin "type.__call__" ⟨[.ref C], []⟩)) (.call (.builtin "object.__init__") ⟨[.ref (s.heap.objs.size + 1)], []⟩) (PySem.W.InitBack (s.heap.objs.size + 1) R)
      { s with heap := (s.heap.push PySem.W.emptyDict).push (PySem.W.instObj C s.heap.objs.size) }) :
    codeAny (model prog w) A (.call (.ref C) ⟨[], []⟩) R s := by
  obtain ⟨hh, g, d, t, os⟩ := s
  exact PySem.W.make_core (PySem.W.makes_of X hm) (PySem.W.looks_findIn X hi) hb (.inr ⟨rfl, rfl⟩) h
end

/-! ### the attributes as a list of pairs -/
def putF (f : Str) (v : V) : List (Str × V) → List (Str × V)
  | [] => [(f, v)]
  | (g, x) :: r => if g = f then (g, v) :: r else (g, x) :: putF f v r
theorem lookup_putF (f g : Str) (v : V) : ∀ fs : List (Str × V), (putF f v fs).lookup g = if g = f then some v else fs.lookup g
  | [] => by
    show List.lookup g [(f, v)] = _
    by_cases h : g = f
    · have hb : (g == f) = true := beq_iff_eq.mpr h
      simp only [List.lookup, hb, if_pos h]
    · have hb : (g == f) = false := beq_eq_false_iff_ne.mpr h
      simp only [List.lookup, hb, if_neg h]
  | (k, x) :: r => by
    have ih := lookup_putF f g v r
    rw [show putF f v ((k, x) :: r) = (if k = f then (k, v) :: r else (k, x) :: putF f v r) from rfl]
    by_cases hk : k = f
    · rw [if_pos hk]
      by_cases h : g = k
      · have hb : (g == k) = true := beq_iff_eq.mpr h
        simp only [List.lookup, hb, if_pos (h.trans hk)]
      · have hb : (g == k) = false := beq_eq_false_iff_ne.mpr h
        simp only [List.lookup, hb, if_neg (fun e : g = f => h (e.trans hk.symm))]
    · rw [if_neg hk]
      by_cases h : g = k
      · have hb : (g == k) = true := beq_iff_eq.mpr h
        simp only [List.lookup, hb, if_neg (fun e : g = f => hk (h.symm.trans e))]
      · have hb : (g == k) = false := beq_eq_false_iff_ne.mpr h
        simp only [List.lookup, hb]
        exact ih
theorem keys_putF (f : Str) (v : V) : ∀ fs : List (Str × V), f ∈ (putF f v fs).map (·.1) ∧ ∀ g, g ∈ fs.map (·.1) → g ∈ (putF f v fs).map (·.1)
  | [] => ⟨by simp [putF], fun g h => by simp at h⟩
  | (k, x) :: r => by
    obtain ⟨i1, i2⟩ := keys_putF f v r
    rw [show putF f v ((k, x) :: r) = (if k = f then (k, v) :: r else (k, x) :: putF f v r) from rfl]
    by_cases hk : k = f
    · rw [if_pos hk]
      subst hk
      exact ⟨by simp, fun g h => by simpa using h⟩
    · rw [if_neg hk]
      refine ⟨?_, fun g h => ?_⟩
      · rw [List.map_cons]
        exact List.mem_cons_of_mem _ i1
      · rw [List.map_cons] at h ⊢
        rcases List.mem_cons.mp h with e | e
        · exact List.mem_cons.mpr (.inl e)
        · exact List.mem_cons_of_mem _ (i2 g e)
theorem length_putF (f : Str) (v : V) : ∀ fs : List (Str × V), (putF f v fs).length ≤ fs.length + 1
  | [] => by simp [putF]
  | (k, x) :: r => by
    have ih := length_putF f v r
    rw [show putF f v ((k, x) :: r) = (if k = f then (k, v) :: r else (k, x) :: putF f v r) from rfl]
    by_cases hk : k = f
    · rw [if_pos hk, List.length_cons, List.length_cons]; omega
    · rw [if_neg hk, List.length_cons, List.length_cons]; omega

theorem RelO.some_of {v : V} {o : Option Value} (r : RelO (some v) o) : ∃ u, o = some u ∧ RelV v u := by
  cases o with
  | none => exact (show False from r).elim
  | some u => exact ⟨u, rfl, r⟩
theorem RelO.none_of {o : Option Value} (r : RelO none o) : o = none := by
  cases o with
  | none => rfl
  | some u => exact (show False from r).elim
theorem handed_of {v : V} {u : Value} (r : RelV v u) : PySem.W.handedIn u = true := by
  cases v with
  | non => cases (show u = Value.none from r); rfl
  | bl b => cases (show u = Value.bool b from r); rfl
  | int i => obtain ⟨t, e⟩ := (show ∃ t, u = Value.int i t from r); cases e; rfl
  | str x => obtain ⟨t, e⟩ := (show ∃ t, u = Value.str x t from r); cases e; rfl
  | byt b => obtain ⟨t, e⟩ := (show ∃ t, u = Value.bytes b t from r); cases e; rfl
  | flt b => obtain ⟨t, e⟩ := (show ∃ t, u = Value.float b t from r); cases e; rfl
  | ref a => cases (show u = Value.ref a from r); rfl
  | ty n => cases (show u = Value.type n from r); rfl

section
variable {P : Program} {w : World} {H H' : Hp} {h h' : Heap} {a C dx : Addr} {fs fs' : List (Str × V)}
theorem ins_get (hok : HOk P w H h) (e : H a = some (.ins C dx fs)) : ∃ mA, ObjM h a dx C mA ∧ (∀ f, RelO (fs.lookup f) (mA f)) ∧ PySem.Within mA (fs.map (·.1)) ∧ fs.length ≤ 1000 ∧ H dx = some (.own a) := by
  obtain ⟨d, z, ne, ob, mA, n, r, q⟩ := (show ObjOk P w H h a (.ins C dx fs) from hok a _ e)
  exact ⟨mA, ⟨ob, n, ne⟩, r, q, z, d⟩
end

/-! ### what of the text a class must have -/
structure Cls (K : PySem.W.Frag) (C : Addr) : Prop where
  pg : PySem.W.plainGet K C Str.empty = true
  hd : PySem.W.hasDictIn K C = true
  po : PySem.W.plainOver K C = true
  sa : PySem.W.findIn K (.ref C) "__setattr__" = some (some (.builtin "object.__setattr__"))
theorem Cls.get {K : PySem.W.Frag} {C : Addr} (c : Cls K C) (f : Str) : PySem.W.plainGet K C f = true := c.pg
/-- no class of it has the name -/
def NoAttr (K : PySem.W.Frag) (C : Addr) (f : Str) : Prop := PySem.W.findIn K (.ref C) f = some none
theorem NoAttr.taker {K : PySem.W.Frag} {C : Addr} {f : Str} (n : NoAttr K C f) : PySem.W.takerIn K C f = some none := by
  unfold PySem.W.takerIn
  rw [show PySem.W.findIn K (.ref C) f = some none from n]
  rfl
/-- a constant of the class -/
structure Con (K : PySem.W.Frag) (C : Addr) (f : Str) (v : V) (u : Value) : Prop where
  at_ : PySem.W.findIn K (.ref C) f = some (some u)
  rel : RelV v u
  get : PySem.W.specialIn K u "__get__" = some none
  cp : PySem.W.copiedNames.contains f = false
/-- a method: a plain def of the class or of one above it -/
structure Meth (K : PySem.W.Frag) (C : Addr) (m : Str) (f : Addr) : Prop where
  at_ : PySem.W.findIn K (.ref C) m = some (some (.ref f))
  fn : PySem.W.isFn K (.ref f) = true
  kp : PySem.W.keepIn K (.ref f) = true

section
variable {X : Cx} {pins : List (Addr × Obj)} {σ : St} {H : Hp} {s : Shared} {a C dx : Addr} {fs : List (Str × V)} {f : Str} {v : V} {A : Around} {E : Value → Shared → Prop}

theorem getattr_ok {b : Bool} {Q : Value → Shared → Prop} (I : Inv X pins σ H s) (e : H a = some (.ins C dx fs)) (c : Cls X.K C) (n : NoAttr X.K C f) (l : fs.lookup f = some v)
    (h : ∀ u s', Inv X pins σ H s' → RelV v u → Q u s') : wpAny (model X.prog X.w) A (getAttr (.ref a) f b) Q E s := by
  obtain ⟨mA, O, r, _, _, _⟩ := ins_get I.hok e
  obtain ⟨u, hu, ru⟩ := RelO.some_of (v := v) (o := mA f) (by rw [← l]; exact r f)
  exact get_map I.kIn O (c.get f) c.hd n hu (handed_of ru) (h u _ (I.tok _) ru)

theorem getcon_ok {b : Bool} {u : Value} {Q : Value → Shared → Prop} (I : Inv X pins σ H s) (e : H a = some (.ins C dx fs)) (c : Cls X.K C) (k : Con X.K C f v u) (l : fs.lookup f = none)
    (h : ∀ s', Inv X pins σ H s' → Q u s') : wpAny (model X.prog X.w) A (getAttr (.ref a) f b) Q E s := by
  obtain ⟨mA, O, r, _, _, _⟩ := ins_get I.hok e
  have hn : mA f = none := RelO.none_of (by rw [← l]; exact r f)
  exact get_const I.kIn O (c.get f) c.hd k.at_ k.get k.cp hn (handed_of k.rel) (h _ (I.tok _))

theorem getmeth_ok {m : Str} {g : Addr} {pl : Sem Bool} {Q : Value × List Value → Shared → Prop} (I : Inv X pins σ H s) (e : H a = some (.ins C dx fs)) (c : Cls X.K C) (k : Meth X.K C m g) (l : fs.lookup m = none)
    (h : Q (.ref g, [.ref a]) s) : wpAny (model X.prog X.w) A (getMethod (.ref a) m pl) Q E s := by
  obtain ⟨mA, O, r, _, _, _⟩ := ins_get I.hok e
  have hn : mA m = none := RelO.none_of (by rw [← l]; exact r m)
  exact get_meth I.kIn O (c.get m) k.at_ k.fn hn h

theorem setattr_ok {y : V} {u : Value} {Q : Unit → Shared → Prop} (I : Inv X pins σ H s) (e : H a = some (.ins C dx fs)) (c : Cls X.K C) (n : NoAttr X.K C f) (hl : fs.length < 1000) (ry : RelV y u)
    (h : ∀ s', Inv X pins σ (upd H a (.ins C dx (putF f y fs))) s' → Q () s') : wpAny (model X.prog X.w) A (setAttr (.ref a) f u) Q E s := by
  obtain ⟨mA, O, r, wi, _, ho⟩ := ins_get I.hok e
  have hz : (fs.map (·.1)).length ≤ sizeLine := by rw [List.length_map, sizeLine_eq]; omega
  refine set_map I.kIn O c.sa c.po n.taker c.hd wi hz fun h' O' sb => h _ ?_
  have hd : ∃ o, h'.get? dx = some o := let ⟨o, _, _, e', _⟩ := O'.ns; ⟨o, e'⟩
  refine I.write (x := a) (e := dx) (by rw [e]; exact True.intro) (.inr ho) (fun b q hb z => (sb.2 b hb).trans z) hd ?_
  refine ⟨by rw [upd_ne O.ne]; exact ho, ?_, O.ne, O'.obj, _, O'.ns, fun g => ?_, fun g hg => ?_⟩
  · have := length_putF f y fs; omega
  · show RelO ((putF f y fs).lookup g) (if g = f then some u else mA g)
    rw [lookup_putF]
    by_cases q : g = f
    · rw [if_pos q, if_pos q]; exact ry
    · rw [if_neg q, if_neg q]; exact r g
  · by_cases q : g = f
    · rw [q]; exact (keys_putF f y fs).1
    · refine (keys_putF f y fs).2 g (wi g fun z => hg ?_)
      show (if g = f then some u else mA g) = none
      rw [if_neg q]; exact z

/-- a new instance, tracked, without attributes -/
theorem Inv.made (I : Inv X pins σ H s) : Inv X pins σ (upd (upd H s.heap.objs.size (.own (s.heap.objs.size + 1))) (s.heap.objs.size + 1) (.ins C s.heap.objs.size []))
    { s with heap := (s.heap.push PySem.W.emptyDict).push (PySem.W.instObj C s.heap.objs.size) } := by
  have e1 : (s.heap.push PySem.W.emptyDict).get? s.heap.objs.size = some PySem.W.emptyDict := Heap.get?_push_size s.heap rfl
  have e2 : ((s.heap.push PySem.W.emptyDict).push (PySem.W.instObj C s.heap.objs.size)).get? (s.heap.objs.size + 1) = some (PySem.W.instObj C s.heap.objs.size) := by
    have := Heap.get?_push_size (s.heap.push PySem.W.emptyDict) (o := PySem.W.instObj C s.heap.objs.size) rfl
    rwa [Heap.size_push] at this
  have e3 : (s.heap.push PySem.W.emptyDict).Ns s.heap.objs.size (fun _ => none) := ⟨PySem.W.emptyDict, #[], _, e1, rfl, (fun e he => absurd he (by simp)), fun _ => rfl⟩
  have I1 := I.laid (a := s.heap.objs.size) (o := .own (s.heap.objs.size + 1)) (h' := s.heap.push PySem.W.emptyDict) (t' := s.toks) (fun b u q => Heap.get?_push_of_some _ q) (Nat.le_refl _) ⟨_, e1⟩
  refine I1.laid (a := s.heap.objs.size + 1) (o := .ins C s.heap.objs.size []) (t' := s.toks) (fun b u q => Heap.get?_push_of_some _ q) (Nat.le_of_eq (Heap.size_push _ _)) ?_
  have ne : s.heap.objs.size ≠ s.heap.objs.size + 1 := Nat.ne_of_lt (Nat.lt_succ_self _)
  refine ⟨by rw [upd_ne ne, upd_same], Nat.zero_le _, ne, e2, fun _ => none, (Heap.Ns1.of_empty e3).at fun o q => Heap.get?_push_of_some _ q, fun _ => True.intro, fun y hy => absurd rfl hy⟩

/-- e.f where nothing but the object is asked: through attributeBase (super) and the last hold -/
theorem attr_of {prog : Program} {w : World} {env : Env} {e : Expr} {f : Str} {pos : Pos} {s : Shared} {Q : Value → Shared → Prop} (hb : attributeBase e f env (eval e env) = eval e env)
    (h : wpAny (model prog w) A (eval e env) (fun o s₁ => wpAny (model prog w) A (getAttr o f true) Q E s₁) E s) : wpAny (model prog w) A (eval (.Attribute e f pos) env) Q E s :=
  Attribute_any_ h (by rw [arm_eval_Attribute, hb])
end

/-! ### readings and rules -/
/-- e.f, an attribute of the instance -/
def tFld (K : PySem.W.Frag) (ta : TE) (f : Str) : TE := fun σ H Q => ta σ H fun x H1 => ∃ a C dx fs v, x = .ref a ∧ H1 a = some (.ins C dx fs) ∧ Cls K C ∧ NoAttr K C f ∧ fs.lookup f = some v ∧ Q v H1
/-- e.f, a constant of the class -/
def tCon (K : PySem.W.Frag) (ta : TE) (f : Str) : TE := fun σ H Q => ta σ H fun x H1 => ∃ a C dx fs v u, x = .ref a ∧ H1 a = some (.ins C dx fs) ∧ Cls K C ∧ Con K C f v u ∧ fs.lookup f = none ∧ Q v H1
/-- e.f = value -/
def sFld (K : PySem.W.Frag) (ta tv : TE) (f : Str) : TS := fun D σ H => tv σ H fun y H1 => ta σ H1 fun x H2 => ∃ a C dx fs, x = .ref a ∧ H2 a = some (.ins C dx fs) ∧ Cls K C ∧ NoAttr K C f ∧ fs.length < 1000 ∧
  D.nx σ (upd H2 a (.ins C dx (putF f y fs)))
/-- an augmented operator on two values -/
def InOp (X : Cx) (op : Operator) (rd : V → V → Hp → VK → Prop) : Prop :=
  ∀ (pins : List (Addr × Obj)) (s : Shared) (σ : St) (H : Hp) (x y : V) (u v : Value) (Q : VK), Inv X pins σ H s → RelV x u → RelV y v → rd x y H Q → wpAny (model X.prog X.w) X.A (inplaceOp op u v) (EP X pins σ Q) X.xe s
/-- e.f op= value -/
def sFldAug (K : PySem.W.Frag) (ta tv : TE) (rd : V → V → Hp → VK → Prop) (f : Str) : TS := fun D σ H => ta σ H fun x H1 => ∃ a C dx fs v, x = .ref a ∧ H1 a = some (.ins C dx fs) ∧ Cls K C ∧ NoAttr K C f ∧ fs.lookup f = some v ∧
  tv σ H1 fun y H2 => rd v y H2 fun z H3 => ∃ dx' fs', H3 a = some (.ins C dx' fs') ∧ fs'.length < 1000 ∧ D.nx σ (upd H3 a (.ins C dx' (putF f z fs')))

section
variable {X : Cx} {o e value : Expr} {f : Str} {pos pos' tpos : Pos} {ta tv : TE}
theorem pe_fld (he : PE X e ta) (hb : attributeBase e f X.env (eval e X.env) = eval e X.env) : PE X (.Attribute e f pos) (tFld X.K ta f) := by
  intro pins s σ H Q I h
  refine attr_of hb (thn (he pins s σ H _ I h) fun u s1 ⟨x, H1, I1, rx, a, C, dx, fs, v, ex, ea, c, n, l, q⟩ => ?_)
  subst ex
  obtain rfl : u = Value.ref a := rx
  exact getattr_ok I1 ea c n l fun u' s2 I2 ru => ⟨v, H1, I2, ru, q⟩
theorem pe_con (he : PE X e ta) (hb : attributeBase e f X.env (eval e X.env) = eval e X.env) : PE X (.Attribute e f pos) (tCon X.K ta f) := by
  intro pins s σ H Q I h
  refine attr_of hb (thn (he pins s σ H _ I h) fun u s1 ⟨x, H1, I1, rx, a, C, dx, fs, v, u0, ex, ea, c, k, l, q⟩ => ?_)
  subst ex
  obtain rfl : u = Value.ref a := rx
  exact getcon_ok I1 ea c k l fun s2 I2 => ⟨v, H1, I2, k.rel, q⟩
theorem ps_fld (ha : PE X o ta) (hv : PE X value tv) (hs : swapsWith value (some (.Attribute o f pos')) pos.line X.env = pure false) : PS X (.Assign [.Attribute o f pos'] value pos) (sFld X.K ta tv f) := by
  intro pins s σ H D I h
  refine plainObj_wpAny_Assign_Attribute (thn (hv pins s σ H _ I h) fun u s1 ⟨y, H1, I1, ry, q⟩ => thn (ha pins s1 σ H1 _ I1 q) fun ov s2 ⟨x, H2, I2, rx, a, C, dx, fs, ex, ea, c, n, l, q2⟩ => ?_) hs
  subst ex
  obtain rfl : ov = Value.ref a := rx
  exact setattr_ok I2 ea c n l ry fun s3 I3 => ⟨σ, _, I3, q2⟩
theorem ps_fldaug {op : Operator} {rd : V → V → Hp → VK → Prop} (ha : PE X o ta) (hv : PE X value tv) (hop : InOp X op rd) : PS X (.AugAssign (.Attribute o f tpos) op value pos) (sFldAug X.K ta tv rd f) := by
  intro pins s σ H D I h
  refine wpAny_AugAssign_AttributeAny (thn (ha pins s σ H _ I h) fun ov s1 ⟨x, H1, I1, rx, a, C, dx, fs, v, ex, ea, c, n, l, q⟩ => ?_)
  subst ex
  obtain rfl : ov = Value.ref a := rx
  refine getattr_ok I1 ea c n l fun u s2 I2 ru => thn (hv pins s2 σ H1 _ I2 q) fun w3 s3 ⟨y, H2, I3, ry, q3⟩ => thn (hop pins s3 σ H2 v y u w3 _ I3 ru ry q3) fun w4 s4 ⟨z, H3, I4, rz, dx', fs', ea', l', q4⟩ => ?_
  exact setattr_ok I4 ea' c n l' rz fun s5 I5 => ⟨σ, _, I5, q4⟩
def rAdd : V → V → Hp → VK → Prop := fun x y H Q => ∃ i j, x = .int i ∧ y = .int j ∧ Q (.int (i + j)) H
def rSub : V → V → Hp → VK → Prop := fun x y H Q => ∃ i j, x = .int i ∧ y = .int j ∧ Q (.int (i - j)) H
theorem in_add : InOp X .Add rAdd := by
  rintro pins s σ H x y u v Q I rx ry ⟨i, j, rfl, rfl, q⟩
  obtain ⟨t, rfl⟩ := (show ∃ t, u = Value.int i t from rx)
  obtain ⟨t', rfl⟩ := (show ∃ t', v = Value.int j t' from ry)
  exact PyProof.Rows.iadd_int ⟨.int (i + j), H, I.tok _, ⟨_, rfl⟩, q⟩
theorem in_sub : InOp X .Sub rSub := by
  rintro pins s σ H x y u v Q I rx ry ⟨i, j, rfl, rfl, q⟩
  obtain ⟨t, rfl⟩ := (show ∃ t, u = Value.int i t from rx)
  obtain ⟨t', rfl⟩ := (show ∃ t', v = Value.int j t' from ry)
  exact PyProof.Rows.isub_int ⟨.int (i - j), H, I.tok _, ⟨_, rfl⟩, q⟩

/-- what is between an instance and its method: the tree of a method call -/
theorem methcall_of {pl : Sem Bool} {m : Str} {apos : Pos} {args : List Expr} {pins : List (Addr × Obj)} {s : Shared} {σ : St} {H : Hp} {Q : Value → Shared → Prop} {te : TE} (he : PE X e te) (I : Inv X pins σ H s)
    (h : te σ H fun x H1 => ∃ a C dx fs g, x = .ref a ∧ H1 a = some (.ins C dx fs) ∧ Cls X.K C ∧ Meth X.K C m g ∧ fs.lookup m = none ∧
      ∀ s1, Inv X pins σ H1 s1 → wpAny (model X.prog X.w) X.A (callWith pos (.ref g) [.ref a] (backTo pos (starEach args X.env)) (backToKw pos (keywordEach [] X.env))) Q X.xe s1)
    (ht : eval (.Call (.Attribute e m apos) args [] pos) X.env = (do
      let ov ← eval e X.env
      standAt apos.atName
      let (f, first) ← holding [ov] (getMethod ov m pl)
      callWith pos f first (backTo pos (starEach args X.env)) (backToKw pos (keywordEach [] X.env)))) :
    wpAny (model X.prog X.w) X.A (eval (.Call (.Attribute e m apos) args [] pos) X.env) Q X.xe s := by
  refine PySem.W.methodCall_KW (pl := pl) (thn (he pins s σ H _ I h) fun u s1 ⟨x, H1, I1, rx, a, C, dx, fs, g, ex, ea, c, k, l, q⟩ => ?_) ht
  subst ex
  obtain rfl : u = Value.ref a := rx
  exact getmeth_ok I1 ea c k l (q s1 I1)
end

/-! ### isinstance -/
section
variable {X : Cx} {pins : List (Addr × Obj)} {σ : St} {H : Hp} {s : Shared} {A : Around} {E : Value → Shared → Prop} {Q : Value → Shared → Prop} {c : Value} {b : Bool}
/-- the type of a value, as the fragment's deciders take it; for an instance its class -/
inductive TyOf (K : PySem.W.Frag) (H : Hp) : V → Value → Prop where
  | non : TyOf K H .non (.type "NoneType")
  | bl (x : Bool) : TyOf K H (.bl x) (.type "bool")
  | int (i : Int) : TyOf K H (.int i) (.type "int")
  | str (x : Str) : TyOf K H (.str x) (.type "str")
  | flt (x : UInt64) : TyOf K H (.flt x) (.type "float")
  | lst {a : Addr} {xs : List V} (e : H a = some (.lst xs)) : TyOf K H (.ref a) (.type "list")
  | frz {a : Addr} {o : Obj} {xs : List V} (e : H a = some (.frz o (.lst xs))) : TyOf K H (.ref a) (.type "list")
  | tup {a : Addr} {xs : List V} (e : H a = some (.tup xs)) : TyOf K H (.ref a) (.type "tuple")
  | dK {a : Addr} {kvs : List (Key × V)} (e : H a = some (.dK kvs)) : TyOf K H (.ref a) (.type "dict")
  | dT {a : Addr} {kvs : List (List Key × V)} (e : H a = some (.dT kvs)) : TyOf K H (.ref a) (.type "dict")
  | ins {a C dx : Addr} {fs : List (Str × V)} (e : H a = some (.ins C dx fs)) (cl : Cls K C) (ha : PySem.W.findIn K (.ref C) "__class__" = some (some (.builtin "object.__class__")))
      (hn : PySem.W.specialIn K (.builtin "object.__class__") "__get__" = some (some (.builtin "getset_descriptor.__get__"))) (htk : PySem.W.takesIn K (.builtin "object.__class__") = some true)
      (hm : PySem.W.mroIn K C (.type "object") = some true) : TyOf K H (.ref a) (.ref C)
/-- isinstance(x, c) for one class c, a built-in or an own one: kitOne's answer -/
theorem isinst_ok {x : V} {u t : Value} (I : Inv X pins σ H s) (rx : RelV x u) (ty : TyOf X.K H x t) (e : PySem.W.kitOne X.K t c = some b) (h : ∀ tk, Q (.bool b) { s with toks := tk }) :
    wpAny (model X.prog X.w) A (call (.builtin "isinstance") [u, c]) Q E s := by
  cases ty with
  | non => cases (show u = Value.none from rx); exact PySem.W.kia_one PySem.W.kitx_none I.kIn True.intro e (fun z => nomatch z) h
  | bl y => cases (show u = Value.bool y from rx); exact PySem.W.kia_one PySem.W.kitx_bool I.kIn True.intro e (fun z => nomatch z) h
  | int i => obtain ⟨t, q⟩ := (show ∃ t, u = Value.int i t from rx); cases q; exact PySem.W.kia_one PySem.W.kitx_int I.kIn True.intro e (fun z => nomatch z) h
  | str y => obtain ⟨t, q⟩ := (show ∃ t, u = Value.str y t from rx); cases q; exact PySem.W.kia_one PySem.W.kitx_str I.kIn True.intro e (fun z => nomatch z) h
  | flt y => obtain ⟨t, q⟩ := (show ∃ t, u = Value.float y t from rx); cases q; exact PySem.W.kia_one PySem.W.kitx_float I.kIn True.intro e (fun z => nomatch z) h
  | @lst a xs ea =>
    cases (show u = Value.ref a from rx)
    obtain ⟨_, _, n, _, h1⟩ := (show ObjOk X.prog X.w H s.heap a (.lst xs) from I.hok a _ ea)
    exact PySem.W.kia_one PySem.W.kitx_list I.kIn ⟨_, h1, rfl⟩ e (fun z => nomatch z) h
  | @frz a ob xs ea =>
    cases (show u = Value.ref a from rx)
    obtain ⟨_, _, _, n, _, h1⟩ := (show ObjOk X.prog X.w H s.heap a (.frz ob (.lst xs)) from I.hok a _ ea)
    exact PySem.W.kia_one PySem.W.kitx_list I.kIn ⟨_, h1, rfl⟩ e (fun z => nomatch z) h
  | @tup a xs ea =>
    cases (show u = Value.ref a from rx)
    obtain ⟨_, _, _, p⟩ := (show ObjOk X.prog X.w H s.heap a (.tup xs) from I.hok a _ ea)
    obtain ⟨o, h1, h2, _⟩ := p
    exact PySem.W.kia_one PySem.W.kitx_tuple I.kIn ⟨o, h1, h2⟩ e (fun z => nomatch z) h
  | @dK a kvs ea =>
    cases (show u = Value.ref a from rx)
    obtain ⟨_, _, vs, _, p⟩ := (show ObjOk X.prog X.w H s.heap a (.dK kvs) from I.hok a _ ea)
    obtain ⟨o, es, ep, h1, h2, _⟩ := p
    exact PySem.W.kia_one PySem.W.kitx_dict I.kIn ⟨o, h1, h2.1⟩ e (fun z => nomatch z) h
  | @dT a kvs ea =>
    cases (show u = Value.ref a from rx)
    obtain ⟨_, _, xs, _, o, es, ep, h1, h2, _⟩ := (show ObjOk X.prog X.w H s.heap a (.dT kvs) from I.hok a _ ea)
    exact PySem.W.kia_one PySem.W.kitx_dict I.kIn ⟨o, h1, h2.1⟩ e (fun z => nomatch z) h
  | @ins a C dx fs ea cl ha hn htk hm =>
    cases (show u = Value.ref a from rx)
    obtain ⟨mA, O, _⟩ := ins_get I.hok ea
    obtain ⟨od, J, _⟩ := O.look
    exact PySem.W.kia_one (PySem.W.kitx_own (cl.get _) cl.hd ha hn htk hm) I.kIn J e (fun z => nomatch z) h
end
end L2

namespace L2
open PySem PySem.Spec PyProof.Rows

/-! ### room -/
structure Room (k : Nat) (A : Around) : Prop where
  hd : A.handled = none
  dp : A.depth + 3 * k + 5 < recursionLimit
  un : A.units + 16 * k + 200 < cLine
theorem Room.mono {j k : Nat} {A : Around} (r : Room k A) (h : j ≤ k) : Room j A := ⟨r.hd, by have := r.dp; omega, by have := r.un; omega⟩
theorem Room.deeper {k : Nat} {A : Around} (r : Room (k + 1) A) (env : Env) : Room k (A.deeper env) :=
  ⟨r.hd, by have := r.dp; show A.depth + 1 + 3 * k + 5 < _; omega, by have := r.un; show A.units + 3 + 16 * k + 200 < _; omega⟩
theorem Room.in1 {k : Nat} {A : Around} (r : Room (k + 1) A) : Room k A.in1 :=
  ⟨r.hd, by have := r.dp; show A.depth + 3 * k + 5 < _; omega, by have := r.un; show A.units + 1 + 16 * k + 200 < _; omega⟩
theorem make_depth {A : Around} {C : Addr} {us : List Value} {kw : List (Str × Value)} : (A.under (.builtin "type.__call__" ⟨.ref C :: us, kw⟩)).depth = A.depth + 1 := by
  first | rfl | simp [Around.under, Code.weight, Code.isCreation, Code.isGuard, Code.isCaller, Code.frames, Code.isFrame, guardIds]
theorem make_units {A : Around} {C : Addr} {us : List Value} {kw : List (Str × Value)} : (A.under (.builtin "type.__call__" ⟨.ref C :: us, kw⟩)).units = A.units + 1 := by
  first | rfl | simp [Around.under, Code.cUnits, Code.frames, Code.isFrame]
theorem Room.make {k : Nat} {A : Around} (r : Room (k + 1) A) (C : Addr) (us : List Value) (kw : List (Str × Value)) : Room k (A.under (.builtin "type.__call__" ⟨.ref C :: us, kw⟩)) :=
  ⟨r.hd, by have := r.dp; rw [make_depth]; omega, by have := r.un; rw [make_units]; omega⟩
theorem Room.depth {k : Nat} {A : Around} (r : Room k A) : A.depth < recursionLimit := by have := r.dp; omega
theorem Room.units {k : Nat} {A : Around} (r : Room k A) : A.units + 64 < cLine := by have := r.un; omega
theorem Room.units0 {k : Nat} {A : Around} (r : Room k A) : A.units < cLine := by have := r.un; omega

/-! ### argument lists and displays -/
def tNil : TA := fun _ H Q => Q [] H
def tCons (ta : TE) (tr : TA) : TA := fun σ H Q => ta σ H fun x H1 => tr σ H1 fun xs H2 => Q (x :: xs) H2
section
variable {X : Cx} {e : Expr} {es : List Expr} {te : TE} {t : TA} {pos : Pos}
theorem pa_nil : PA X [] tNil := fun _ _ _ _ H Q I h => Calls.spliced_nil ⟨[], H, I, .nil, h⟩
theorem pa_cons (ha : PE X e te) (hr : PA X es t) (hs : starEach (e :: es) X.env = (false, eval e X.env) :: starEach es X.env := by rfl) : PA X (e :: es) (tCons te t) := by
  intro pos pins s σ H Q I h
  rw [hs]
  show wpAny _ _ (spliced ((false, eval e X.env) :: backTo pos (starEach es X.env))) _ _ s
  refine Calls.spliced_cons (thn (ha pins s σ H _ I h) fun u s1 ⟨x, H1, I1, r1, q1⟩ => ?_)
  exact thn (hr pos pins s1 σ H1 _ I1 q1) fun us s2 ⟨xs, H2, I2, r2, q2⟩ => ⟨x :: xs, H2, I2, .cons r1 r2, q2⟩

/-- a tuple, a list of written items -/
def tTup (t : TA) : TE := fun σ H Q => t σ H fun xs H1 => xs.length ≤ sizeLine ∧ ∀ p, H1 p = none → Q (.ref p) (upd H1 p (.tup xs))
def tLst (t : TA) : TE := fun σ H Q => t σ H fun xs H1 => xs.length ≤ sizeLine ∧ ∀ p, H1 p = none → Q (.ref p) (upd H1 p (.lst xs))
theorem pe_tup {x1} (h : PA X es t) : PE X (.Tuple es x1 pos) (tTup t) := by
  intro pins s σ H Q I hq
  refine wpAny_Tuple_spliced (thn (h pos pins s σ H _ I hq) fun us s1 ⟨xs, H1, I1, r, z, q⟩ => ⟨by rw [← r.length]; exact z, ?_⟩)
  have hf : H1 s1.heap.objs.size = none := I1.hok.fresh (Nat.le_refl _)
  refine ⟨.ref s1.heap.objs.size, upd H1 s1.heap.objs.size (.tup xs), I1.laid (t' := s1.toks) (fun b u e => Heap.get?_push_of_some _ e) (Nat.le_refl _) ?_, rfl, q _ hf⟩
  exact ⟨z, us, r, ⟨_, Heap.get?_push_size _ rfl, rfl, _, rfl⟩⟩
theorem pe_lst (h : PA X es t) : PE X (.List es pos) (tLst t) := by
  intro pins s σ H Q I hq
  refine wpAny_List_spliced (thn (h pos pins s σ H _ I hq) fun us s1 ⟨xs, H1, I1, r, z, q⟩ => ⟨by rw [← r.length]; exact z, ?_⟩)
  have hf : H1 s1.heap.objs.size = none := I1.hok.fresh (Nat.le_refl _)
  refine ⟨.ref s1.heap.objs.size, upd H1 s1.heap.objs.size (.lst xs), I1.laid (t' := s1.toks) (fun b u e => Heap.get?_push_of_some _ e) (Nat.le_refl _) ?_, rfl, q _ hf⟩
  exact ⟨z, us, 0, r, Heap.get?_push_size _ rfl⟩
end

/-! ### what a def promises -/
/-- a def's promise: the bound arguments in the parameters' order, the heap, the wanted end, the wanted exception -/
abbrev Sp := List V → Hp → VK → XK → Prop
/-- how an exception lies behind a call (file 08 gives it): the callers' frames, abstract heap and state ahead of the call, the wish, the exception, the state -/
abbrev CXT := List Env → Hp → Shared → XK → Value → Shared → Prop

/-- the state at a call -/
structure Env0 (P : Program) (w : World) (K : PySem.W.Frag) (mg : Str → Option Value) (base : Heap) (A : Around) (outer : List Env) (s : Shared) (H : Hp) : Prop where
  frames : A.frames = some outer
  mod : Mod K mg base
  bs : ∀ b o, base.get? b = some o → s.heap.get? b = some o ∧ H b = none
  bsz : base.objs.size ≤ s.heap.objs.size
  funs : s.heap.FunFrames base outer
  frf : ∀ b ∈ frs outer, H b = none
  hok : HOk P w H s.heap
  bare : AllBare s.gens
/-- a call's end -/
def CE (outer : List Env) (P : Program) (w : World) (H : Hp) (s : Shared) (Q : VK) (u : Value) (s' : Shared) : Prop :=
  ∃ v H', s'.os = s.os ∧ AllBare s'.gens ∧ Un (frs outer) [] H H' s.heap s'.heap ∧ HOk P w H' s'.heap ∧ RelV v u ∧ Q v H'
def CR (CX : CXT) (outer : List Env) (P : Program) (w : World) (H : Hp) (s : Shared) (Q : VK) (E : XK) (r : Result) (s' : Shared) : Prop :=
  match r with
  | .ok (.ret u) => CE outer P w H s Q u s'
  | .ok _ => False
  | .error e => CX outer H s E e s'
structure FnOk (P : Program) (w : World) (K : PySem.W.Frag) (mg : Str → Option Value) (base : Heap) (CX : CXT) (k : Nat) (f : Addr) (fd : FuncData) (ps : List Str) (sp : Sp) : Prop where
  len : ∀ vs H Q E, sp vs H Q E → vs.length = ps.length
  run : ∀ (A : Around) (outer : List Env) (s : Shared) (H : Hp) (args : Args) (us : List Value) (vs : List V) (Q : VK) (E : XK), Room k A → Env0 P w K mg base A outer s H → BindsTo s fd args (ps.zip us) → Vals vs us → sp vs H Q E →
    codeAny (model P w) A (.call (.ref f) args) (CR CX outer P w H s Q E) s
theorem FnOk.mono {P : Program} {w : World} {K : PySem.W.Frag} {mg : Str → Option Value} {base : Heap} {CX : CXT} {j k : Nat} {f : Addr} {fd : FuncData} {ps : List Str} {sp : Sp} (F : FnOk P w K mg base CX j f fd ps sp) (h : j ≤ k) :
    FnOk P w K mg base CX k f fd ps sp := ⟨F.len, fun A outer s H args us vs Q E hr => F.run A outer s H args us vs Q E (hr.mono h)⟩
/-- a weaker promise -/
theorem FnOk.imp {P : Program} {w : World} {K : PySem.W.Frag} {mg : Str → Option Value} {base : Heap} {CX : CXT} {k : Nat} {f : Addr} {fd : FuncData} {ps : List Str} {sp sp' : Sp} (F : FnOk P w K mg base CX k f fd ps sp)
    (h : ∀ vs H Q E, sp' vs H Q E → sp vs H Q E) : FnOk P w K mg base CX k f fd ps sp' :=
  ⟨fun vs H Q E q => F.len vs H Q E (h _ _ _ _ q), fun A outer s H args us vs Q E hr he hb hv hs => F.run A outer s H args us vs Q E hr he hb hv (h _ _ _ _ hs)⟩

theorem Env0.make {P : Program} {w : World} {K : PySem.W.Frag} {mg : Str → Option Value} {base : Heap} {A : Around} {outer : List Env} {s : Shared} {H : Hp} (e : Env0 P w K mg base A outer s H) (C : Addr) (us : List Value) (kw : List (Str × Value)) :
    Env0 P w K mg base (A.under (.builtin "type.__call__" ⟨.ref C :: us, kw⟩)) outer s H := ⟨by first | exact e.frames | (simpa [Around.under, Code.envs, Code.isFrame, pushEnvs] using e.frames), e.mod, e.bs, e.bsz, e.funs, e.frf, e.hok, e.bare⟩
theorem Env0.in1 {P : Program} {w : World} {K : PySem.W.Frag} {mg : Str → Option Value} {base : Heap} {A : Around} {outer : List Env} {s : Shared} {H : Hp} (e : Env0 P w K mg base A outer s H) :
    Env0 P w K mg base A.in1 outer s H := ⟨e.frames, e.mod, e.bs, e.bsz, e.funs, e.frf, e.hok, e.bare⟩

section
variable {X : Cx} {pins : List (Addr × Obj)} {σ : St} {H : Hp} {s s' : Shared}
/-- from a body: what a callee wants -/
theorem Inv.env0 (I : Inv X pins σ H s) : Env0 X.prog X.w X.K X.mg X.base X.A X.stack s H :=
  ⟨I.ok.frames, I.ok.mod, I.bs, Nat.le_trans I.ok.bsz I.sz, I.stack, I.stkFree, I.hok, I.bare⟩
/-- behind a call -/
theorem Inv.after {Q : VK} {u : Value} (I : Inv X pins σ H s) (h : CE X.stack X.prog X.w H s Q u s') : EP X pins σ Q u s' := by
  obtain ⟨v, H', os, bare, un, hok, r, q⟩ := h
  obtain ⟨hh, g, d, t, os'⟩ := s'
  obtain rfl : os' = s.os := os
  exact ⟨v, H', I.call (h' := hh) (g' := g) (d' := d) (t' := t) (ch := []) un hok bare (fun b z => absurd z (by simp)), r, q⟩
end

/-! ### calls -/
/-- f(..): the written arguments, then the defaults dvs; E: what is wanted of an exception -/
def tCall (sp : Sp) (dvs : List V) (E : XK) (t : TA) : TE := fun σ H Q => t σ H fun vs H1 => sp (vs ++ dvs) H1 Q E
/-- o.m(..) of an instance of the class at C -/
def tMeth (C : Addr) (m : Str) (sp : Sp) (dvs : List V) (E : XK) (ta : TE) (t : TA) : TE := fun σ H Q => ta σ H fun x H1 => ∃ a dx fs, x = .ref a ∧ H1 a = some (.ins C dx fs) ∧ fs.lookup m = none ∧
  t σ H1 fun vs H2 => sp (x :: (vs ++ dvs)) H2 Q E
/-- C(..): a new instance and its dict, then __init__ -/
def tMake (C : Addr) (sp : Sp) (dvs : List V) (E : XK) (t : TA) : TE := fun σ H Q => t σ H fun vs H1 => ∀ x dx, H1 x = none → H1 dx = none → dx ≠ x →
  sp (.ref x :: (vs ++ dvs)) (upd (upd H1 dx (.own x)) x (.ins C dx [])) (fun v H2 => v = .non ∧ Q (.ref x) H2) E

/-- how the parameters are bound: us the positional arguments, kw the keywords' values by name, ds the defaults that fill up -/
def Binds (K : PySem.W.Frag) (fd : FuncData) (ps : List Str) (ds : List Value) : Prop :=
  ∀ (s : Shared) (us : List Value), K.In s.heap → (us ++ ds).length = ps.length → BindsTo s fd ⟨us, []⟩ (ps.zip (us ++ ds))
/-- every parameter is given -/
theorem Binds.all {K : PySem.W.Frag} {fd : FuncData} {ps : List Str} (h : ∀ us : List Value, us.length = ps.length → bindArgs fd ⟨us, []⟩ = pure (ps.zip us)) : Binds K fd ps [] := fun s us _ hl => by
  rw [List.append_nil] at hl ⊢
  exact .of_eq (h us hl)

/-- an exception of a callee reaches what this body wants of exceptions -/
def Passes (CX : CXT) (X : Cx) (E : XK) : Prop := ∀ (pins : List (Addr × Obj)) (σ : St) (H : Hp) (s : Shared) (e : Value) (s' : Shared), Inv X pins σ H s → CX X.stack H s E e s' → X.xe e s'

section
variable {X : Cx} {CX : CXT} {k : Nat} {f C : Addr} {fd : FuncData} {ps : List Str} {sp : Sp} {dvs : List V} {ds : List Value} {E : XK} {x m : Str} {p pos apos : Pos} {e o : Expr} {es : List Expr} {ta : TE} {t : TA}

/-- the callee runs -/
theorem run_fn {pins : List (Addr × Obj)} {σ : St} {H : Hp} {s : Shared} {Q : VK} {us : List Value} {vs : List V} (F : FnOk X.prog X.w X.K X.mg X.base CX k f fd ps sp) (hr : Room k X.A) (hb : Binds X.K fd ps ds) (hd : Vals dvs ds) (hx : Passes CX X E)
    (I : Inv X pins σ H s) (r : Vals vs us) (h : sp (vs ++ dvs) H Q E) : wpAny (model X.prog X.w) X.A (call (.ref f) us) (EP X pins σ Q) X.xe s := by
  have r2 : Vals (vs ++ dvs) (us ++ ds) := r.append hd
  have hl : (us ++ ds).length = ps.length := by rw [← r2.length]; exact F.len _ _ _ _ h
  refine wpAny_call (codeAny_mono (F.run X.A X.stack s H ⟨us, []⟩ (us ++ ds) (vs ++ dvs) Q E hr I.env0 (hb s us I.kIn hl) r2 h) fun r s' hq => ?_)
  cases r with
  | error e => exact hx pins σ H s e s' I hq
  | ok fl =>
    cases fl with
    | ret u => exact I.after hq
    | next => exact False.elim hq
    | brk => exact False.elim hq
    | cont => exact False.elim hq

theorem pe_call (F : FnOk X.prog X.w X.K X.mg X.base CX k f fd ps sp) (hr : Room k X.A) (hg : Gl X x) (hm : X.mg x = some (.ref f)) (hk : PySem.W.keepIn X.K (.ref f) = true) (hb : Binds X.K fd ps ds) (hd : Vals dvs ds) (hx : Passes CX X E)
    (ha : PA X (e :: es) t) (hdb : (x == ("__debug__" : Str)) = false := by decide) (he : starEach (e :: es) X.env = (false, eval e X.env) :: starEach es X.env := by rfl) (hpl : (backTo pos (starEach es X.env)).any (·.1) = false := by rfl) :
    PE X (.Call (.Name x p) (e :: es) [] pos) (tCall sp dvs E t) := by
  intro pins s σ H Q I h
  refine wpAny_Call_Name_kw (ld_glob I hg hm ?_ hdb)
  refine PySem.W.callWith_K (h₀ := X.base) I.ok.mod.kin hk (thn (ha pos pins s σ H _ I h) fun us s1 ⟨vs, H1, I1, r, q⟩ => ⟨I1.kIn, ?_⟩) he hpl
  exact run_fn F hr hb hd hx I1 r q
theorem pe_call0 (F : FnOk X.prog X.w X.K X.mg X.base CX k f fd ps sp) (hr : Room k X.A) (hg : Gl X x) (hm : X.mg x = some (.ref f)) (hk : PySem.W.keepIn X.K (.ref f) = true) (hb : Binds X.K fd ps ds) (hd : Vals dvs ds) (hx : Passes CX X E)
    (hdb : (x == ("__debug__" : Str)) = false := by decide) : PE X (.Call (.Name x p) [] [] pos) (tCall sp dvs E tNil) := by
  intro pins s σ H Q I h
  refine wpAny_Call_Name_kw (ld_glob I hg hm ?_ hdb)
  exact PySem.W.callWith_K0 I.kIn hk (run_fn (us := []) F hr hb hd hx I .nil h)

/-- o.m(e, ..) -/
theorem pe_meth {pl : Sem Bool} (he : PE X o ta) (c : Cls X.K C) (hm : Meth X.K C m f) (F : FnOk X.prog X.w X.K X.mg X.base CX k f fd ps sp) (hr : Room k X.A) (hb : Binds X.K fd ps ds) (hd : Vals dvs ds) (hx : Passes CX X E) (ha : PA X (e :: es) t)
    (hst : starEach (e :: es) X.env = (false, eval e X.env) :: starEach es X.env := by rfl) (hpl : (backTo pos (starEach es X.env)).any (·.1) = false := by rfl)
    (ht : eval (.Call (.Attribute o m apos) (e :: es) [] pos) X.env = (do
      let ov ← eval o X.env
      standAt apos.atName
      let (f, first) ← holding [ov] (getMethod ov m pl)
      callWith pos f first (backTo pos (starEach (e :: es) X.env)) (backToKw pos (keywordEach [] X.env))) := by rfl) :
    PE X (.Call (.Attribute o m apos) (e :: es) [] pos) (tMeth C m sp dvs E ta t) := by
  intro pins s σ H Q I h
  refine PySem.W.methodCall_KW (pl := pl) (thn (he pins s σ H _ I h) fun u s1 ⟨x, H1, I1, rx, a, dx, fs, ex, ea, l, q⟩ => ?_) ht
  subst ex
  obtain rfl : u = Value.ref a := rx
  refine getmeth_ok I1 ea c hm l ?_
  refine PySem.W.callWith_K (first := [.ref a]) (h₀ := X.base) I.ok.mod.kin hm.kp (thn (ha pos pins s1 σ H1 _ I1 q) fun us s2 ⟨vs, H2, I2, r, q2⟩ => ⟨I2.kIn, ?_⟩) hst hpl
  exact run_fn (us := .ref a :: us) (vs := .ref a :: vs) F hr hb hd hx I2 (.cons rfl r) q2
/-- o.m() -/
theorem pe_meth0 {pl : Sem Bool} (he : PE X o ta) (c : Cls X.K C) (hm : Meth X.K C m f) (F : FnOk X.prog X.w X.K X.mg X.base CX k f fd ps sp) (hr : Room k X.A) (hb : Binds X.K fd ps ds) (hd : Vals dvs ds) (hx : Passes CX X E)
    (ht : eval (.Call (.Attribute o m apos) [] [] pos) X.env = (do
      let ov ← eval o X.env
      standAt apos.atName
      let (f, first) ← holding [ov] (getMethod ov m pl)
      callWith pos f first (backTo pos (starEach [] X.env)) (backToKw pos (keywordEach [] X.env))) := by rfl) :
    PE X (.Call (.Attribute o m apos) [] [] pos) (tMeth C m sp dvs E ta tNil) := by
  intro pins s σ H Q I h
  refine PySem.W.methodCall_KW (pl := pl) (thn (he pins s σ H _ I h) fun u s1 ⟨x, H1, I1, rx, a, dx, fs, ex, ea, l, q⟩ => ?_) ht
  subst ex
  obtain rfl : u = Value.ref a := rx
  refine getmeth_ok I1 ea c hm l ?_
  exact PySem.W.callWith_K0 (first := [.ref a]) I1.kIn hm.kp (run_fn (us := [.ref a]) (vs := [.ref a]) F hr hb hd hx I1 (.cons rfl .nil) q)

/-- what a class must have to be made -/
structure Mk (K : PySem.W.Frag) (C f : Addr) : Prop where
  makes : PySem.W.makesIn K C = true
  init : PySem.W.findIn K (.ref C) "__init__" = some (some (.ref f))
  fn : PySem.W.isFn K (.ref f) = true
  kp : PySem.W.keepIn K (.ref C) = true

theorem run_make {pins : List (Addr × Obj)} {σ : St} {H : Hp} {s : Shared} {Q : VK} {us : List Value} {vs : List V} (M : Mk X.K C f) (F : FnOk X.prog X.w X.K X.mg X.base CX k f fd ps sp) (hr : Room (k + 1) X.A) (hb : Binds X.K fd ps ds) (hd : Vals dvs ds)
    (hx : Passes CX X E) (I : Inv X pins σ H s) (r : Vals vs us)
    (h : ∀ x dx, H x = none → H dx = none → dx ≠ x → sp (.ref x :: (vs ++ dvs)) (upd (upd H dx (.own x)) x (.ins C dx [])) (fun v H2 => v = .non ∧ Q (.ref x) H2) E) :
    wpAny (model X.prog X.w) X.A (call (.ref C) us) (EP X pins σ Q) X.xe s := by
  have hq := h (s.heap.objs.size + 1) s.heap.objs.size (I.hok.fresh (Nat.le_succ _)) (I.hok.fresh (Nat.le_refl _)) (Nat.ne_of_lt (Nat.lt_succ_self _))
  have I2 := Inv.made (C := C) I
  have r2 : Vals (V.ref (s.heap.objs.size + 1) :: (vs ++ dvs)) (Value.ref (s.heap.objs.size + 1) :: (us ++ ds)) := .cons rfl (r.append hd)
  have hl : (Value.ref (s.heap.objs.size + 1) :: us ++ ds).length = ps.length := by
    have e := r2.length
    rw [F.len _ _ _ _ hq] at e
    exact e.symm
  refine wpAny_call (make_map (f := f) I.kIn M.makes M.init (beq_iff_eq.mp M.fn) (codeAny_mono (F.run _ X.stack _ _ ⟨Value.ref (s.heap.objs.size + 1) :: us, []⟩ (Value.ref (s.heap.objs.size + 1) :: (us ++ ds)) _ _ E (hr.make C us [])
    (I2.env0.make C us []) (hb _ (Value.ref (s.heap.objs.size + 1) :: us) I2.kIn hl) r2 hq) fun r s' hq' => ?_))
  cases r with
  | error e => exact hx pins σ _ _ e s' I2 hq'
  | ok fl =>
    cases fl with
    | ret u =>
      obtain ⟨v, H', I3, rv, ev, q3⟩ := I2.after hq'
      subst ev
      exact ⟨rv, ⟨V.ref (s.heap.objs.size + 1), H', I3, rfl, q3⟩⟩
    | next => exact False.elim hq'
    | brk => exact False.elim hq'
    | cont => exact False.elim hq'
theorem pe_make (M : Mk X.K C f) (F : FnOk X.prog X.w X.K X.mg X.base CX k f fd ps sp) (hr : Room (k + 1) X.A) (hg : Gl X x) (hm : X.mg x = some (.ref C)) (hb : Binds X.K fd ps ds) (hd : Vals dvs ds) (hx : Passes CX X E)
    (ha : PA X (e :: es) t) (hdb : (x == ("__debug__" : Str)) = false := by decide) (he : starEach (e :: es) X.env = (false, eval e X.env) :: starEach es X.env := by rfl) (hpl : (backTo pos (starEach es X.env)).any (·.1) = false := by rfl) :
    PE X (.Call (.Name x p) (e :: es) [] pos) (tMake C sp dvs E t) := by
  intro pins s σ H Q I h
  refine wpAny_Call_Name_kw (ld_glob I hg hm ?_ hdb)
  refine PySem.W.callWith_K (h₀ := X.base) I.ok.mod.kin M.kp (thn (ha pos pins s σ H _ I h) fun us s1 ⟨vs, H1, I1, r, q⟩ => ⟨I1.kIn, ?_⟩) he hpl
  exact run_make M F hr hb hd hx I1 r q
theorem pe_make0 (M : Mk X.K C f) (F : FnOk X.prog X.w X.K X.mg X.base CX k f fd ps sp) (hr : Room (k + 1) X.A) (hg : Gl X x) (hm : X.mg x = some (.ref C)) (hb : Binds X.K fd ps ds) (hd : Vals dvs ds) (hx : Passes CX X E)
    (hdb : (x == ("__debug__" : Str)) = false := by decide) : PE X (.Call (.Name x p) [] [] pos) (tMake C sp dvs E tNil) := by
  intro pins s σ H Q I h
  refine wpAny_Call_Name_kw (ld_glob I hg hm ?_ hdb)
  exact PySem.W.callWith_K0 I.kIn M.kp (run_make (us := []) M F hr hb hd hx I .nil h)
end

/-! ### keywords -/
/-- the values of the keywords, from the left -/
def PK (X : Cx) (kws : List Keyword) (t : TA) : Prop :=
  ∀ (pos : Pos) (pins : List (Addr × Obj)) (s : Shared) (σ : St) (H : Hp) (Q : List V → Hp → Prop), Inv X pins σ H s → t σ H Q → wpAny (model X.prog X.w) X.A (evalAll ((backToKw pos (keywordEach kws X.env)).map (·.2))) (AP X pins σ Q) X.xe s
section
variable {X : Cx} {CX : CXT} {k : Nat} {f C : Addr} {fd : FuncData} {ps ks : List Str} {sp : Sp} {E : XK} {x m : Str} {p pos apos kpos : Pos} {e o : Expr} {es : List Expr} {kws : List Keyword} {te ta : TE} {t tk : TA} {nm : Option Str}
theorem pk_nil : PK X [] tNil := fun _ _ _ _ H Q I h => wpAny_evalAll_nil ⟨[], H, I, .nil, h⟩
theorem pk_cons (ha : PE X e te) (hr : PK X kws t) : PK X (⟨nm, e, kpos⟩ :: kws) (tCons te t) := by
  intro pos pins s σ H Q I h
  show wpAny _ _ (evalAll ((do let v ← eval e X.env; standAt pos; pure v) :: (backToKw pos (keywordEach kws X.env)).map (·.2))) _ _ s
  refine wpAny_evalAll_cons (wpAny_bind (thn (ha pins s σ H _ I h) fun u s1 ⟨x, H1, I1, r1, q1⟩ => wpAny_bind (wpAny_standAt (wpAny_pure ?_))))
  exact thn (hr pos pins s1 σ H1 _ I1 q1) fun us s2 ⟨xs, H2, I2, r2, q2⟩ => ⟨x :: xs, H2, I2, .cons r1 r2, q2⟩

/-- how a call with keywords binds: g puts the positional values us and the keywords' values ws (names ks) in the parameters' order, defaults among them -/
structure KBinds (K : PySem.W.Frag) (fd : FuncData) (ps ks : List Str) (g : List Value → List Value → List Value) (gV : List V → List V → List V) : Prop where
  to : ∀ (s : Shared) (us ws : List Value), K.In s.heap → (g us ws).length = ps.length → BindsTo s fd ⟨us, ks.zip ws⟩ (ps.zip (g us ws))
  rel : ∀ {vs : List V} {us : List Value} {zs : List V} {ws : List Value}, Vals vs us → Vals zs ws → Vals (gV vs zs) (g us ws)
def tCallK (sp : Sp) (gV : List V → List V → List V) (E : XK) (t tk : TA) : TE := fun σ H Q => t σ H fun vs H1 => tk σ H1 fun zs H2 => sp (gV vs zs) H2 Q E
variable {g : List Value → List Value → List Value} {gV : List V → List V → List V}
theorem run_fnk {pins : List (Addr × Obj)} {σ : St} {H : Hp} {s : Shared} {Q : VK} {us ws : List Value} {vs zs : List V} (F : FnOk X.prog X.w X.K X.mg X.base CX k f fd ps sp) (hr : Room k X.A) (hb : KBinds X.K fd ps ks g gV) (hx : Passes CX X E)
    (I : Inv X pins σ H s) (r : Vals vs us) (rz : Vals zs ws) (h : sp (gV vs zs) H Q E) : wpAny (model X.prog X.w) X.A (call (.ref f) us (ks.zip ws)) (EP X pins σ Q) X.xe s := by
  have r2 := hb.rel r rz
  have hl : (g us ws).length = ps.length := by rw [← r2.length]; exact F.len _ _ _ _ h
  refine wpAny_call (codeAny_mono (F.run X.A X.stack s H ⟨us, ks.zip ws⟩ (g us ws) (gV vs zs) Q E hr I.env0 (hb.to s us ws I.kIn hl) r2 h) fun r s' hq => ?_)
  cases r with
  | error e => exact hx pins σ H s e s' I hq
  | ok fl =>
    cases fl with
    | ret u => exact I.after hq
    | next => exact False.elim hq
    | brk => exact False.elim hq
    | cont => exact False.elim hq
/-- f(e, .., k = v, ..) -/
theorem pe_callK (F : FnOk X.prog X.w X.K X.mg X.base CX k f fd ps sp) (hr : Room k X.A) (hg : Gl X x) (hm : X.mg x = some (.ref f)) (hk : PySem.W.keepIn X.K (.ref f) = true) (hb : KBinds X.K fd ps ks g gV) (hx : Passes CX X E)
    (ha : PA X (e :: es) t) (hkw : PK X kws tk) (hall : (backToKw pos (keywordEach kws X.env)).all (·.1.isSome) = true := by rfl) (hks : (backToKw pos (keywordEach kws X.env)).filterMap (·.1) = ks := by rfl)
    (hdb : (x == ("__debug__" : Str)) = false := by decide) (he : starEach (e :: es) X.env = (false, eval e X.env) :: starEach es X.env := by rfl)
    (hpl : ((backTo pos (starEach (e :: es) X.env)).any (·.1) || (backToKw pos (keywordEach kws X.env)).any (·.1.isNone)) = false := by rfl) :
    PE X (.Call (.Name x p) (e :: es) kws pos) (tCallK sp gV E t tk) := by
  intro pins s σ H Q I h
  refine wpAny_Call_Name_kw (ld_glob I hg hm ?_ hdb)
  refine PySem.W.callWith_KW (h₀ := X.base) I.ok.mod.kin hk hall (thn (ha pos pins s σ H _ I h) fun us s1 ⟨vs, H1, I1, r, q⟩ => ?_) hpl he
  refine thn (hkw pos pins s1 σ H1 _ I1 q) fun ws s2 ⟨zs, H2, I2, rz, q2⟩ => ⟨I2.kIn, ?_⟩
  rw [hks]
  exact run_fnk F hr hb hx I2 r rz q2
end

/-! ### a def's body keeps its promise -/
/-- names: the parameters first -/
structure FnScope (N P : List Str) (sc : Scope) : Prop where
  kind : sc.kind = .function
  co : sc.isCoroutine = false
  gen : sc.isGenerator = false
  nd : N.Nodup
  pre : N.take P.length = P
  par : ∀ x ∈ P, sc.names.lookup x = some .local ∨ sc.names.lookup x = some .cell
  nofree : ∀ y ∈ sc.names, y.2 ≠ .free

theorem bindL_out {kindOf : Str → Option NameKind} {x : Str} : ∀ {binds : List (Str × Value)} {m : Str → Option Value}, (∀ v, (x, v) ∉ binds) → bindL kindOf binds m x = m x
  | [], _, _ => rfl
  | (n, v) :: r, m, h => by
    unfold bindL
    rw [bindL_out fun w hw => h w (List.mem_cons_of_mem _ hw)]
    split
    · have : x ≠ n := by rintro rfl; exact h v List.mem_cons_self
      simp [this]
    · rfl
theorem bindC_out {kindOf : Str → Option NameKind} {x : Str} : ∀ {binds : List (Str × Value)} {m : Str → Option Value}, (∀ v, (x, v) ∉ binds) → bindC kindOf binds m x = m x
  | [], _, _ => rfl
  | (n, v) :: r, m, h => by
    unfold bindC
    rw [bindC_out fun w hw => h w (List.mem_cons_of_mem _ hw)]
    split
    · rfl
    · have : x ≠ n := by rintro rfl; exact h v List.mem_cons_self
      simp [this]
theorem bindL_get {kindOf : Str → Option NameKind} {x : Str} {v : Value} : ∀ {P : List Str} {vs : List Value} {i : Nat} {m : Str → Option Value}, P.Nodup → P[i]? = some x → vs[i]? = some v → kindOf x = some .local →
    bindL kindOf (P.zip vs) m x = some v
  | [], _, _, _, _, h, _, _ => by simp at h
  | _ :: _, [], _, _, _, _, h, _ => by simp at h
  | p :: P, w :: vs, 0, m, nd, h1, h2, hk => by
    simp at h1 h2; subst h1; subst h2
    show bindL kindOf ((p, w) :: P.zip vs) m p = _
    unfold bindL
    rw [bindL_out fun v hv => (List.nodup_cons.mp nd).1 (List.of_mem_zip hv).1, if_pos hk]
    simp
  | p :: P, w :: vs, i + 1, m, nd, h1, h2, hk => by
    show bindL kindOf ((p, w) :: P.zip vs) m x = _
    unfold bindL
    exact bindL_get (i := i) (List.nodup_cons.mp nd).2 (by simpa using h1) (by simpa using h2) hk
theorem bindC_get {kindOf : Str → Option NameKind} {x : Str} {v : Value} : ∀ {P : List Str} {vs : List Value} {i : Nat} {m : Str → Option Value}, P.Nodup → P[i]? = some x → vs[i]? = some v → kindOf x ≠ some .local →
    bindC kindOf (P.zip vs) m x = some v
  | [], _, _, _, _, h, _, _ => by simp at h
  | _ :: _, [], _, _, _, _, h, _ => by simp at h
  | p :: P, w :: vs, 0, m, nd, h1, h2, hk => by
    simp at h1 h2; subst h1; subst h2
    show bindC kindOf ((p, w) :: P.zip vs) m p = _
    unfold bindC
    rw [bindC_out fun v hv => (List.nodup_cons.mp nd).1 (List.of_mem_zip hv).1, if_neg hk]
    simp
  | p :: P, w :: vs, i + 1, m, nd, h1, h2, hk => by
    show bindC kindOf ((p, w) :: P.zip vs) m x = _
    unfold bindC
    exact bindC_get (i := i) (List.nodup_cons.mp nd).2 (by simpa using h1) (by simpa using h2) hk

/-- the names' values at the entry -/
def start (N : List Str) (vs : List V) : St := vs.map some ++ List.replicate (N.length - vs.length) none

/-- the context of a def's body, at its entry; an exception leaves the frame, then lies as CX says -/
def cxOf (CX : CXT) (P : Program) (w : World) (K : PySem.W.Frag) (mg : Str → Option Value) (base : Heap) (N : List Str) (qual : Str) (scope : Scope) (f : Addr) (cd : Value) (A : Around) (outer : List Env) (s : Shared) (H : Hp) (E : XK) : Cx where
  prog := P
  w := w
  K := K
  mg := mg
  base := base
  A := A.deeper (envOfC qual scope s.heap.objs.size f cd)
  N := N
  s₀ := s
  H₀ := H
  env := envOfC qual scope s.heap.objs.size f cd
  outer := outer
  stack := envOfC qual scope s.heap.objs.size f cd :: outer
  ex := []
  calm := true
  fn := fun _ => true
  pn := []
  xe := fun e s' => wpAny (model P w) (A.deeper (envOfC qual scope s.heap.objs.size f cd)) (leaving (envOfC qual scope s.heap.objs.size f cd) e) (fun _ s'' => CX outer H s E e s'') (fun e' s'' => CX outer H s E e' s'') s'

theorem cell_has {sc : Scope} {n : Nat} {x : Str} (h : sc.names.lookup x = some .cell) : ∃ c, (cellsFrom n sc.names []).lookup x = some c := by
  have q := PySem.W.cellsFrom_some sc.names n [] (.inl h)
  exact Option.isSome_iff_exists.mp q

theorem inv_start {CX : CXT} {P : Program} {w : World} {K : PySem.W.Frag} {mg : Str → Option Value} {base : Heap} {N ps : List Str} {qual : Str} {scope : Scope} {f : Addr} {cd : Value} {A : Around} {outer : List Env} {s s1 : Shared} {H : Hp} {E : XK} {us : List Value} {vs : List V}
    (S : FnScope N ps scope) (hd : A.handled = none) (e0 : Env0 P w K mg base A outer s H) (hl : vs.length = ps.length) (r : Vals vs us)
    (x : InCallC s s.heap.objs.size (bindL (envOfC qual scope s.heap.objs.size f cd).kindOf (ps.zip us) fun _ => none) (cellsFrom (s.heap.objs.size + 1) scope.names []) (bindC (envOfC qual scope s.heap.objs.size f cd).kindOf (ps.zip us) fun _ => none) s1) :
    Inv (cxOf CX P w K mg base N qual scope f cd A outer s H E) [] (start N vs) H s1 := by
  have hpl : ps.length ≤ N.length := by have := congrArg List.length S.pre; rw [List.length_take] at this; omega
  obtain ⟨h1, tk, rfl, hk⟩ := x.done
  have noA : ∀ b : Addr, b ∉ (cxOf CX P w K mg base N qual scope f cd A outer s H E).ex := fun b z => absurd (show b ∈ ([] : List Addr) from z) (by simp)
  refine ⟨⟨e0.mod, S.kind, rfl, rfl, Nat.le_refl _, fun y z c h1 h2 => ?_, fun y hy => ?_, fun y c _ h => ?_, fun _ => hd, Around.frames_deeper e0.frames, .inr ⟨rfl, rfl⟩, fun b z => absurd z (noA b), e0.bs, e0.bsz, fun b _ _ => noA b, fun b z => absurd z (noA b), e0.funs, e0.frf⟩,
    rfl, e0.bare, Un.kept hk, ⟨_, x.toInCall.ns, fun i y v h1 h2 h3 => ?_⟩, fun y c h => ⟨_, x.cell y c h⟩, e0.hok.fresh (Nat.le_refl _), fun y c h => ?_, fun p hp => absurd (show p ∈ ([] : List (Addr × Obj)) from hp) (by simp), e0.hok.kept hk, ?_⟩
  · exact name_of_addr x.apart (PySem.mem_of_lookup h1) (PySem.mem_of_lookup h2)
  · have hy : scope.names.lookup y = some .cell ∨ scope.names.lookup y = some .free := hy
    rcases hy with hy | hy
    · exact cell_has hy
    · exact absurd rfl (S.nofree _ (PySem.mem_of_lookup hy))
  · exact Nat.le_of_lt (x.above y c (PySem.mem_of_lookup h))
  · have hi : i < vs.length := by
      unfold start at h2
      by_cases hi : i < vs.length
      · exact hi
      · rw [List.getElem?_append_right (by simpa using hi)] at h2
        rw [List.getElem?_replicate] at h2
        split at h2 <;> cases h2
    have ha : vs[i]? = some v := by
      unfold start at h2
      rw [List.getElem?_append_left (by simpa using hi), List.getElem?_map] at h2
      cases e : vs[i]? with
      | none => rw [e] at h2; cases h2
      | some a => rw [e] at h2; cases h2; rfl
    obtain ⟨u, hu, rv⟩ := r.get ha
    have hp : ps[i]? = some y := by
      rw [← S.pre, List.getElem?_take_of_lt (by omega)]; exact h1
    have ndP : ps.Nodup := by rw [← S.pre]; exact S.nd.sublist (List.take_sublist _ _)
    refine ⟨u, rv, ?_⟩
    rcases S.par y (List.mem_of_getElem? hp) with k | k
    · exact .inl ⟨k, bindL_get ndP hp hu k⟩
    · obtain ⟨c, e⟩ := cell_has (n := s.heap.objs.size + 1) k
      refine .inr ⟨.inl k, c, e, ?_⟩
      have q := x.cell y c e
      rw [bindC_get ndP hp hu (by show scope.names.lookup y ≠ _; rw [k]; decide)] at q
      exact q
  · exact e0.hok.fresh (Nat.le_of_lt (x.above y c (PySem.mem_of_lookup h)))
  · unfold start
    show _ = N.length
    rw [List.length_append, List.length_map, List.length_replicate]
    omega

/-- THE RULE: a def (or a method) of the text, by its body. The body's reading t is chosen for each entry; it is run at the parameters' values -/
theorem fn_of {CX : CXT} {P : Program} {w : World} {K : PySem.W.Frag} {mg : Str → Option Value} {base : Heap} {k : Nat} {f : Addr} {name qual : Str} {params : Arguments} {body : List Stmt} {scope : Scope} {dV kV doc pm cdv ct oc : Value} {an od : Option Addr}
    {osl : Array (Option Value)} {N ps : List Str} {sp : Sp} (lk : K.lookup f = some ⟨oc, od, .func (PySem.W.fnOf name qual params body scope dV kV doc pm an cdv ct), osl⟩) (hcd : PySem.W.codeIn K cdv qual = true) (S : FnScope N ps scope)
    (len : ∀ vs H Q E, sp vs H Q E → vs.length = ps.length)
    (hbody : ∀ (A : Around) (outer : List Env) (s : Shared) (H : Hp) (vs : List V) (Q : VK) (E : XK), Room k (A.deeper (envOfC qual scope s.heap.objs.size f cdv)) → sp vs H Q E →
      ∃ t, PSs (cxOf CX P w K mg base N qual scope f cdv A outer s H E) body t ∧ t { nx := fun _ H' => Q .non H', rt := Q } (start N vs) H) :
    FnOk P w K mg base CX (k + 1) f (PySem.W.fnOf name qual params body scope dV kV doc pm an cdv ct) ps sp := by
  refine ⟨len, fun A outer s H args us vs Q E hr e0 hb r hsp => ?_⟩
  have hl := len _ _ _ _ hsp
  have KX : K.In s.heap := e0.mod.kin.keeps fun b o e => (e0.bs b o e).1
  have lim : s.heap.NoLimit := e0.mod.nolimit.keeps fun b o e => (e0.bs b o e).1
  have hkind : ∀ y ∈ ps.zip us, scope.names.lookup y.1 = some .local ∨ (scope.names.lookup y.1 = some .cell ∧ ((cellsFrom (s.heap.objs.size + 1) scope.names []).lookup y.1).isSome = true) := fun ⟨n, v⟩ hy => by
    rcases S.par n (List.of_mem_zip hy).1 with q | q
    · exact .inl q
    · exact .inr ⟨q, PySem.W.cellsFrom_some _ _ _ (.inl q)⟩
  refine codeAny_call_function hr.depth (KX _ _ lk) rfl S.co S.gen rfl (PySem.W.codeRec_of KX hcd) (hb _ _ _ _ ?_)
  refine wpAny_newFunctionEnv_cells S.kind hkind fun env he s1 x => ?_
  subst he
  refine ⟨lim.keeps x.toInCall.keep, codeAny_func ?_⟩
  obtain ⟨t, ht, hq⟩ := hbody A outer s H vs Q E (hr.deeper _) hsp
  have I : Inv (cxOf CX P w K mg base N qual scope f cdv A outer s H E) [] (start N vs) H s1 := inv_start S hr.hd e0 hl r x
  refine wpAny_mono (ht [] s1 (start N vs) H _ I hq) (fun fl s' hs => ?_) fun e s' hs => hs
  have fin : ∀ {σ' : St} {H' : Hp} {v : V} {u : Value}, Inv (cxOf CX P w K mg base N qual scope f cdv A outer s H E) [] σ' H' s' → RelV v u → Q v H' → CE outer P w H s Q u s' :=
    fun {σ' H' v u} J rv q => ⟨v, H', J.os, J.bare, J.base, J.hok, rv, q⟩
  cases fl with
  | ret u =>
    obtain ⟨v, σ', H', J, rv, q⟩ := hs
    exact fin J rv q
  | next =>
    obtain ⟨σ', H', J, q⟩ := hs
    exact fin (v := V.non) (u := Value.none) J rfl q
  | brk =>
    obtain ⟨_, _, _, q⟩ := hs
    exact False.elim q
  | cont =>
    obtain ⟨_, _, _, q⟩ := hs
    exact False.elim q
end L2

namespace L2
open PySem PySem.Spec PyProof.Rows
section
variable {X : Cx} {x : Str} {p pos : Pos} {e : Expr} {es : List Expr} {t : TA} {id T : String} {r : List V → Hp → VK → Prop}

def tCB (r : List V → Hp → VK → Prop) (t : TA) : TE := fun σ H Q => t σ H fun vs H1 => r vs H1 Q
/-- f(e, ..), f a built-in function -/
theorem pe_callB (hc : CallR X (.builtin id) r) (hg : Gl X x) (hm : X.mg x = none) (hv : bootBuiltins x = some (.builtin id)) (ha : PA X (e :: es) t) (hn : x ≠ "__name__" := by decide) (hdb : (x == ("__debug__" : Str)) = false := by decide)
    (he : starEach (e :: es) X.env = (false, eval e X.env) :: starEach es X.env := by rfl) (hpl : (backTo pos (starEach es X.env)).any (·.1) = false := by rfl) : PE X (.Call (.Name x p) (e :: es) [] pos) (tCB r t) := by
  intro pins s σ H Q I h
  refine wpAny_Call_Name_kw (ld_blt I hg hm hv ?_ hn hdb)
  exact PyProof.Rows.callWith_builtin1 (thn (ha pos pins s σ H _ I h) fun us s1 ⟨vs, H1, I1, r1, q1⟩ => hc pins s1 σ H1 vs us Q I1 r1 q1) he hpl
/-- T(e, ..), T a built-in type -/
theorem pe_callTy (hc : CallR X (.type T) r) (hg : Gl X x) (hm : X.mg x = none) (hv : bootBuiltins x = some (.type T)) (ha : PA X (e :: es) t) (hn : x ≠ "__name__" := by decide) (hdb : (x == ("__debug__" : Str)) = false := by decide)
    (he : starEach (e :: es) X.env = (false, eval e X.env) :: starEach es X.env := by rfl) (hpl : (backTo pos (starEach es X.env)).any (·.1) = false := by rfl) : PE X (.Call (.Name x p) (e :: es) [] pos) (tCB r t) := by
  intro pins s σ H Q I h
  refine wpAny_Call_Name_kw (ld_blt I hg hm hv ?_ hn hdb)
  exact PyProof.Rows.callWith_type1 (thn (ha pos pins s σ H _ I h) fun us s1 ⟨vs, H1, I1, r1, q1⟩ => hc pins s1 σ H1 vs us Q I1 r1 q1) he hpl
/-- T() -/
theorem pe_callTy0 (hc : CallR X (.type T) r) (hg : Gl X x) (hm : X.mg x = none) (hv : bootBuiltins x = some (.type T)) (hn : x ≠ "__name__" := by decide) (hdb : (x == ("__debug__" : Str)) = false := by decide) :
    PE X (.Call (.Name x p) [] [] pos) (tCB r tNil) := by
  intro pins s σ H Q I h
  refine wpAny_Call_Name_kw (ld_blt I hg hm hv ?_ hn hdb)
  exact PyProof.Rows.callWith_type0 (hc pins s σ H [] [] Q I .nil h)
end
end L2

namespace HT
open PySem PyProof.Rows

/-- t < u of tuples of ints -/
def lexLt : List Int → List Int → Bool
  | [], [] => false
  | [], _ :: _ => true
  | _ :: _, [] => false
  | x :: xs, y :: ys => if x = y then lexLt xs ys else decide (x < y)
theorem lexLt_cons (x y : Int) (xs ys : List Int) : lexLt (x :: xs) (y :: ys) = if x = y then lexLt xs ys else decide (x < y) := rfl
theorem lexLt_nil_nil : lexLt [] [] = false := rfl
theorem lexLt_nil_cons (y : Int) (ys : List Int) : lexLt [] (y :: ys) = true := rfl
theorem lexLt_cons_nil (x : Int) (xs : List Int) : lexLt (x :: xs) [] = false := rfl

theorem eqAt_int (A : Around) (s : Shared) (a : Int) (t : Tok) (c : Int) (u : Tok) : ∃ e, SeqAt.EqAt A s (.int a t) (.int c u) e ∧ (e = true ↔ a = c) :=
  ⟨(a == c), SeqAt.EqAt.int_int a t c u, by simp⟩
theorem rcLt_int (A : Around) (s : Shared) (a : Int) (t : Tok) (c : Int) (u : Tok) (prog : Program) (w : World) (E : Value → Shared → Prop) (Q : Value → Shared → Prop) (h : Q (.bool (decide (a < c))) s) :
    wpAny (model prog w) A (richCompare .Lt (.int a t) (.int c u)) Q E s :=
  (PyProof.Rows.lt_int h : wpAny (model prog w) A (compareOp .Lt (.int a t) (.int c u)) Q E s)

section
open PySem.SeqAt
open PySem.AutoSeq1 (wpAny_loadPart')
open PySem.MeetsSeq PySem.MeetsSeq2 PySem.MeetsSeq3

theorem tuple_lt_ints (l b : Addr) (items items2 : Array Value) (n n2 : Nat) (dd dd2 : Option Addr) (sl sl2 : Array (Option Value)) (ns ms : List Int) (hi : IntsAre items.toList ns) (hj : IntsAre items2.toList ms) :
    Meets (Builtin.«tuple.__lt__» ⟨[.ref l, .ref b], []⟩)
      (fun _ R s => s.heap.get? l = some { cls := .type "tuple", dict := dd, data := .seq items n, slots := sl } ∧ s.heap.get? b = some { cls := .type "tuple", dict := dd2, data := .seq items2 n2, slots := sl2 } ∧
        R (.ok (.ret (.bool (lexLt ns ms)))) s) :=
  .of_wp fun prog w A R s h => by
    obtain ⟨hp, g, d, tk, os⟩ := s; obtain ⟨hl, hb, h⟩ := h
    have f2 := AutoSeq1.sub_tuple_tuple
    have z1 : items.size = ns.length := by rw [← hi.length]; simp
    have z2 : items2.size = ms.length := by rw [← hj.length]; simp
    wp_walk using wpAny_loadPart' hl, wpAny_loadPart' hb, wpAny_forIn_list _ (fun rest b s' => b.1 = none ∧ s' = ⟨hp, g, d, tk, os⟩ ∧ ∃ (vs ws : List Value) (ns' ms' : List Int), rest = vs.zip ws ∧
      IntsAre vs ns' ∧ IntsAre ws ms' ∧ ns'.length + items2.size = ms'.length + items.size ∧ R (.ok (.ret (.bool (lexLt ns' ms')))) ⟨hp, g, d, tk, os⟩) _
    case turn =>
      rintro ⟨y, x⟩ rest b s' ⟨hb', rfl, vs, ws, ns', ms', hz, hvi, hwi, hlen, hR⟩
      cases hvi with
      | nil => rw [List.zip_nil_left] at hz; cases hz
      | cons a t hvi' =>
        cases hwi with
        | nil => rw [List.zip_nil_right] at hz; cases hz
        | cons c u hwi' =>
          rw [List.zip_cons_cons] at hz
          injection hz with hyx hrest
          injection hyx with hy hx
          subst hy hx
          rw [lexLt_cons] at hR
          simp only [List.length_cons] at hlen
          obtain ⟨e, he, hiff⟩ := eqAt_int A.in1 ⟨hp, g, d, tk, os⟩ a t c u
          refine wpAny_bind (he prog w _ _ ?_)
          cases e with
          | true =>
            rw [if_pos (hiff.mp rfl)] at hR
            wp_walk
            exact ⟨rfl, rfl, _, _, _, _, hrest, hvi', hwi', by omega, hR⟩
          | false =>
            rw [if_neg (fun q => absurd (hiff.mpr q) Bool.false_ne_true)] at hR
            have hri := rcLt_int A.in1 ⟨hp, g, d, tk, os⟩ a t c u prog w
            wp_walk using hri
            exact ⟨_, rfl, by simpa using hR⟩
    case fin =>
      rintro ⟨b1, b2⟩ s' ⟨hb', rfl, vs, ws, ns', ms', hz, hvi, hwi, hlen, hR⟩
      simp only at hb'
      subst hb'
      have hv : lexLt ns' ms' = decide (items.size < items2.size) := by
        cases hvi with
        | nil =>
          cases hwi with
          | nil =>
            simp only [List.length_nil] at hlen
            rw [lexLt_nil_nil]
            exact (decide_eq_false (by omega)).symm
          | cons c u hw =>
            simp only [List.length_nil, List.length_cons] at hlen
            rw [lexLt_nil_cons]
            exact (decide_eq_true (by omega)).symm
        | cons a t hv =>
          cases hwi with
          | nil =>
            simp only [List.length_nil, List.length_cons] at hlen
            rw [lexLt_cons_nil]
            exact (decide_eq_false (by omega)).symm
          | cons c u hw =>
            rw [List.zip_cons_cons] at hz
            cases hz
      rw [hv] at hR
      wp_walk
      exact ⟨_, rfl, by simpa [Builtin.Tuple.tupleCompareSizes] using hR⟩
    case h =>
      exact ⟨rfl, rfl, items.toList, items2.toList, ns, ms, rfl, hi, hj, by omega, h⟩
end

section
variable {prog : Program} {w : World} {A : Around} {E : Value → Shared → Prop} {s : Shared}

theorem lt_tupInts {l b : Addr} {items items2 : Array Value} {ns ms : List Int} {Q : Value → Shared → Prop} (hl : IsTup s.heap l items) (hb : IsTup s.heap b items2) (hi : IntsAre items.toList ns) (hj : IntsAre items2.toList ms)
    (hu : A.units < cLine) (h : Q (.bool (lexLt ns ms)) s) : wpAny (model prog w) A (compareOp .Lt (.ref l) (.ref b)) Q E s := by
  obtain ⟨⟨cls, dd, data, sl⟩, ho, hc, n, hd⟩ := id hl
  obtain ⟨⟨cls2, dd2, data2, sl2⟩, ho2, hc2, n2, hd2⟩ := id hb
  simp only at hc hd hc2 hd2
  subst hc hd hc2 hd2
  exact richCompare_meets_room (op := .Lt) ⟨_, ho, rfl⟩ ⟨_, ho2, rfl⟩ PySem.F.slot_tuple_lt PySem.F.entry_tuple_lt (PySem.F.args_tuple_lt_2 _ _) (tuple_lt_ints l b items items2 n n2 dd dd2 sl sl2 ns ms hi hj)
    ⟨ho, ho2, show Value.bool (lexLt ns ms) ≠ Value.notImplemented ∧ Q (.bool (lexLt ns ms)) s from ⟨(fun x => nomatch x), h⟩⟩ hu

/-- t + u, t not empty -/
theorem cat_tup {t b : Addr} {vs ws : List Value} {Q : Value → Shared → Prop} (ht : IsTup s.heap t vs.toArray) (hb : IsTup s.heap b ws.toArray) (hv : vs ≠ [])
    (h1 : ws = [] → Q (.ref t) s) (h2 : ws ≠ [] → Q (.ref s.heap.objs.size) { s with heap := s.heap.push { cls := .type "tuple", data := .seq (vs ++ ws).toArray } })
    (hsz : vs.length + ws.length ≤ sizeLine) : wpAny (model prog w) A (binaryOp .Add (.ref t) (.ref b)) Q E s := by
  obtain ⟨⟨cls, dd, data, sl⟩, ho, hc, n, hd⟩ := id ht
  obtain ⟨⟨cls2, dd2, data2, sl2⟩, ho2, hc2, n2, hd2⟩ := id hb
  simp only at hc hd hc2 hd2
  subst hc hd hc2 hd2
  have e : vs.toArray ++ ws.toArray = (vs ++ ws).toArray := by simp
  by_cases hw : ws = []
  · exact concat_meets ⟨_, ho, rfl⟩ ⟨_, ho2, rfl⟩ noFill_tuple_add seq_tuple_add PySem.F.slot_tuple_add PySem.F.entry_tuple_add (PySem.F.args_tuple_add_2 _ _)
      (tuple_addW1 t b vs.toArray ws.toArray n n2 dd dd2 sl sl2 (by simpa using hv) (by simp [hw])) ⟨ho, ho2, h1 hw⟩
  · refine concat_meets ⟨_, ho, rfl⟩ ⟨_, ho2, rfl⟩ noFill_tuple_add seq_tuple_add PySem.F.slot_tuple_add PySem.F.entry_tuple_add (PySem.F.args_tuple_add_2 _ _)
      (tuple_addW2 t b vs.toArray ws.toArray n n2 dd dd2 sl sl2 (by simpa using hv) (by simpa using hw) (by rw [List.size_toArray, List.size_toArray]; exact hsz)) ⟨ho, ho2, ?_⟩
    rw [e]
    exact h2 hw

/-! ### t[a:b], not the whole -/
/-- a slice's bound as a place among n (d where it is left out) -/
def sIx (n d : Nat) : Option Int → Nat
  | none => d
  | some v => if v < 0 then (v + (n : Int)).toNat else min v.toNat n
theorem sIx_none (n d : Nat) : sIx n d none = d := rfl
theorem sIx_nat (n d k : Nat) : sIx n d (some (k : Int)) = min k n := by
  show (if (k : Int) < 0 then ((k : Int) + (n : Int)).toNat else min (k : Int).toNat n) = min k n
  rw [if_neg (by omega), Int.toNat_natCast]
theorem sIx_le (n d : Nat) (hd : d ≤ n) (o : Option Int) : sIx n d o ≤ n := by
  cases o with
  | none => exact hd
  | some v =>
    show (if v < 0 then (v + (n : Int)).toNat else min v.toNat n) ≤ n
    by_cases hv : v < 0
    · rw [if_pos hv]; omega
    · rw [if_neg hv]; exact Nat.min_le_right _ _
theorem clip_eq (v : Int) (n d : Nat) : (if v < 0 then max (v + (n : Int)) 0 else min v (n : Int)) = ((sIx n d (some v) : Nat) : Int) := by
  show (if v < 0 then max (v + (n : Int)) 0 else min v (n : Int)) = (((if v < 0 then (v + (n : Int)).toNat else min v.toNat n) : Nat) : Int)
  by_cases hv : v < 0
  · simp only [if_pos hv]; omega
  · simp only [if_neg hv]; omega
theorem adjust_gen (lo hi : Option Int) (n : Nat) : Builtin.Slice.sliceAdjust lo hi 1 (n : Int) = (((sIx n 0 lo : Nat) : Int), ((sIx n n hi : Nat) : Int)) := by
  have h1 : ¬ ((1 : Int) < 0) := by omega
  unfold Builtin.Slice.sliceAdjust
  simp only [h1, if_false]
  refine Prod.ext ?_ ?_
  · cases lo with
    | none => rfl
    | some v => exact clip_eq v n 0
  · cases hi with
    | none => rfl
    | some v => exact clip_eq v n n
theorem places_gen (i j : Nat) : Builtin.Slice.slicePlaces (i : Int) (j : Int) 1 = j - i := by
  unfold Builtin.Slice.slicePlaces
  have h1 : (1 : Int) > 0 := by omega
  simp only [h1, if_true, Int.ediv_one]
  split <;> omega
theorem slicePart_ {v : Value} {o : Option Int} {Q : Option Int → Shared → Prop} (p : IsPart v o) (h : Q o s) : wpAny (model prog w) A (Builtin.Slice.slicePartIndex v) Q E s := by
  cases p with
  | none => exact slicePart_none h
  | int i t => exact slicePart_int h
theorem sliceApplied_gen {sl : Addr} {vl vu : Value} {lo hi : Option Int} {n : Nat} {Q : Int × Int × Nat → Shared → Prop} (hs : s.heap.IsSliceOf sl vl vu .none) (pl : IsPart vl lo) (pu : IsPart vu hi)
    (h : Q (((sIx n 0 lo : Nat) : Int), 1, sIx n n hi - sIx n 0 lo) s) : wpAny (model prog w) A (Builtin.Slice.sliceApplied (.ref sl) (pure (n : Int))) Q E s := by
  obtain ⟨os, hos, hcs, hds⟩ := id hs
  unfold Builtin.Slice.sliceApplied Builtin.Slice.sliceFields
  refine wpAny_bind (wpAny_bind (wpAny_field hos hds (x := vl) rfl (wpAny_bind (wpAny_field hos hds (x := vu) rfl (wpAny_bind (wpAny_field hos hds (x := .none) rfl (wpAny_pure ?_)))))))
  refine wpAny_bind (slicePart_none ?_)
  show wpAny _ _ (if ((1 : Int) == 0) = true then _ else _) _ _ s
  rw [if_neg (by decide)]
  refine wpAny_bind (slicePart_ pl (wpAny_bind (slicePart_ pu (wpAny_bind (wpAny_pure ?_)))))
  show wpAny _ _ (match Builtin.Slice.sliceAdjust lo hi 1 (n : Int) with | (lo, hi) => pure (lo, (1 : Int), Builtin.Slice.slicePlaces lo hi 1)) _ _ s
  rw [adjust_gen lo hi n]
  show wpAny _ _ (pure (((sIx n 0 lo : Nat) : Int), (1 : Int), Builtin.Slice.slicePlaces ((sIx n 0 lo : Nat) : Int) ((sIx n n hi : Nat) : Int) 1)) _ _ s
  rw [places_gen]
  exact wpAny_pure h
theorem pick_gen (xs : Array Value) (i k : Nat) : ((List.range k).filterMap fun (m : Nat) => xs[((i : Int) + (m : Int) * 1).toNat]?).toArray = ((xs.toList.drop i).take k).toArray := by
  have e : (fun (m : Nat) => xs[((i : Int) + (m : Int) * 1).toNat]?) = fun m => xs[i + m]? := by
    funext m
    have : ((i : Int) + (m : Int) * 1).toNat = i + m := by omega
    rw [this]
  rw [e]
  have := pick_run xs i k
  rw [List.filterMap_map] at this
  have e2 : ((fun x => xs[x]?) ∘ fun x => i + x) = fun m => xs[i + m]? := rfl
  rw [e2] at this
  rw [this]

theorem getItem_tuple_cut {t sl : Addr} {items : Array Value} {vl vu : Value} {lo hi : Option Int} {Q : Value → Shared → Prop} (ht : IsTup s.heap t items) (hs : s.heap.IsSliceOf sl vl vu .none) (pl : IsPart vl lo) (pu : IsPart vu hi)
    (hw : ¬ (sIx items.size 0 lo = 0 ∧ sIx items.size items.size hi = items.size))
    (h : Q (.ref s.heap.objs.size) { s with heap := s.heap.push { cls := .type "tuple", data := .seq ((items.toList.drop (sIx items.size 0 lo)).take (sIx items.size items.size hi - sIx items.size 0 lo)).toArray } })
    (hsz : items.size ≤ sizeLine) : wpAny (model prog w) A (getItem (.ref t) (.ref sl)) Q E s := by
  have htake : sizeOk (.seq ((items.toList.drop (sIx items.size 0 lo)).take (sIx items.size items.size hi - sIx items.size 0 lo)).toArray) := by
    show ((items.toList.drop (sIx items.size 0 lo)).take (sIx items.size items.size hi - sIx items.size 0 lo)).toArray.size ≤ sizeLine
    rw [List.size_toArray, List.length_take, List.length_drop, Array.length_toList]
    omega
  have hj : sIx items.size items.size hi ≤ items.size := sIx_le _ _ (Nat.le_refl _) hi
  obtain ⟨os, hos, hcs, hds⟩ := id hs
  have hTs : s.TypeIs (.ref sl) "slice" := ⟨os, hos, hcs⟩
  unfold getItem
  try with_reducible refine wpAny_holding ?_
  first | refine wpAny_bind (wpAny_pure ?_) | skip
  refine wpAny_bind (wpAny_sequenceKey ht.typeIs (by decide) ?_)
  refine wpAny_bind (wpAny_callSpecial?_slot (name := Str.ofString "__getitem__") ht.typeIs PyProof.Rows.slot_tuple_getitem
    (wpAny_call_entry PyProof.Rows.slot_tuple_getitem ht.typeIs entry_tuple_getitem ?_ (args_tuple_getitem _ _)))
  show wpAny _ _ (Builtin.Tuple.tupleItemsOf (.ref t) >>= _) _ _ s
  refine wpAny_bind (tupleItemsOf_ ht ?_)
  refine wpAny_bind (wpAny_typeOf hTs ?_)
  rw [if_pos (by decide)]
  refine wpAny_bind (sliceApplied_gen hs pl pu ?_)
  have hno : ¬ ((((sIx items.size 0 lo : Nat) : Int) == 0 && (1 : Int) == 1 && (sIx items.size items.size hi - sIx items.size 0 lo) == items.size) = true) := by
    intro q
    rw [Bool.and_eq_true, Bool.and_eq_true] at q
    have q1 : ((sIx items.size 0 lo : Nat) : Int) = 0 := eq_of_beq q.1.1
    have q2 : sIx items.size items.size hi - sIx items.size 0 lo = items.size := eq_of_beq q.2
    exact hw ⟨by omega, by omega⟩
  show wpAny _ _ (if (((sIx items.size 0 lo : Nat) : Int) == 0 && (1 : Int) == 1 && (sIx items.size items.size hi - sIx items.size 0 lo) == items.size) = true then _ else _) _ _ s
  rw [if_neg hno, pick_gen]
  first
    | exact wpAny_bind (m := Builtin.Tuple.tupleExact _) (wpAny_newObj_type (wpAny_pure ⟨_, rfl, wpAny_pure h⟩) htake)
    | exact wpAny_bind (m := Builtin.Tuple.tupleExact _) (wpAny_newObj_type (wpAny_bind (wpAny_pure (wpAny_pure ⟨_, rfl, wpAny_pure h⟩))) htake)
    | exact wpAny_bind (wpAny_bind (m := Builtin.Tuple.tupleExact _) (wpAny_newObj_type (wpAny_pure (wpAny_pure ⟨_, rfl, wpAny_pure h⟩)) htake))
    | exact wpAny_bind (wpAny_bind (m := Builtin.Tuple.tupleExact _) (wpAny_newObj_type (wpAny_pure ⟨_, rfl, wpAny_pure h⟩) htake))
end
end HT

namespace L2
open PySem PySem.Spec PyProof.Rows

/-! ### the parts of a slice -/
abbrev TO := St → Hp → (Option Int → Hp → Prop) → Prop
/-- a slice's part (left out, or an int) -/
def PO (X : Cx) (e : Option Expr) (t : TO) : Prop :=
  ∀ (pins : List (Addr × Obj)) (s : Shared) (σ : St) (H : Hp) (Q : Option Int → Hp → Prop), Inv X pins σ H s → t σ H Q →
    wpAny (model X.prog X.w) X.A (evalPart e X.env) (fun u s' => ∃ o H', Inv X pins σ H' s' ∧ IsPart u o ∧ Q o H') X.xe s
def tNoPart : TO := fun _ H Q => Q none H
def tPart (t : TE) : TO := fun σ H Q => t σ H fun x H1 => ∃ i, x = .int i ∧ Q (some i) H1

theorem intsAre_of {ns : List Int} : ∀ {us : List Value}, Vals (ns.map V.int) us → IntsAre us ns := by
  induction ns with
  | nil => intro us r; rw [List.map_nil] at r; cases r; exact .nil
  | cons n ns ih =>
    intro us r
    rw [List.map_cons] at r
    cases r with
    | cons r1 r2 =>
      obtain ⟨t, e⟩ := r1
      subst e
      exact .cons n t (ih r2)

section
variable {X : Cx} {e : Expr} {te : TE} {lo hi : Option Expr} {tl th : TO} {pos p2 : Pos}

theorem po_none : PO X none tNoPart := by
  intro pins s σ H Q I h
  rw [evalPart_none]
  exact wpAny_pure ⟨none, H, I, .none, h⟩
theorem po_some (h : PE X e te) : PO X (some e) (tPart te) := by
  intro pins s σ H Q I hw
  rw [evalPart_some]
  refine thn (h pins s σ H _ I hw) fun u s1 ⟨x, H1, I1, r1, q1⟩ => ?_
  obtain ⟨i, rfl, q⟩ := q1
  obtain ⟨t, rfl⟩ := r1
  exact ⟨some i, H1, I1, .int i t, q⟩

/-- what a slice of a value is, by values: the slice object stands at sl -/
def SlR (X : Cx) (r : V → Option Int → Option Int → Hp → VK → Prop) : Prop :=
  ∀ (pins : List (Addr × Obj)) (s : Shared) (σ : St) (H : Hp) (x : V) (v vl vu : Value) (lo hi : Option Int) (sl : Addr) (Q : VK), Inv X pins σ H s → RelV x v → s.heap.IsSliceOf sl vl vu .none → IsPart vl lo → IsPart vu hi → r x lo hi H Q →
    ∃ T id, typeLookup (.type T) "__getitem__" = pure (some (.builtin id)) ∧ s.TypeIs v T ∧ wpAny (model X.prog X.w) X.A (getItem v (.ref sl)) (EP X pins σ Q) X.xe s
theorem SlR.or {r r' : V → Option Int → Option Int → Hp → VK → Prop} (h : SlR X r) (h' : SlR X r') : SlR X (fun x lo hi H Q => r x lo hi H Q ∨ r' x lo hi H Q) := by
  intro pins s σ H x v vl vu lo hi sl Q I rx hs pl pu q
  rcases q with q | q
  · exact h pins s σ H x v vl vu lo hi sl Q I rx hs pl pu q
  · exact h' pins s σ H x v vl vu lo hi sl Q I rx hs pl pu q
def tSl (r : V → Option Int → Option Int → Hp → VK → Prop) (te : TE) (tl th : TO) : TE := fun σ H Q => te σ H fun x H1 => tl σ H1 fun l H2 => th σ H2 fun u H3 => r x l u H3 Q
/-- a[lo:hi], any a -/
theorem pe_slice {r : V → Option Int → Option Int → Hp → VK → Prop} (hr : SlR X r) (he : PE X e te) (hl : PO X lo tl) (hu : PO X hi th) : PE X (.Subscript e (.Slice lo hi none p2) pos) (tSl r te tl th) := by
  intro pins s σ H Q I h
  refine Subscript_ (thn (he pins s σ H _ I h) fun v s1 ⟨x, H1, I1, r1, q1⟩ => ?_)
  refine wpAny_Slice (thn (hl pins s1 σ H1 _ I1 q1) fun vl s2 ⟨l, H2, I2, pl, q2⟩ => thn (hu pins s2 σ H2 _ I2 q2) fun vu s3 ⟨u, H3, I3, pu, q3⟩ => ?_)
  rw [evalPart_none]
  refine wpAny_pure ?_
  have I4 : Inv X pins σ H3 { s3 with heap := s3.heap.push { cls := .type "slice", data := .fields #[vl, vu, .none] } } := I3.kept (t' := s3.toks) fun b ob q => Heap.get?_push_of_some _ q
  obtain ⟨T, id, hT, ht, hg⟩ := hr pins { s3 with heap := s3.heap.push { cls := .type "slice", data := .fields #[vl, vu, .none] } } σ H3 x v vl vu l u s3.heap.objs.size Q I4 r1 (Heap.IsSliceOf.new ..) pl pu q3
  show wpAny (model X.prog X.w) X.A (subscriptTail e (.Slice lo hi none p2) v (.ref s3.heap.objs.size)) (EP X pins σ Q) X.xe { s3 with heap := s3.heap.push { cls := .type "slice", data := .fields #[vl, vu, .none] } }
  exact tail_any (ops := [.ref s3.heap.objs.size, v]) ht hT hg (by with_unfolding_all rfl)

/-- the items of xs[lo:hi] -/
def cutV (xs : List V) (lo hi : Option Int) : List V := (xs.drop (HT.sIx xs.length 0 lo)).take (HT.sIx xs.length xs.length hi - HT.sIx xs.length 0 lo)
theorem cutV_length (xs : List V) (lo hi : Option Int) : (cutV xs lo hi).length ≤ xs.length := by
  unfold cutV
  rw [List.length_take, List.length_drop]
  omega
/-- t[lo:hi], not the whole of it (the whole would be t itself) -/
def rSlT (K : PySem.W.Frag) : V → Option Int → Option Int → Hp → VK → Prop := fun x lo hi H Q => ∃ a xs, x = .ref a ∧ SqT K H a xs ∧
  ¬ (HT.sIx xs.length 0 lo = 0 ∧ HT.sIx xs.length xs.length hi = xs.length) ∧ ∀ p, H p = none → Q (.ref p) (upd H p (.tup (cutV xs lo hi)))
theorem sl_tup : SlR X (rSlT X.K) := by
  intro pins s σ H x v vl vu lo hi sl Q I rx hs pl pu h
  obtain ⟨a, xs, rfl, hx, hw, q⟩ := h
  cases rx
  obtain ⟨its, r, ht, hz⟩ := I.tuple hx
  have hlen : its.toArray.size = xs.length := by rw [List.size_toArray]; exact r.length.symm
  refine ⟨"tuple", _, PyProof.Rows.slot_tuple_getitem.lookup, ht.typeIs, ?_⟩
  refine HT.getItem_tuple_cut ht hs pl pu (by rw [hlen]; exact hw) ?_ (by rw [hlen]; exact hz)
  rw [hlen]
  refine ⟨.ref s.heap.objs.size, _, I.laid (t' := s.toks) (o := .tup (cutV xs lo hi)) (fun b ob q => Heap.get?_push_of_some _ q) (Nat.le_refl _) ?_, rfl, q _ (I.hok.fresh (Nat.le_refl _))⟩
  exact ⟨Nat.le_trans (cutV_length xs lo hi) hz, _, (r.drop (HT.sIx xs.length 0 lo)).take (HT.sIx xs.length xs.length hi - HT.sIx xs.length 0 lo), IsTup.new _ _⟩

/-! ### t < u, t + u -/
def rLtT (K : PySem.W.Frag) : R2 := fun x y H Q => ∃ a b ns ms, x = .ref a ∧ y = .ref b ∧ SqT K H a (ns.map V.int) ∧ SqT K H b (ms.map V.int) ∧ Q (.bl (HT.lexLt ns ms)) H
theorem op_ltT (hu : X.A.units < cLine) : OpR X (compareOp .Lt) (rLtT X.K) := by
  intro pins s σ H x y v u Q I rx ry h
  obtain ⟨a, b, ns, ms, rfl, rfl, ha, hb, q⟩ := h
  cases rx
  cases ry
  obtain ⟨its, r1, p1, _⟩ := I.tuple ha
  obtain ⟨its2, r2, p2, _⟩ := I.tuple hb
  have i1 : IntsAre its.toArray.toList ns := intsAre_of r1
  have i2 : IntsAre its2.toArray.toList ms := intsAre_of r2
  exact HT.lt_tupInts p1 p2 i1 i2 hu ⟨.bl (HT.lexLt ns ms), H, I, rfl, q⟩
/-- t + u, t not empty: u empty gives t itself -/
def rCatT (K : PySem.W.Frag) : R2 := fun x y H Q => ∃ a b xs ys, x = .ref a ∧ y = .ref b ∧ SqT K H a xs ∧ SqT K H b ys ∧ xs ≠ [] ∧ xs.length + ys.length ≤ sizeLine ∧
  (ys = [] → Q (.ref a) H) ∧ (ys ≠ [] → ∀ p, H p = none → Q (.ref p) (upd H p (.tup (xs ++ ys))))
theorem Vals.nil_iff {xs : List V} {us : List Value} (r : Vals xs us) : us = [] ↔ xs = [] := by
  cases r with
  | nil => simp
  | cons _ _ => simp
theorem op_catT : OpR X (binaryOp .Add) (rCatT X.K) := by
  intro pins s σ H x y v u Q I rx ry h
  obtain ⟨a, b, xs, ys, rfl, rfl, ha, hb, hx, hz, q1, q2⟩ := h
  cases rx
  cases ry
  obtain ⟨its, r1, p1, _⟩ := I.tuple ha
  obtain ⟨its2, r2, p2, _⟩ := I.tuple hb
  refine HT.cat_tup p1 p2 (fun z => hx (r1.nil_iff.mp z)) (fun z => ⟨.ref a, H, I, rfl, q1 (r2.nil_iff.mp z)⟩) (fun z => ?_) (by rw [← r1.length, ← r2.length]; exact hz)
  refine ⟨.ref s.heap.objs.size, _, I.laid (t' := s.toks) (o := .tup (xs ++ ys)) (fun b ob q => Heap.get?_push_of_some _ q) (Nat.le_refl _) ?_, rfl, q2 (fun w => z (r2.nil_iff.mpr w)) _ (I.hok.fresh (Nat.le_refl _))⟩
  exact ⟨by rw [List.length_append]; exact hz, _, r1.append r2, IsTup.new _ _⟩
/-- tuple(t) -/
theorem call_tupleT : CallR X (.type "tuple") (fun xs H Q => ∃ a ys, xs = [.ref a] ∧ SqT X.K H a ys ∧ Q (.ref a) H) := by
  intro pins s σ H xs us Q I r h
  obtain ⟨a, ys, rfl, ha, q⟩ := h
  obtain ⟨u, rfl, ru⟩ := vals1 r
  cases ru
  obtain ⟨its, _, p1, _⟩ := I.tuple ha
  exact call_tuple_same (items := its.toArray) p1 ⟨.ref a, H, I, rfl, q⟩
end
end L2

namespace L2
open PySem PySem.Spec PyProof.Rows

/-! ### places -/
/-- the place that an index of any sign means -/
def ixN (n : Nat) (i : Int) : Option Nat := if 0 ≤ i then (if i < n then some i.toNat else none) else if -(n : Int) ≤ i then some (i + n).toNat else none
def atI {α : Type} (xs : List α) (i : Int) : Option α := (ixN xs.length i).bind fun j => xs[j]?
theorem ixN_seq {n : Nat} {i : Int} {j : Nat} (h : ixN n i = some j) : seqIndex? i n = some j ∧ j < n ∧ -(n : Int) ≤ i ∧ i < n := by
  unfold ixN at h
  by_cases h0 : 0 ≤ i
  · rw [if_pos h0] at h
    by_cases h1 : i < n
    · rw [if_pos h1] at h
      have e : i.toNat = j := Option.some.inj h
      exact ⟨by rw [seqIndex_of h0 h1, e], by omega, by omega, h1⟩
    · rw [if_neg h1] at h; cases h
  · rw [if_neg h0] at h
    by_cases h1 : -(n : Int) ≤ i
    · rw [if_pos h1] at h
      have e : (i + n).toNat = j := Option.some.inj h
      exact ⟨by rw [seqIndex_neg (by omega) h1, e], by omega, h1, by omega⟩
    · rw [if_neg h1] at h; cases h
theorem atI_get {α : Type} {xs : List α} {i : Int} {v : α} (h : atI xs i = some v) : ∃ j, seqIndex? i xs.length = some j ∧ xs[j]? = some v ∧ j < xs.length ∧ -(xs.length : Int) ≤ i ∧ i < xs.length := by
  unfold atI at h
  cases e : ixN xs.length i with
  | none => rw [e] at h; cases h
  | some j =>
    rw [e] at h
    obtain ⟨h1, h2, h3, h4⟩ := ixN_seq e
    exact ⟨j, h1, h, h2, h3, h4⟩
theorem atI_nat {α : Type} {xs : List α} {j : Nat} {v : α} (h : xs[j]? = some v) : atI xs (j : Int) = some v := by
  have hj : j < xs.length := (List.getElem?_eq_some_iff.mp h).1
  have e : ixN xs.length (j : Int) = some j := by
    unfold ixN
    rw [if_pos (by omega), if_pos (by omega)]; simp
  unfold atI; rw [e]; exact h
theorem atI_last {α : Type} (xs : List α) (v : α) : atI (xs ++ [v]) (-1) = some v := by
  have hl : (xs ++ [v]).length = xs.length + 1 := by simp
  have e : ixN (xs ++ [v]).length (-1) = some xs.length := by
    unfold ixN
    rw [hl, if_neg (by decide), if_pos (by omega)]
    congr 1
    omega
  unfold atI
  rw [e]
  show (xs ++ [v])[xs.length]? = some v
  simp

/-! ### what may be subscripted -/
/-- what stands as an index of a plain subscript -/
def PlainIx (b : Expr) : Prop := ∀ o i, subscripted b false o i = operate [o, i] (getItem o i)
/-- a subscript by values -/
def IxR (X : Cx) (r : R2) : Prop :=
  ∀ (value slice : Expr) (pins : List (Addr × Obj)) (s : Shared) (σ : St) (H : Hp) (x y : V) (v u : Value) (Q : VK), Inv X pins σ H s → RelV x v → RelV y u → r x y H Q →
    subscripted slice false v u = operate [v, u] (getItem v u) → wpAny (model X.prog X.w) X.A (subscriptTail value slice v u) (EP X pins σ Q) X.xe s
/-- a call of a builtin's method by values: the receiver, the arguments -/
def MtR (X : Cx) (id : String) (r : V → List V → Hp → VK → Prop) : Prop :=
  ∀ (pins : List (Addr × Obj)) (s : Shared) (σ : St) (H : Hp) (x : V) (xs : List V) (v : Value) (us : List Value) (Q : VK), Inv X pins σ H s → RelV x v → Vals xs us → r x xs H Q →
    wpAny (model X.prog X.w) X.A (call (.builtin id) (v :: us)) (EP X pins σ Q) X.xe s
section
variable {X : Cx} {a b : Expr} {ta tb : TE} {pos : Pos}
theorem IxR.or {r r' : R2} (h : IxR X r) (h' : IxR X r') : IxR X (fun x y H Q => r x y H Q ∨ r' x y H Q) := by
  intro value slice pins s σ H x y v u Q I rx ry q hs
  rcases q with q | q
  · exact h value slice pins s σ H x y v u Q I rx ry q hs
  · exact h' value slice pins s σ H x y v u Q I rx ry q hs
theorem MtR.or {id : String} {r r' : V → List V → Hp → VK → Prop} (h : MtR X id r) (h' : MtR X id r') : MtR X id (fun x xs H Q => r x xs H Q ∨ r' x xs H Q) := by
  intro pins s σ H x xs v us Q I rx rs q
  rcases q with q | q
  · exact h pins s σ H x xs v us Q I rx rs q
  · exact h' pins s σ H x xs v us Q I rx rs q
/-- a[b] -/
theorem pe_ix {r : R2} (hr : IxR X r) (ha : PE X a ta) (hb : PE X b tb) (hs : PlainIx b) : PE X (.Subscript a b pos) (tOp r ta tb) := by
  intro pins s σ H Q I h
  exact Subscript_ (binT ha hb I h fun v u s2 x y H2 I2 rx ry q => hr a b pins s2 σ H2 x y v u Q I2 rx ry q (hs _ _))

def rIxL (K : PySem.W.Frag) : R2 := fun x y H Q => ∃ p xs i v, x = .ref p ∧ y = .int i ∧ SqL K H p xs ∧ atI xs i = some v ∧ Q v H
def rIxT (K : PySem.W.Frag) : R2 := fun x y H Q => ∃ p xs i v, x = .ref p ∧ y = .int i ∧ SqT K H p xs ∧ atI xs i = some v ∧ Q v H
def rIxS : R2 := fun x y H Q => ∃ z i c, x = .str z ∧ y = .int i ∧ z.length ≤ sizeLine ∧ atI z.cps.toList i = some c ∧ Q (.str ⟨#[c]⟩) H
theorem ix_list : IxR X (rIxL X.K) := by
  intro value slice pins s σ H x y v u Q I rx ry h hs
  obtain ⟨p, xs, i, z, rfl, rfl, hq, he, q⟩ := h
  cases rx
  obtain ⟨t, rfl⟩ := ry
  obtain ⟨its, r, pl, hz⟩ := I.list hq
  obtain ⟨j, h1, h2, h3, h4, h5⟩ := atI_get he
  obtain ⟨w, ew, rw'⟩ := r.get h2
  have hl := r.length
  have hn := line63
  have fin : EP X pins σ Q w s := ⟨z, H, I, rw', q⟩
  by_cases h0 : 0 ≤ i
  · have hj : i.toNat = j := by
      rw [seqIndex_of h0 h5] at h1
      exact Option.some.inj h1
    exact item_listR pl.isList h0 (by omega) (by rw [hj]; simpa using ew) fin hs
  · have hj : (i + (its.toArray.size : Int)).toNat = j := by
      rw [seqIndex_neg (by omega) h4] at h1
      rw [List.size_toArray, ← hl]
      exact Option.some.inj h1
    exact subscriptTail_builtinR (x := w) pl.isList.typeIs slot_list_getitem.lookup
      (wpAny_getItem_list_neg (Q := fun r s' => r = w ∧ EP X pins σ Q r s') pl.isList (by omega) (by rw [List.size_toArray] <;> omega) (by omega) (by rw [hj]; simpa using ew) ⟨rfl, fin⟩) hs
theorem ix_tup : IxR X (rIxT X.K) := by
  intro value slice pins s σ H x y v u Q I rx ry h hs
  obtain ⟨p, xs, i, z, rfl, rfl, hq, he, q⟩ := h
  cases rx
  obtain ⟨t, rfl⟩ := ry
  obtain ⟨its, r, pl, hz⟩ := I.tuple hq
  obtain ⟨j, h1, h2, h3, h4, h5⟩ := atI_get he
  obtain ⟨w, ew, rw'⟩ := r.get h2
  have hl := r.length
  have hn := line63
  have fin : EP X pins σ Q w s := ⟨z, H, I, rw', q⟩
  exact subscriptTail_builtinR (x := w) pl.typeIs slot_tuple_getitem.lookup
    (getItem_tuple (j := j) (Q := fun r s' => r = w ∧ EP X pins σ Q r s') pl (by omega) (by omega) (by rw [List.size_toArray, ← hl]; exact h1) (by simpa using ew) ⟨rfl, fin⟩) hs
theorem ix_str : IxR X rIxS := by
  intro value slice pins s σ H x y v u Q I rx ry h hs
  obtain ⟨z, i, c, rfl, rfl, hz, he, q⟩ := h
  obtain ⟨t, rfl⟩ := rx
  obtain ⟨t', rfl⟩ := ry
  obtain ⟨j, h1, h2, h3, h4, h5⟩ := atI_get he
  have hl : z.cps.toList.length = z.length := by simp [Str.length]
  rw [hl] at h1 h4 h5
  have hn := line63
  exact tail_any (typeIs_str s z t) slot_str_getitem.lookup (getItem_str (c := c) (by
    have e1 : decide (i < -(2 ^ 63 : Int)) = false := decide_eq_false (by omega)
    have e2 : decide (i ≥ 2 ^ 63) = false := decide_eq_false (by omega)
    rw [e1, e2, Bool.or_false]) (by rw [h1]; simpa using h2) ⟨.str ⟨#[c]⟩, H, I.tok _, ⟨_, rfl⟩, q⟩) hs
/-- list, tuple or str -/
def rIx (K : PySem.W.Frag) : R2 := fun x y H Q => rIxL K x y H Q ∨ rIxT K x y H Q ∨ rIxS x y H Q
theorem ix_seq : IxR X (rIx X.K) := ix_list.or (ix_tup.or ix_str)

/-! ### xs[i] = v, any sign -/
/-- the list's object behind a store -/
theorem mapSeq_set (its : List Value) (n j : Nat) (u : Value) : Obj.mapSeq (·.setIfInBounds j u) { cls := .type "list", data := .seq its.toArray n } = { cls := .type "list", data := .seq (its.set j u).toArray n } := by
  simp [Obj.mapSeq]
theorem Inv.lst {pins : List (Addr × Obj)} {σ : St} {H : Hp} {s : Shared} {p : Addr} {xs : List V} (I : Inv X pins σ H s) (h : H p = some (.lst xs)) :
    ∃ (its : List Value) (n : Nat), Vals xs its ∧ s.heap.get? p = some { cls := .type "list", data := .seq its.toArray n } ∧ xs.length ≤ sizeLine := by
  obtain ⟨z, its, n, r, e⟩ := I.hok p _ h
  exact ⟨its, n, r, e, z⟩
/-- the list at p is written by an update of its object -/
theorem Inv.lstUpd {pins : List (Addr × Obj)} {σ : St} {H : Hp} {s : Shared} {p : Addr} {xs ys : List V} {its its' : List Value} {n n' : Nat} {f : Obj → Obj} (I : Inv X pins σ H s) (h : H p = some (.lst xs))
    (ho : s.heap.get? p = some { cls := .type "list", data := .seq its.toArray n }) (hf : f { cls := .type "list", data := .seq its.toArray n } = { cls := .type "list", data := .seq its'.toArray n' }) (r : Vals ys its') (hz : ys.length ≤ sizeLine) (t : Nat) :
    Inv X pins σ (upd H p (.lst ys)) { s with heap := s.heap.update p f, toks := t } := by
  have e : (s.heap.update p f).get? p = some { cls := .type "list", data := .seq its'.toArray n' } := by
    rw [Heap.get?_update_self f ho (by rw [hf] <;> rfl), hf]
  refine I.write (x := p) (e := p) (by rw [h]; trivial) (.inl rfl) (fun b u hb q => (Heap.get?_update_other _ _ (Ne.symm hb)).trans q) ⟨_, e⟩ ?_
  exact ⟨hz, its', n', r, e⟩
def rSetL : V → V → V → Hp → (Hp → Prop) → Prop := fun o i v H Q => ∃ p xs k j, o = .ref p ∧ i = .int k ∧ H p = some (.lst xs) ∧ ixN xs.length k = some j ∧ Q (upd H p (.lst (xs.set j v)))
theorem set_list : PSet X rSetL := by
  intro pins s σ H o i v ov iv u Q I ro ri rv h
  obtain ⟨p, xs, k, j, rfl, rfl, hp, hj, q⟩ := h
  cases ro
  obtain ⟨t, rfl⟩ := ri
  obtain ⟨its, n, r, ho, hz⟩ := I.lst hp
  obtain ⟨h1, h2, h3, h4⟩ := ixN_seq hj
  have hl := r.length
  have hn := line63
  have I' : Inv X pins σ (upd H p (.lst (xs.set j v))) { s with heap := s.heap.update p (Obj.mapSeq (·.setIfInBounds j u)) } :=
    I.lstUpd hp ho (mapSeq_set its n j u) (r.set rv j) (by rw [List.length_set]; exact hz) s.toks
  by_cases h0 : 0 ≤ k
  · have hk : k.toNat = j := by
      rw [seqIndex_of h0 h4] at h1
      exact Option.some.inj h1
    exact PySem.W.ki_setAt ho h0 (by omega) (by rw [List.size_toArray, ← hl]; exact h4) (by rw [hk]; exact ⟨_, I', q⟩)
  · have hk : (k + (its.toArray.size : Int)).toNat = j := by
      rw [seqIndex_neg (by omega) h3] at h1
      rw [List.size_toArray, ← hl]
      exact Option.some.inj h1
    exact PySem.W.ki_setBack ho (by omega) (by rw [List.size_toArray, ← hl]; exact h3) (by omega) (by rw [hk]; exact ⟨_, I', q⟩)

/-! ### slices -/
theorem slice_bounds (lo hi : Option Int) (n : Nat) : (sliceBounds lo hi none n).1 = ((HT.sIx n 0 lo : Nat) : Int) ∧ (sliceBounds lo hi none n).2.1 = ((HT.sIx n n hi : Nat) : Int) ∧ (sliceBounds lo hi none n).2.2 = 1 := by
  refine ⟨?_, ?_, rfl⟩
  · cases lo with
    | none => simp [sliceBounds, HT.sIx]
    | some i =>
      simp only [sliceBounds, HT.sIx, Option.getD_none, show (1 : Int) > 0 by decide, if_true]
      by_cases h : i < 0
      · simp only [h, if_true] <;> omega
      · simp only [h, if_false] <;> omega
  · cases hi with
    | none => simp [sliceBounds, HT.sIx]
    | some i =>
      simp only [sliceBounds, HT.sIx, Option.getD_none, show (1 : Int) > 0 by decide, if_true]
      by_cases h : i < 0
      · simp only [h, if_true] <;> omega
      · simp only [h, if_false] <;> omega
theorem slicePick_cut (its : List Value) (lo hi : Option Int) : slicePick its.toArray lo hi none = ((its.drop (HT.sIx its.length 0 lo)).take (HT.sIx its.length its.length hi - HT.sIx its.length 0 lo)).toArray := by
  obtain ⟨h1, h2, h3⟩ := slice_bounds lo hi its.toArray.size
  unfold slicePick
  rw [h1, h2, h3]
  simp only [sliceRange_one, pick_run, List.size_toArray] <;> rfl
/-- xs[lo:hi] of a list: a new list -/
def rSlL (K : PySem.W.Frag) : V → Option Int → Option Int → Hp → VK → Prop := fun x lo hi H Q => ∃ a xs, x = .ref a ∧ SqL K H a xs ∧ ∀ p, H p = none → Q (.ref p) (upd H p (.lst (cutV xs lo hi)))
theorem sl_list : SlR X (rSlL X.K) := by
  intro pins s σ H x v vl vu lo hi sl Q I rx hs pl pu h
  obtain ⟨a, xs, rfl, hx, q⟩ := h
  cases rx
  obtain ⟨its, r, ht, hz⟩ := I.list hx
  have hlen := r.length
  refine ⟨"list", _, slot_list_getitem.lookup, ht.isList.typeIs, ?_⟩
  refine wpAny_getItem_list_slice ht.isList hs pl pu .none (by simp) ?_ (by rw [List.size_toArray] <;> omega)
  rw [slicePick_cut, ← hlen]
  refine ⟨.ref s.heap.objs.size, _, I.laid (t' := s.toks) (o := .lst (cutV xs lo hi)) (fun b ob q => Heap.get?_push_of_some _ q) (Nat.le_refl _) ?_, rfl, q _ (I.hok.fresh (Nat.le_refl _))⟩
  exact ⟨Nat.le_trans (cutV_length xs lo hi) hz, _, 0, (r.drop (HT.sIx xs.length 0 lo)).take (HT.sIx xs.length xs.length hi - HT.sIx xs.length 0 lo), Heap.get?_push_size _ rfl⟩

/-! ### in, not in: flat items -/
def flatV : V → Bool
  | .non => true
  | .bl _ => true
  | .int _ => true
  | .str _ => true
  | _ => false
/-- == of flat values -/
def eqV : V → V → Bool
  | .non, .non => true
  | .bl a, .bl b => a == b
  | .bl a, .int b => (if a then 1 else 0) == b
  | .int a, .bl b => a == (if b then 1 else 0)
  | .int a, .int b => a == b
  | .str a, .str b => a == b
  | _, _ => false
theorem eqAt_V {A : Around} {s : Shared} {y x : V} {u v : Value} (ry : RelV y u) (rx : RelV x v) (fy : flatV y = true) (fx : flatV x = true) : SeqAt.EqAt A s u v (eqV y x) := by
  cases y with
  | non =>
    cases ry
    cases x with
    | non => cases rx; exact SeqAt.EqAt.same _
    | bl b => cases rx; exact SeqAt.EqAt.none_bool b
    | int b => obtain ⟨t, rfl⟩ := rx; exact SeqAt.EqAt.none_int b t
    | str b => obtain ⟨t, rfl⟩ := rx; exact SeqAt.EqAt.none_str b t
    | _ => exact absurd (show false = true from fx) Bool.false_ne_true
  | bl a =>
    cases ry
    cases x with
    | non => cases rx; exact SeqAt.EqAt.bool_none a
    | bl b => cases rx; exact SeqAt.EqAt.bool_bool a b
    | int b => obtain ⟨t, rfl⟩ := rx; exact SeqAt.EqAt.bool_int a b t
    | str b => obtain ⟨t, rfl⟩ := rx; exact SeqAt.EqAt.bool_str a b t
    | _ => exact absurd (show false = true from fx) Bool.false_ne_true
  | int a =>
    obtain ⟨t', rfl⟩ := ry
    cases x with
    | non => cases rx; exact SeqAt.EqAt.int_none a t'
    | bl b => cases rx; exact SeqAt.EqAt.int_bool a t' b
    | int b => obtain ⟨t, rfl⟩ := rx; exact SeqAt.EqAt.int_int a t' b t
    | str b => obtain ⟨t, rfl⟩ := rx; exact SeqAt.EqAt.int_str a t' b t
    | _ => exact absurd (show false = true from fx) Bool.false_ne_true
  | str a =>
    obtain ⟨t', rfl⟩ := ry
    cases x with
    | non => cases rx; exact SeqAt.EqAt.str_none a t'
    | bl b => cases rx; exact SeqAt.EqAt.str_bool a t' b
    | int b => obtain ⟨t, rfl⟩ := rx; exact SeqAt.EqAt.str_int a t' b t
    | str b => obtain ⟨t, rfl⟩ := rx; exact SeqAt.EqAt.str_str a t' b t
    | _ => exact absurd (show false = true from fx) Bool.false_ne_true
  | _ => exact absurd (show false = true from fy) Bool.false_ne_true
/-- the items' answers, read off the values (a value's own answer does not lean on its token) -/
def eqU (x : V) (u : Value) : Bool := match u with
  | .none => eqV .non x
  | .bool b => eqV (.bl b) x
  | .int i _ => eqV (.int i) x
  | .str z _ => eqV (.str z) x
  | _ => false
theorem eqU_of {x y : V} {u : Value} (r : RelV y u) (f : flatV y = true) : eqU x u = eqV y x := by
  cases y with
  | non => cases r; rfl
  | bl b => cases r; rfl
  | int i => obtain ⟨t, rfl⟩ := r; rfl
  | str z => obtain ⟨t, rfl⟩ := r; rfl
  | _ => exact absurd (show false = true from f) Bool.false_ne_true
theorem any_eqU {x : V} : ∀ {xs : List V} {us : List Value}, Vals xs us → xs.all flatV = true → us.any (eqU x) = xs.any fun y => eqV y x
  | _, _, .nil, _ => rfl
  | y :: xs, u :: us, .cons r t, f => by
    rw [List.all_cons, Bool.and_eq_true] at f
    rw [List.any_cons, List.any_cons, eqU_of r f.1, any_eqU t f.2]
theorem mem_eqAt {A : Around} {s : Shared} {x : V} {v : Value} (rx : RelV x v) (fx : flatV x = true) : ∀ {xs : List V} {us : List Value}, Vals xs us → xs.all flatV = true → ∀ u ∈ us, SeqAt.EqAt A s u v (eqU x u)
  | _, _, .nil, _ => fun u hu => by cases hu
  | y :: xs, u :: us, .cons r t, f => fun u' hu => by
    rw [List.all_cons, Bool.and_eq_true] at f
    rcases List.mem_cons.mp hu with rfl | hu
    · rw [eqU_of r f.1]; exact eqAt_V r rx f.1 fx
    · exact mem_eqAt rx fx t f.2 u' hu
def inV (x : V) (xs : List V) : Bool := xs.any fun y => eqV y x
/-- x in a list or tuple of flat items -/
def rIn (K : PySem.W.Frag) (neg : Bool) : R2 := fun x y H Q => ∃ p xs, y = .ref p ∧ (SqL K H p xs ∨ SqT K H p xs) ∧ flatV x = true ∧ xs.all flatV = true ∧ Q (.bl (if neg then !inV x xs else inV x xs)) H
theorem op_in_seq : OpR X (compareOp .In) (rIn X.K false) := by
  intro pins s σ H x y v u Q I rx ry h
  obtain ⟨p, xs, rfl, hq, fx, fs, q⟩ := h
  cases ry
  rcases hq with hq | hq
  · obtain ⟨its, r, pl, hz⟩ := I.list hq
    refine SeqAt.in_listAt (eqU x) pl.isList (fun w hw => mem_eqAt rx fx r fs w (by simpa using hw)) ⟨.bl _, H, I, rfl, ?_⟩
    rw [show its.toArray.any (eqU x) = its.any (eqU x) by simp, any_eqU r fs]
    exact q
  · obtain ⟨its, r, pl, hz⟩ := I.tuple hq
    refine SeqAt.in_tupleAt (eqU x) pl (fun w hw => mem_eqAt rx fx r fs w (by simpa using hw)) ⟨.bl _, H, I, rfl, ?_⟩
    rw [show its.toArray.any (eqU x) = its.any (eqU x) by simp, any_eqU r fs]
    exact q
theorem op_notIn_seq : OpR X (compareOp .NotIn) (rIn X.K true) := by
  intro pins s σ H x y v u Q I rx ry h
  obtain ⟨p, xs, rfl, hq, fx, fs, q⟩ := h
  cases ry
  rcases hq with hq | hq
  · obtain ⟨its, r, pl, hz⟩ := I.list hq
    refine SeqAt.notIn_listAt (eqU x) pl.isList (fun w hw => mem_eqAt rx fx r fs w (by simpa using hw)) ⟨.bl _, H, I, rfl, ?_⟩
    rw [show its.toArray.any (eqU x) = its.any (eqU x) by simp, any_eqU r fs]
    exact q
  · obtain ⟨its, r, pl, hz⟩ := I.tuple hq
    refine SeqAt.notIn_tupleAt (eqU x) pl (fun w hw => mem_eqAt rx fx r fs w (by simpa using hw)) ⟨.bl _, H, I, rfl, ?_⟩
    rw [show its.toArray.any (eqU x) = its.any (eqU x) by simp, any_eqU r fs]
    exact q
theorem op_notIn_str : OpR X (compareOp .NotIn) (fun x y H Q => ∃ i j, x = .str i ∧ y = .str j ∧ Q (.bl (!(!(Builtin.Str.occurrences j i 0 j.length 1).isEmpty))) H) := by
  intro pins s σ H x y v u Q I rx ry h
  obtain ⟨i, j, rfl, rfl, q⟩ := h
  obtain ⟨t, rfl⟩ := rx
  obtain ⟨t', rfl⟩ := ry
  exact notIn_str ⟨.bl _, H, I, rfl, q⟩

/-! ### len, list(x), tuple(x) of any list or tuple that is read -/
theorem call_len_seq : CallR X (.builtin "len") (fun xs H Q => ∃ p ys, xs = [.ref p] ∧ (SqL X.K H p ys ∨ SqT X.K H p ys) ∧ Q (.int ys.length) H) := by
  intro pins s σ H xs us Q I r h
  obtain ⟨p, ys, rfl, hq, q⟩ := h
  obtain ⟨u, rfl, rx⟩ := vals1 r
  cases rx
  have hn := line63
  rcases hq with hq | hq
  · obtain ⟨its, r', pl, hz⟩ := I.list hq
    have hlen := r'.length
    exact Calls.call_len_list pl.isList (by simp only [List.size_toArray] <;> omega) ⟨.int ys.length, H, I.tok _, ⟨s.toks + 1, by rw [List.size_toArray, hlen]⟩, q⟩
  · obtain ⟨its, r', pl, hz⟩ := I.tuple hq
    have hlen := r'.length
    exact len_tuple pl (by simp only [List.size_toArray] <;> omega) ⟨.int ys.length, H, I.tok _, ⟨s.toks + 1, by rw [List.size_toArray, hlen]⟩, q⟩
theorem call_len_str : CallR X (.builtin "len") (fun xs H Q => ∃ z, xs = [.str z] ∧ z.length ≤ sizeLine ∧ Q (.int z.length) H) := by
  intro pins s σ H xs us Q I r h
  obtain ⟨z, rfl, hz, q⟩ := h
  obtain ⟨u, rfl, t, rfl⟩ := vals1 r
  have hn := line63
  exact len_str (by omega) ⟨.int z.length, H, I.tok _, ⟨_, rfl⟩, q⟩
theorem CallR.or {f : Value} {r r' : List V → Hp → VK → Prop} (h : CallR X f r) (h' : CallR X f r') : CallR X f (fun xs H Q => r xs H Q ∨ r' xs H Q) := by
  intro pins s σ H xs us Q I rs q
  rcases q with q | q
  · exact h pins s σ H xs us Q I rs q
  · exact h' pins s σ H xs us Q I rs q
theorem call_list_of : CallR X (.type "list") (fun xs H Q => ∃ p ys, xs = [.ref p] ∧ (SqL X.K H p ys ∨ SqT X.K H p ys) ∧ ∀ l, H l = none → Q (.ref l) (upd H l (.lst ys))) := by
  intro pins s σ H xs us Q I r h
  obtain ⟨p, ys, rfl, hq, q⟩ := h
  obtain ⟨u, rfl, rx⟩ := vals1 r
  cases rx
  have fin : ∀ (its : List Value), Vals ys its → ys.length ≤ sizeLine → ∀ (h' : Heap) (c' : Nat), (∀ b o', s.heap.get? b = some o' → h'.get? b = some o') →
      h'.get? s.heap.objs.size = some { cls := .type "list", dict := none, data := .seq its.toArray c', slots := #[] } → EP X pins σ Q (.ref s.heap.objs.size) { s with heap := h' } := fun its r' hz h' c' kp e =>
    ⟨.ref s.heap.objs.size, _, I.laid (t' := s.toks) kp (Nat.le_refl _) (show ObjOk X.prog X.w _ h' _ (.lst ys) from ⟨hz, its, c', r', e⟩), rfl, q _ (I.hok.fresh (Nat.le_refl _))⟩
  rcases hq with hq | hq
  · obtain ⟨its, r', pl, hz⟩ := I.list hq
    have hlen := r'.length
    obtain ⟨o, ho, hc, n, hd⟩ := pl.isList
    exact call_list_seq p (.inl rfl) ho hc hd (fun h' c' kp e => fin its r' hz h' c' kp e) (by simp only [List.size_toArray] <;> omega)
  · obtain ⟨its, r', pl, hz⟩ := I.tuple hq
    have hlen := r'.length
    obtain ⟨o, ho, hc, n, hd⟩ := pl
    exact call_list_seq p (.inr rfl) ho hc hd (fun h' c' kp e => fin its r' hz h' c' kp e) (by simp only [List.size_toArray] <;> omega)
theorem call_tuple_of : CallR X (.type "tuple") (fun xs H Q => ∃ p ys, xs = [.ref p] ∧ ((SqL X.K H p ys ∧ ∀ l, H l = none → Q (.ref l) (upd H l (.tup ys))) ∨ (SqT X.K H p ys ∧ Q (.ref p) H))) := by
  intro pins s σ H xs us Q I r h
  obtain ⟨p, ys, rfl, h⟩ := h
  obtain ⟨u, rfl, rx⟩ := vals1 r
  cases rx
  rcases h with ⟨hq, q⟩ | ⟨hq, q⟩
  · obtain ⟨its, r', pl, hz⟩ := I.list hq
    have hlen := r'.length
    refine call_tuple_list pl.isList (fun h' kp => ?_) (by simp only [List.size_toArray] <;> omega)
    have I1 : Inv X pins σ H { s with heap := h' } := I.kept (t' := s.toks) kp
    have I2 : Inv X pins σ (upd H h'.objs.size (.tup ys)) { s with heap := h'.push { cls := .type "tuple", data := .seq its.toArray } } :=
      I1.laid (t' := s.toks) (fun b o e => Heap.get?_push_of_some _ e) (Nat.le_refl _) (show ObjOk X.prog X.w _ _ _ (.tup ys) from ⟨hz, its, r', IsTup.new _ _⟩)
    exact ⟨.ref h'.objs.size, _, I2, rfl, q _ (I1.hok.fresh (Nat.le_refl _))⟩
  · obtain ⟨its, r', pl, hz⟩ := I.tuple hq
    exact call_tuple_same pl ⟨.ref p, H, I, rfl, q⟩

/-! ### the call of a builtin's method: o.m(..) -/
/-- the value is of that builtin type -/
def tyV (K : PySem.W.Frag) (T : String) (x : V) (H : Hp) : Prop := match x with
  | .str _ => T = "str"
  | .int _ => T = "int"
  | .ref p => (T = "list" ∧ ∃ xs, SqL K H p xs) ∨ (T = "tuple" ∧ ∃ o, K.lookup p = some o ∧ o.cls = .type "tuple" ∧ o.dict = none) ∨
      (T = "dict" ∧ ((∃ kvs, H p = some (.dK kvs)) ∨ ∃ kvs, H p = some (.dT kvs))) ∨ (T = "set" ∧ ∃ S n, H p = some (.set S n))
  | _ => False
theorem tyV_is {pins : List (Addr × Obj)} {σ : St} {H : Hp} {s : Shared} {T : String} {x : V} {v : Value} (I : Inv X pins σ H s) (r : RelV x v) (ty : tyV X.K T x H) :
    s.TypeIs v T ∧ ∀ a, v = .ref a → ∃ ob, s.heap.get? a = some ob ∧ ob.dict = none := by
  cases x with
  | str z =>
    obtain ⟨t, rfl⟩ := r
    cases (show T = "str" from ty)
    exact ⟨typeIs_str s z t, fun _ e => nomatch e⟩
  | int i =>
    obtain ⟨t, rfl⟩ := r
    cases (show T = "int" from ty)
    exact ⟨typeIs_int s i t, fun _ e => nomatch e⟩
  | ref p =>
    cases r
    rcases ty with ⟨rfl, xs, hq⟩ | ⟨rfl, o, hk, hc, hd⟩ | ⟨rfl, hk⟩ | ⟨rfl, S, n, hk⟩
    · obtain ⟨its, _, pl, _⟩ := I.list hq
      refine ⟨pl.isList.typeIs, fun a e => ?_⟩
      cases e
      obtain ⟨o, n, e, c, hd, _⟩ := pl
      exact ⟨o, e, hd⟩
    · refine ⟨⟨o, I.kIn p o hk, hc⟩, fun a e => ?_⟩
      cases e
      exact ⟨o, I.kIn _ o hk, hd⟩
    · have z : ∃ o, s.heap.get? p = some o ∧ o.ExactDict := by
        rcases hk with ⟨kvs, hk⟩ | ⟨kvs, hk⟩
        · obtain ⟨_, _, _, _, o, _, _, e, ex, _⟩ := I.hok p _ hk
          exact ⟨o, e, ex⟩
        · obtain ⟨_, _, _, _, o, _, _, e, ex, _⟩ := I.hok p _ hk
          exact ⟨o, e, ex⟩
      obtain ⟨o, e, ex⟩ := z
      refine ⟨⟨o, e, ex.1⟩, fun a e2 => ?_⟩
      cases e2
      exact ⟨o, e, ex.2.1⟩
    · obtain ⟨o, _, _, _, e, ex, _⟩ := I.hok p _ hk
      refine ⟨⟨o, e, ex.1⟩, fun a e2 => ?_⟩
      cases e2
      exact ⟨o, e, ex.2.1⟩
  | _ => exact False.elim ty
def tBM0 (K : PySem.W.Frag) (T : String) (r : V → List V → Hp → VK → Prop) (to : TE) : TE := fun σ H Q => to σ H fun x H1 => tyV K T x H1 ∧ r x [] H1 Q
def tBM (K : PySem.W.Frag) (T : String) (r : V → List V → Hp → VK → Prop) (to : TE) (t : TA) : TE := fun σ H Q => to σ H fun x H1 => tyV K T x H1 ∧ t σ H1 fun xs H2 => r x xs H2 Q
variable {o e : Expr} {es : List Expr} {to : TE} {t : TA} {name : Str} {apos cpos : Pos} {T id : String} {r : V → List V → Hp → VK → Prop}
theorem pe_bm0 (pa : PlainAttrs T) (slot : Slot T name id) (hty : typeOf (.builtin id) = pure (.type "method_descriptor")) (hm : MtR X id r) (ho : PE X o to)
    (hbase : attributeBase o name X.env (eval o X.env) = eval o X.env := by rfl) (hline : (apos.endLine == cpos.line) = true := by rfl) : PE X (.Call (.Attribute o name apos) [] [] cpos) (tBM0 X.K T r to) := by
  intro pins s σ H Q I h
  refine wpAny_Call_method0_late hbase hline (thn (ho pins s σ H _ I h) fun v s1 ⟨x, H1, I1, r1, ty, q1⟩ => ?_)
  obtain ⟨h1, h2⟩ := tyV_is I1 r1 ty
  exact ⟨T, id, pa, slot, hty, h1, h2, Calls.callWith_builtin rfl (PySem.evalArgs_none (hm pins s1 σ H1 x [] v [] Q I1 r1 .nil q1))⟩
theorem pe_bm (pa : PlainAttrs T) (slot : Slot T name id) (hty : typeOf (.builtin id) = pure (.type "method_descriptor")) (hm : MtR X id r) (ho : PE X o to) (ha : PA X (e :: es) t)
    (hbase : attributeBase o name X.env (eval o X.env) = eval o X.env := by rfl)
    (hfew : ((backTo cpos (starEach (e :: es) X.env)).all (fun x => !x.1) && (backToKw cpos (keywordEach [] X.env)).all (fun x => x.1.isSome)
      && decide ((e :: es).length + ([] : List Keyword).length + (if ([] : List Keyword).isEmpty then 0 else 1) < 30)) = true := by rfl)
    (hline : (apos.endLine == cpos.line) = true := by rfl) (hs : starEach (e :: es) X.env = (false, eval e X.env) :: starEach es X.env := by rfl) (hplain : (backTo cpos (starEach es X.env)).any (·.1) = false := by rfl) :
    PE X (.Call (.Attribute o name apos) (e :: es) [] cpos) (tBM X.K T r to t) := by
  intro pins s σ H Q I h
  refine wpAny_Call_method_late hbase hfew hline rfl (thn (ho pins s σ H _ I h) fun v s1 ⟨x, H1, I1, r1, ty, q1⟩ => ?_)
  obtain ⟨h1, h2⟩ := tyV_is I1 r1 ty
  refine ⟨T, id, pa, slot, hty, h1, h2, ?_⟩
  have hA := ha cpos pins s1 σ H1 _ I1 q1
  rw [hs] at hA ⊢
  refine Calls.callWith_builtin (by show (false || (backTo cpos (starEach es X.env)).any (·.1)) = false; rw [hplain] <;> rfl) (Calls.evalArgs_plain ?_)
  exact thn hA fun us s2 ⟨vs, H2, I2, r2, q2⟩ => hm pins s2 σ H2 x vs v us Q I2 r1 r2 q2
/- xs.append(e), list.index on a module's tuple .. are MtR facts of 06m -/
end
end L2

namespace L2
open PySem PySem.Spec PyProof.Rows

def MtM (X : Cx) (id : String) (r : V → List V → Hp → VK → Prop) : Prop :=
  ∀ (pins : List (Addr × Obj)) (s : Shared) (σ : St) (H : Hp) (x : V) (xs : List V) (v : Value) (us : List Value) (Q : VK), Inv X pins σ H s → RelV x v → Vals xs us → r x xs H Q →
    wpAny (model X.prog X.w) X.A (call (.builtin id) (v :: us)) (EP X pins σ Q) X.xe s

/-! ### lists of values -/
theorem Vals.one : ∀ {x : V} {us : List Value}, Vals [x] us → ∃ u, us = [u] ∧ RelV x u
  | _, _, .cons r .nil => ⟨_, rfl, r⟩
theorem Vals.two : ∀ {x y : V} {us : List Value}, Vals [x, y] us → ∃ u v, us = [u, v] ∧ RelV x u ∧ RelV y v
  | _, _, _, .cons r (.cons q .nil) => ⟨_, _, rfl, r, q⟩
theorem Vals.zero : ∀ {us : List Value}, Vals [] us → us = []
  | _, .nil => rfl
theorem Vals.dropLast {xs : List V} {us : List Value} (h : Vals xs us) : Vals xs.dropLast us.dropLast := by
  induction h with
  | nil => exact .nil
  | cons r t ih =>
    cases t with
    | nil => exact .nil
    | cons q t' => exact .cons r ih
theorem Vals.eraseIdx : ∀ {xs : List V} {us : List Value} (i : Nat), Vals xs us → Vals (xs.eraseIdx i) (us.eraseIdx i)
  | _, _, _, .nil => .nil
  | _, _, 0, .cons _ t => t
  | _, _, i + 1, .cons r t => .cons r (Vals.eraseIdx i t)
theorem Vals.reverse {xs : List V} {us : List Value} (h : Vals xs us) : Vals xs.reverse us.reverse := by
  induction h with
  | nil => exact .nil
  | cons r t ih => rw [List.reverse_cons, List.reverse_cons]; exact Vals.append ih (.cons r .nil)
theorem Vals.rep {xs : List V} {us : List Value} (h : Vals xs us) : ∀ k : Nat, Vals (List.replicate k xs).flatten (List.replicate k us).flatten
  | 0 => .nil
  | k + 1 => by
    rw [List.replicate_succ, List.replicate_succ, List.flatten_cons, List.flatten_cons]
    exact Vals.append h (Vals.rep h k)
theorem erase_last {α : Type} (l : List α) : l.eraseIdx (l.length - 1) = l.dropLast := by
  induction l with
  | nil => rfl
  | cons a r ih =>
    cases r with
    | nil => rfl
    | cons b r =>
      have e : (a :: b :: r).length - 1 = ((b :: r).length - 1) + 1 := by
        have h1 : (a :: b :: r).length = r.length + 2 := rfl
        have h2 : (b :: r).length = r.length + 1 := rfl
        omega
      rw [e, List.eraseIdx_cons_succ, ih]
      all_goals rfl
theorem len_erase {α : Type} : ∀ (l : List α) (i : Nat), (l.eraseIdx i).length ≤ l.length
  | [], _ => Nat.le_refl _
  | _ :: _, 0 => Nat.le_succ _
  | _ :: r, i + 1 => Nat.succ_le_succ (len_erase r i)
theorem foldl_rep (its : List Value) : ∀ (k : Nat) (acc : List Value),
    List.foldl (fun x1 x2 => x1 ++ x2) acc.toArray (List.replicate k its.toArray) = (acc ++ (List.replicate k its).flatten).toArray
  | 0, acc => by simp
  | k + 1, acc => by
    have e : acc.toArray ++ its.toArray = (acc ++ its).toArray := by simp
    have e2 : (acc ++ its) ++ (List.replicate k its).flatten = acc ++ (List.replicate (k + 1) its).flatten := by
      rw [List.replicate_succ, List.flatten_cons, List.append_assoc]
    rw [← e2, ← foldl_rep its k (acc ++ its), ← e, List.replicate_succ, List.foldl_cons]

section
variable {X : Cx} {pins : List (Addr × Obj)} {σ : St} {H : Hp} {s : Shared} {l b : Addr} {xs ys zs : List V}

/-! ### the two steps: a tracked list is rewritten, a new list is laid -/
theorem Inv.lset {its its' : List Value} {n : Nat} {f : Array Value → Array Value} {t' : Nat} (I : Inv X pins σ H s) (hH : H l = some (.lst xs))
    (e : s.heap.get? l = some { cls := .type "list", data := .seq its.toArray n }) (hf : f its.toArray = its'.toArray) (hv : Vals ys its') (hz : ys.length ≤ sizeLine) :
    Inv X pins σ (upd H l (.lst ys)) { s with heap := s.heap.update l (Obj.mapSeq f), toks := t' } := by
  have q := PySem.IsL.update e f
  rw [hf] at q
  refine I.write (x := l) (e := l) (by rw [hH]; exact trivial) (.inl rfl) (fun b' u hb hu => (Heap.get?_update_other s.heap (Obj.mapSeq f) (Ne.symm hb)).trans hu) ⟨_, q⟩ ?_
  exact ⟨hz, its', _, hv, q⟩
theorem Inv.lnew {its : List Value} {t' : Nat} (I : Inv X pins σ H s) (hv : Vals ys its) (hz : ys.length ≤ sizeLine) :
    Inv X pins σ (upd H s.heap.objs.size (.lst ys)) { s with heap := s.heap.push { cls := .type "list", data := .seq its.toArray }, toks := t' } :=
  I.laid (fun _ _ q => Heap.get?_push_of_some _ q) (Nat.le_refl _) ⟨hz, its, 0, hv, Heap.get?_push_size _ rfl⟩
theorem Inv.fresh (I : Inv X pins σ H s) : H s.heap.objs.size = none := I.hok.fresh (Nat.le_refl _)
theorem Inv.lstM (I : Inv X pins σ H s) (hH : H l = some (.lst xs)) : xs.length ≤ sizeLine ∧ ∃ (its : List Value) (n : Nat), Vals xs its ∧ xs.length = its.length ∧ s.heap.get? l = some { cls := .type "list", data := .seq its.toArray n } := by
  obtain ⟨z, its, n, r, e⟩ := I.hok l _ hH
  exact ⟨z, its, n, r, r.length, e⟩

theorem notLongL {n : Nat} (h : n ≤ sizeLine) : Builtin.List.listTooLong n = false := by
  unfold Builtin.List.listTooLong
  exact decide_eq_false (by omega)
end

section
variable {X : Cx}

/-! ### methods -/
def rAppend : V → List V → Hp → VK → Prop := fun x vs H Q => ∃ l xs y, x = .ref l ∧ vs = [y] ∧ H l = some (.lst xs) ∧ xs.length < sizeLine ∧ Q .non (upd H l (.lst (xs ++ [y])))
theorem mt_append : MtM X "list.append" rAppend := by
  intro pins s σ H x vs v us Q I rx rv h
  obtain ⟨l, xs, y, rfl, rfl, hH, hz, q⟩ := h
  cases rx
  obtain ⟨u, rfl, ru⟩ := rv.one
  obtain ⟨z, its, n, r, hl, e⟩ := I.lstM hH
  refine call_meets F.slot_list_append ⟨_, e, rfl⟩ F.entry_list_append (F.args_list_append_2 _ _) (PySem.list_append l its.toArray n u (by rw [List.size_toArray]; omega)) ⟨e, ?_⟩
  refine ⟨.non, _, I.lset (its' := its ++ [u]) hH e (by simp) (r.append (.cons ru .nil)) ?_, rfl, q⟩
  rw [List.length_append, List.length_singleton]
  omega

def rExtend : V → List V → Hp → VK → Prop := fun x vs H Q => ∃ l b xs zs, x = .ref l ∧ vs = [.ref b] ∧ H l = some (.lst xs) ∧ H b = some (.lst zs) ∧ xs.length + zs.length ≤ sizeLine ∧ Q .non (upd H l (.lst (xs ++ zs)))
theorem mt_extend : MtM X "list.extend" rExtend := by
  intro pins s σ H x vs v us Q I rx rv h
  obtain ⟨l, b, xs, zs, rfl, rfl, hH, hB, hz, q⟩ := h
  cases rx
  obtain ⟨u, rfl, ru⟩ := rv.one
  cases ru
  obtain ⟨z, its, n, r, hl, e⟩ := I.lstM hH
  obtain ⟨z2, its2, n2, r2, hl2, e2⟩ := I.lstM hB
  have hsz : its.toArray.size + its2.toArray.size ≤ sizeLine := by rw [List.size_toArray, List.size_toArray]; omega
  have hlong : ¬ (!its.toArray.isEmpty && Builtin.List.listTooLong (its.toArray.size + its2.toArray.size)) = true := by
    rw [notLongL hsz, Bool.and_false]
    exact Bool.false_ne_true
  refine call_meets F.slot_list_extend ⟨_, e, rfl⟩ F.entry_list_extend (F.args_list_extend_2 _ _)
    (AutoSeq1.list_extend_list_list_0 l its.toArray n b its2.toArray n2 hlong (by rw [List.size_toArray]; omega) (by omega)) ⟨e, e2, ?_⟩
  refine ⟨.non, _, I.lset (its' := its ++ its2) hH e (by simp) (r.append r2) ?_, rfl, q⟩
  rw [List.length_append]
  omega

def rPop : V → List V → Hp → VK → Prop := fun x vs H Q => ∃ l xs y, x = .ref l ∧ vs = [] ∧ H l = some (.lst xs) ∧ xs[xs.length - 1]? = some y ∧ Q y (upd H l (.lst xs.dropLast))
theorem mt_pop : MtM X "list.pop" rPop := by
  intro pins s σ H x vs v us Q I rx rv h
  obtain ⟨l, xs, y, rfl, rfl, hH, hy, q⟩ := h
  cases rx
  have hus := rv.zero
  subst hus
  obtain ⟨z, its, n, r, hl, e⟩ := I.lstM hH
  obtain ⟨u, hu, ru⟩ := r.get hy
  have hy' : its.toArray[its.toArray.size - 1]? = some u := by
    show its.toArray[its.length - 1]? = some u
    rw [← Array.getElem?_toList, ← hl]
    exact hu
  refine call_meets F.slot_list_pop ⟨_, e, rfl⟩ F.entry_list_pop (F.args_list_pop_1 _) (MeetsSeq.list_pop_last l its.toArray n u hy' (by rw [List.size_toArray]; omega)) ⟨e, ?_⟩
  refine ⟨y, _, I.lset (its' := its.dropLast) hH e ?_ r.dropLast ?_, ru, q⟩
  · show its.toArray.eraseIdxIfInBounds (its.toArray.size - 1) = its.dropLast.toArray
    rw [List.size_toArray, List.eraseIdxIfInBounds_toArray, erase_last]
  · rw [List.length_dropLast]
    omega

def rPopAt : V → List V → Hp → VK → Prop := fun x vs H Q => ∃ l xs i k y, x = .ref l ∧ vs = [.int i] ∧ H l = some (.lst xs) ∧ -(2 ^ 63) ≤ i ∧ i < 2 ^ 63 ∧ seqIndex? i xs.length = some k ∧ xs[k]? = some y ∧ Q y (upd H l (.lst (xs.eraseIdx k)))
theorem mt_popAt : MtM X "list.pop" rPopAt := by
  intro pins s σ H x vs v us Q I rx rv h
  obtain ⟨l, xs, i, k, y, rfl, rfl, hH, h1, h2, hk, hy, q⟩ := h
  cases rx
  obtain ⟨u, rfl, ru⟩ := rv.one
  obtain ⟨t, rfl⟩ := ru
  obtain ⟨z, its, n, r, hl, e⟩ := I.lstM hH
  obtain ⟨w, hw, rw'⟩ := r.get hy
  refine call_meets F.slot_list_pop ⟨_, e, rfl⟩ F.entry_list_pop (F.args_list_pop_2 _ _)
    (MeetsSeq.list_pop_at l its.toArray n i t k w (fitsIndex_both h1 h2) (by rw [List.size_toArray, ← hl]; exact hk) (by rw [← Array.getElem?_toList]; exact hw) (by rw [List.size_toArray]; omega)) ⟨e, ?_⟩
  refine ⟨y, _, I.lset (its' := its.eraseIdx k) hH e ?_ (r.eraseIdx k) ?_, rw', q⟩
  · show its.toArray.eraseIdxIfInBounds k = (its.eraseIdx k).toArray
    rw [List.eraseIdxIfInBounds_toArray]
  · have := len_erase xs k
    omega

def rReverse : V → List V → Hp → VK → Prop := fun x vs H Q => ∃ l xs, x = .ref l ∧ vs = [] ∧ H l = some (.lst xs) ∧ Q .non (upd H l (.lst xs.reverse))
theorem mt_reverse : MtM X "list.reverse" rReverse := by
  intro pins s σ H x vs v us Q I rx rv h
  obtain ⟨l, xs, rfl, rfl, hH, q⟩ := h
  cases rx
  have hus := rv.zero
  subst hus
  obtain ⟨z, its, n, r, hl, e⟩ := I.lstM hH
  refine call_meets F.slot_list_reverse ⟨_, e, rfl⟩ F.entry_list_reverse (F.args_list_reverse_1 _) (AutoSeq1.list_reverse_list_0 l its.toArray n (by rw [List.size_toArray]; omega)) ⟨e, ?_⟩
  refine ⟨.non, _, I.lset (its' := its.reverse) hH e (by simp) r.reverse ?_, rfl, q⟩
  rw [List.length_reverse]
  omega

def rClear : V → List V → Hp → VK → Prop := fun x vs H Q => ∃ l xs, x = .ref l ∧ vs = [] ∧ H l = some (.lst xs) ∧ Q .non (upd H l (.lst []))
theorem mt_clear : MtM X "list.clear" rClear := by
  intro pins s σ H x vs v us Q I rx rv h
  obtain ⟨l, xs, rfl, rfl, hH, q⟩ := h
  cases rx
  have hus := rv.zero
  subst hus
  obtain ⟨z, its, n, r, hl, e⟩ := I.lstM hH
  refine call_meets F.slot_list_clear ⟨_, e, rfl⟩ F.entry_list_clear (F.args_list_clear_1 _) (AutoSeq1.list_clear_list_0 l its.toArray n (by rw [List.size_toArray]; omega)) ⟨e, ?_⟩
  exact ⟨.non, _, I.lset (its' := []) (ys := []) hH e rfl .nil (Nat.zero_le _), rfl, q⟩

/-! ### list + list, list += list, list * int -/
def rCat : R2 := fun x y H Q => ∃ l b xs zs, x = .ref l ∧ y = .ref b ∧ H l = some (.lst xs) ∧ H b = some (.lst zs) ∧ xs.length + zs.length ≤ sizeLine ∧ ∀ p, H p = none → Q (.ref p) (upd H p (.lst (xs ++ zs)))
theorem op_cat : OpR X (binaryOp .Add) rCat := by
  intro pins s σ H x y v u Q I rx ry h
  obtain ⟨l, b, xs, zs, rfl, rfl, hH, hB, hz, q⟩ := h
  cases rx
  cases ry
  obtain ⟨z, its, n, r, hl, e⟩ := I.lstM hH
  obtain ⟨z2, its2, n2, r2, hl2, e2⟩ := I.lstM hB
  refine PySem.P.add_list e e2 ?_ (by rw [List.size_toArray, List.size_toArray]; omega)
  have ea : its.toArray ++ its2.toArray = (its ++ its2).toArray := by simp
  rw [ea]
  exact ⟨.ref _, _, I.lnew (t' := s.toks) (r.append r2) (by rw [List.length_append]; omega), rfl, q _ I.fresh⟩
/-- a list times an int (a negative one is nothing) -/
def rRep : R2 := fun x y H Q => ∃ l k xs, x = .ref l ∧ y = .int k ∧ H l = some (.lst xs) ∧ -(2 ^ 63) ≤ k ∧ k < 2 ^ 63 ∧ xs.length * k.toNat ≤ sizeLine ∧
  ∀ p, H p = none → Q (.ref p) (upd H p (.lst (List.replicate k.toNat xs).flatten))
theorem len_rep {α : Type} (xs : List α) (k : Nat) : (List.replicate k xs).flatten.length = k * xs.length := by
  induction k with
  | zero => simp
  | succ k ih => rw [List.replicate_succ, List.flatten_cons, List.length_append, ih, Nat.succ_mul, Nat.add_comm]
theorem op_rep : OpR X (binaryOp .Mult) rRep := by
  intro pins s σ H x y v u Q I rx ry h
  obtain ⟨l, k, xs, rfl, rfl, hH, h1, h2, hz, q⟩ := h
  cases rx
  obtain ⟨t, rfl⟩ := ry
  obtain ⟨z, its, n, r, hl, e⟩ := I.lstM hH
  have hlen : its.toArray.size * k.toNat ≤ sizeLine := by rw [List.size_toArray, ← hl]; exact hz
  have hcap : ¬ its.toArray.size * k.toNat > (2 ^ 63 - 1) / 8 := by
    have : (sizeLine : Nat) ≤ (2 ^ 63 - 1) / 8 := by decide
    omega
  have hfit : ¬ (!Builtin.List.listFitsIndex k) = true := by
    rw [fitsIndex_both h1 h2]
    exact Bool.false_ne_true
  have hlong : ¬ Builtin.List.listTooLong (its.toArray.size * k.toNat) = true := by
    rw [notLongL hlen]
    exact Bool.false_ne_true
  have hnew : List.foldl (fun x1 x2 => x1 ++ x2) #[] (List.replicate (if its.toArray.isEmpty = true then 0 else k.toNat) its.toArray) = (List.replicate k.toNat its).flatten.toArray := by
    have f0 : ∀ m : Nat, List.foldl (fun x1 x2 => x1 ++ x2) #[] (List.replicate m its.toArray) = (List.replicate m its).flatten.toArray := fun m => by
      have := foldl_rep its m []
      rw [List.nil_append] at this
      exact this
    rw [f0]
    cases its with
    | nil => simp
    | cons a r' => rw [if_neg (by simp)]
  refine wpAny_binaryOp_repeat_ref (T := "list") (U := "int") (by decide) ⟨_, e, rfl⟩ (fun s' => typeIs_int s' k t) noFill_list_mul F.fills_int_mul F.slot_int_rmul repeat_list F.slot_int_index.lookup
    (call_meets F.slot_int_rmul (typeIs_int s k t) F.entry_int_rmul (F.args_int_rmul_2 _ _) (int___rmul___int_list k t l its.toArray n)
      ⟨e, rfl, ⟨_, e, rfl⟩, call_meets F.slot_list_mul ⟨_, e, rfl⟩ F.entry_list_mul (F.args_list_mul_2 _ _) (AutoListH.list___mul___list_int_3 l its.toArray n k t hfit hcap hlong) ⟨e, ?_⟩⟩)
  rw [hnew]
  exact ⟨.ref _, _, I.lnew (t' := s.toks) (r.rep k.toNat) (by rw [len_rep, Nat.mul_comm]; exact hz), rfl, q _ I.fresh⟩

/-! ### del xs[i] -/
theorem del_list {pins : List (Addr × Obj)} {s : Shared} {σ : St} {H : Hp} {l : Addr} {xs : List V} {i : Int} {t : Tok} {k : Nat} {Q : Unit → Shared → Prop} (I : Inv X pins σ H s) (hH : H l = some (.lst xs))
    (h1 : -(2 ^ 63) ≤ i) (h2 : i < 2 ^ 63) (hk : seqIndex? i xs.length = some k) (h : ∀ s', Inv X pins σ (upd H l (.lst (xs.eraseIdx k))) s' → Q () s') :
    wpAny (model X.prog X.w) X.A (delItem (.ref l) (.int i t)) Q X.xe s := by
  obtain ⟨z, its, n, r, hl, e⟩ := I.lstM hH
  refine PySem.P.delItem_list (k := k) e (fitsIndex_both h1 h2) (by rw [List.size_toArray, ← hl]; exact hk) (h _ ?_) (by rw [List.size_toArray]; omega)
  refine I.lset (its' := its.eraseIdx k) (t' := s.toks) hH e ?_ (r.eraseIdx k) ?_
  · show its.toArray.eraseIdxIfInBounds k = (its.eraseIdx k).toArray
    rw [List.eraseIdxIfInBounds_toArray]
  · have := len_erase xs k
    omega
end

/-! ### xs[a:b] = ys -/
section
variable {prog : Program} {w : World} {A : Around} {E : Value → Shared → Prop} {s : Shared}
theorem splice_eq (its its2 : List Value) (a c : Nat) : its.toArray.extract 0 a ++ its2.toArray ++ its.toArray.extract c its.toArray.size = (its.take a ++ its2 ++ its.drop c).toArray := by
  apply Array.toList_inj.mp
  first
    | (simp
       exact List.take_of_length_le (by simp))
    | simp [List.take_of_length_le]
    | simp
theorem bounds_run {a c n : Nat} (hac : a ≤ c) (hc : c ≤ n) : sliceBounds (some (a : Int)) (some (c : Int)) none n = ((a : Int), (c : Int), 1) := by
  simp only [sliceBounds, Option.getD_none]
  have h1 : ¬ ((a : Int) < 0) := by omega
  have h2 : ¬ ((c : Int) < 0) := by omega
  simp only [h1, h2, if_false, show (1 : Int) > 0 by decide, if_true]
  congr 1
  · omega
  · congr 1; omega
set_option maxRecDepth 100000 in
/-- list.__setitem__ with a slice of step one and another list -/
theorem setItem_slice {l b sl : Addr} {items new : Array Value} {n n2 : Nat} {vl vu : Value} {a c : Nat} {Q : Unit → Shared → Prop}
    (e : s.heap.get? l = some { cls := .type "list", data := .seq items n }) (e2 : s.heap.get? b = some { cls := .type "list", data := .seq new n2 }) (hne : l ≠ b)
    (hs : s.heap.IsSliceOf sl vl vu .none) (pl : IsPart vl (some (a : Int))) (pu : IsPart vu (some (c : Int))) (hac : a ≤ c) (hc : c ≤ items.size)
    (hsz : items.size + new.size ≤ sizeLine) (h : Q () { s with heap := s.heap.update l (Obj.mapSeq fun xs => xs.extract 0 a ++ new ++ xs.extract c xs.size) }) :
    wpAny (model prog w) A (setItem (.ref l) (.ref sl) (.ref b)) Q E s := by
  have hl : s.heap.IsList l items := PySem.IsL.isList e
  have hb : s.heap.IsList b new := PySem.IsL.isList e2
  obtain ⟨os, hos, hcs, hds⟩ := id hs
  have hTs : s.TypeIs (.ref sl) "slice" := ⟨os, hos, hcs⟩
  have hstep : ¬ ((rawPart none == rawInt 0) = true) := Bool.false_ne_true
  have hsame : Builtin.List.listSameRef (.ref l) (.ref b) = false := by
    unfold Builtin.List.listSameRef
    exact beq_eq_false_iff_ne.mpr hne
  have hmax : (max (a : Int) (c : Int)).toNat = c := by omega
  have hz' : ((fun xs : Array Value => xs.extract 0 a ++ new ++ xs.extract c xs.size) items).size ≤ sizeLine + 1 := by
    simp only [Array.size_append, Array.size_extract]
    omega
  unfold setItem
  try with_reducible refine wpAny_holding ?_
  first | refine wpAny_bind (wpAny_pure ?_) | skip
  refine wpAny_bind (wpAny_sequenceKey hl.typeIs (by decide) ?_)
  refine wpAny_bind (wpAny_callSpecial?_slot (name := Str.ofString "__setitem__") hl.typeIs slot_list_setitem
    (wpAny_call_entry slot_list_setitem hl.typeIs entry_list_setitem ?_ (args_list_setitem _ _ _)))
  show wpAny _ _ (Builtin.List.listSubscript? (.ref sl) >>= _) _ _ s
  refine wpAny_bind ?_
  unfold Builtin.List.listSubscript?
  refine wpAny_bind (wpAny_specialOf hTs slice_no_index ?_)
  simp only [Option.isNone_none, if_true]
  refine wpAny_pure ?_
  show wpAny _ _ (typeOf (.ref sl) >>= _) _ _ s
  refine wpAny_bind (wpAny_typeOf hTs ?_)
  first
    | rw [if_neg (by decide)]
    | refine PySem.W.KFB.if_not (by decide) ?_
  rw [listSliceParts_eq]
  refine wpAny_bind (wpAny_bind (wpAny_field hos hds (x := .none) rfl (wpAny_bind (wpAny_listPart .none ?_))))
  rw [if_neg hstep]
  refine wpAny_bind (wpAny_field hos hds (x := vl) rfl (wpAny_bind (wpAny_listPart pl ?_)))
  refine wpAny_bind (wpAny_field hos hds (x := vu) rfl (wpAny_bind (wpAny_listPart pu (wpAny_pure ?_))))
  first
    | simp only [hsame, Bool.false_eq_true, if_false]
    | refine PySem.W.KFB.if_not hsame ?_
    | (dsimp only
       rw [if_neg (by rw [hsame]; exact Bool.false_ne_true)])
  refine wpAny_bind (m := Builtin.List.listAllItems (.ref b) "must assign iterable to extended slice") ?_
  unfold Builtin.List.listAllItems
  refine wpAny_bind (wpAny_typeOf hb.typeIs ?_)
  first
    | refine PySem.W.KFB.if_so (by decide) ?_
    | rw [if_pos (by decide)]
    | simp only [beq_self_eq_true, Bool.true_or, if_true]
  unfold Builtin.List.listItems
  refine wpAny_bind (wpAny_seqItems e2 rfl (wpAny_pure ?_))
  refine wpAny_bind (wpAny_bind (wpAny_seqItems e rfl (wpAny_pure ?_)))
  refine wpAny_bind (wpAny_of_eq ((sliceIndices_raw (some (a : Int)) (some (c : Int)) none items.size (by simp)).trans (congrArg (pure : Int × Int × Int → Sem (Int × Int × Int)) (bounds_run hac hc))) ?_)
  show wpAny _ _ (if ((1 : Int) == 1) = true then _ else _) _ _ s
  rw [if_pos (by decide)]
  refine wpAny_bind (wpAny_rule ?_)
  first
    | simp only [notLongL hsz, Bool.false_eq_true, if_false]
    | refine PySem.W.KFB.if_not (notLongL hsz) ?_
  first | refine wpAny_bind (wpAny_pure ?_) | skip
  show wpAny _ _ (updateSeq l (fun xs => xs.extract 0 ((a : Int)).toNat ++ new ++ xs.extract (max (a : Int) (c : Int)).toNat xs.size) >>= _) _ _ s
  rw [hmax, Int.toNat_natCast]
  refine wpAny_bind (wpAny_updateSeq (hz := Nat.le_trans (Nat.le_add_right _ _) hsz) (_hz' := hz') e rfl ?_)
  refine wpAny_bind (wpAny_letGo ?_)
  first
    | exact wpAny_bind (wpAny_pure (wpAny_pure ⟨.none, rfl, wpAny_pure h⟩))
    | exact wpAny_pure ⟨.none, rfl, wpAny_pure h⟩
end

section
variable {X : Cx}
/-- xs[a:c] = ys of another list, at the value level: sl is the slice object that was just made -/
theorem set_slice {pins : List (Addr × Obj)} {s : Shared} {σ : St} {H : Hp} {l b sl : Addr} {xs ys : List V} {a c : Int} {vl vu : Value} {Q : Unit → Shared → Prop} (I : Inv X pins σ H s)
    (hH : H l = some (.lst xs)) (hB : H b = some (.lst ys)) (hne : l ≠ b) (hs : s.heap.IsSliceOf sl vl vu .none) (ra : RelV (.int a) vl) (rc : RelV (.int c) vu) (h0 : 0 ≤ a) (hac : a ≤ c) (hc : c ≤ xs.length)
    (hz : xs.length + ys.length ≤ sizeLine) (h : ∀ s', Inv X pins σ (upd H l (.lst (xs.take a.toNat ++ ys ++ xs.drop c.toNat))) s' → Q () s') :
    wpAny (model X.prog X.w) X.A (setItem (.ref l) (.ref sl) (.ref b)) Q X.xe s := by
  obtain ⟨ta, rfl⟩ := ra
  obtain ⟨tc, rfl⟩ := rc
  obtain ⟨z, its, n, r, hl, e⟩ := I.lstM hH
  obtain ⟨z2, its2, n2, r2, hl2, e2⟩ := I.lstM hB
  obtain ⟨a', rfl⟩ := Int.eq_ofNat_of_zero_le h0
  obtain ⟨c', rfl⟩ := Int.eq_ofNat_of_zero_le (Int.le_trans h0 hac)
  simp only [Int.toNat_natCast] at h
  refine setItem_slice (a := a') (c := c') e e2 hne hs (.int _ _) (.int _ _) (by omega) (by rw [List.size_toArray]; omega) (by rw [List.size_toArray, List.size_toArray]; omega) (h _ ?_)
  refine I.lset (its' := its.take a' ++ its2 ++ its.drop c') (t' := s.toks) hH e ?_ (Vals.append (Vals.append (r.take _) r2) (r.drop _)) ?_
  · exact splice_eq its its2 a' c'
  · rw [List.length_append, List.length_append, List.length_take, List.length_drop]
    omega
end
end L2

namespace Att
open PySem PySem.W PySem.Calls PyProof.Rows

/-! ### the script -/
theorem ints_of_wellAll {P : Params} {h : Heap} : ∀ (ns : List Int) (vs : List Value), WellAll P h vs (ns.map WData.int) → IntsAre vs ns := by
  intro ns
  induction ns with
  | nil =>
    intro vs w
    rw [List.map_nil] at w
    cases w
    exact .nil
  | cons n ns ih =>
    intro vs w
    rw [List.map_cons] at w
    cases w with
    | cons a b =>
      cases a
      exact .cons _ _ (ih _ b)

theorem script_of {l : OpenLaw} {n : Nat} (hn : l.most = some n) {P : Params} {h : Heap} {args : List WData} {vals : List Value}
    (hpre : l.row.toRowW.claim.pre args = true) (hwl : WellAll P h vals args) :
    ∃ a vs ns, vals = [Value.ref a] ∧ args = [WData.list (ns.map WData.int)] ∧ h.get? a = some { cls := .type "list", data := .seq vs.toArray } ∧ IntsAre vs ns ∧ ns.length ≤ n := by
  have hsh : WShape.hasAll [] args [.list .int] = true := (pre_splitW hpre).1
  have hc : l.pre.holds [] { args := args } = true := (pre_splitW hpre).2
  obtain ⟨d, r, rfl, h1, h2⟩ := hasAllW_cons hsh
  obtain rfl := hasAllW_nil h2
  obtain ⟨xs, rfl, h3⟩ := hasW_list h1
  obtain ⟨ns, rfl⟩ := items_int h3
  have hlen : ns.length ≤ n := by
    unfold OpenLaw.pre at hc
    have h4 : (WTm.not (.lt (.lit (.int (n : Int))) (.len (.arg 0)))).holds [] { args := [.list (ns.map .int)] } = true := by
      have h4 := (holds_andW hc).1
      rw [hn] at h4
      exact h4
    have h5 := condW_of h4 (w_not (w_lt w_lit (w_len_list (w_arg rfl))))
    rw [List.length_map] at h5
    refine Nat.le_of_not_lt fun q => ?_
    have q' : (n : Int) < ((ns.length : Nat) : Int) := by omega
    first
      | (rw [decide_eq_true q'] at h5; exact absurd h5 (by decide))
      | (simp at h5; omega)
  cases hwl with
  | cons w1 w2 =>
    cases w2
    cases w1 with
    | list ho hall => exact ⟨_, _, ns, rfl, rfl, ho, ints_of_wellAll ns _ hall, hlen⟩

theorem post_true (l : OpenLaw) (args : List WData) : l.row.toRowW.claim.post args (.bool true) args = true :=
  postW_of (r := l.row.toRowW) (X := (true == true))
    (show WShape.has [] (.bool true) .bool = true by first | rfl | decide | simp [WShape.has, WShape.arms, WShape.armsAll])
    (show (WTm.eq .res (.lit (.bool true))).value [] { args := args, res := some (.bool true), after := args } = some (.bool (true == true)) from w_eq_bool (w_res rfl) w_lit) rfl

/-! ### the attachment: holds_open's last premise (the goal 'hc' behind k_head) from a wpAny of the law's body -/
theorem attach {l : OpenLaw} {n : Nat} {q : Program} {loose : List Str} {XP : (Str → Option Value) → Heap → Prop} {YP : World → Heap → Prop} {d : DefRec} {x : Str}
    (hn : l.most = some n) (hdf : d.params.defaults = [])
    (hbind : ∀ pm cd doc v : Value, bindArgs (docDef d.name d.params d.body d.scope pm cd doc) ⟨[v], []⟩ = pure [(x, v)])
    (hx : d.scope.names.lookup x = some .local ∨ d.scope.names.lookup x = some .cell)
    (hk : d.scope.kind = .function) (hco : d.scope.isCoroutine = false) (hgen : d.scope.isGenerator = false)
    (body : ∀ (w : World) (s₀ s₁ s : Shared) (mg mb : Str → Option Value) (fa : Addr) (o : Obj) (pm cd doc : Value) (a : Addr) (vs : List Value) (ns : List Int),
      Ground q loose [] XP w s₀ mg mb s₁.heap → YP w s₁.heap →
      s₁.heap.get? fa = some o → o.data = .func (docDef d.name d.params d.body d.scope pm cd doc) → s₁.heap.CodeRec cd d.name → mg d.name = some (.ref fa) →
      s₁.heap.get? a = some { cls := .type "list", data := .seq vs.toArray } → IntsAre vs ns → ns.length ≤ n →
      s.gens = #[] → s.os = s₁.os →
      Fr s₁.heap s₁.heap.objs.size s.heap (bindL (envOfC d.name d.scope s₁.heap.objs.size fa cd).kindOf [(x, .ref a)] fun _ => none) →
      Cl s₁.heap.objs.size (cellsFrom (s₁.heap.objs.size + 1) d.scope.names []) s.heap (bindC (envOfC d.name d.scope s₁.heap.objs.size fa cd).kindOf [(x, .ref a)] fun _ => none) →
      wpAny (model l.prog w) (callerA.deeper (envOfC d.name d.scope s₁.heap.objs.size fa cd)) (execs d.body (envOfC d.name d.scope s₁.heap.objs.size fa cd))
        (fun f s' => f = .ret (.bool true) ∧ OldK s₁.heap s'.heap ∧ s'.os = s₁.os ∧ AllBare s'.gens) (fun _ _ => False) s) :
    WalkO q loose XP YP l.row.toRowW d [] (fun f vs => PySem.call f vs) := by
  intro w s₀ s₁ mg mb G Y fa o pm cd doc dV kV ho hd hcd hD hmg hg args vals as hpre hlay hrd hwl hlo
  obtain rfl : dV = .none := Dflts.none hD hdf
  obtain rfl : kV = .none := Dflts.noKw hD
  obtain ⟨a, vs, ns, rfl, rfl, hobj, hints, hlen⟩ := script_of hn hpre hwl
  refine enter_call ?_
  refine call_cells_ret (o := o) (by rw [depth_caller]; decide) ho (fd_plain hd) G.T.nolimit hcd (hbind pm cd doc (.ref a)) (fun y hy => ?_) (fun h₁ tk F X => ?_) hco hgen hk
  · obtain rfl : y = (x, Value.ref a) := List.mem_singleton.mp hy
    rcases hx with e | e
    · exact .inl e
    · exact .inr ⟨e, cellsFrom_some _ _ _ (.inl e)⟩
  · refine wpAny_mono (body w s₀ s₁ { s₁ with heap := h₁, toks := tk } mg mb fa o pm cd doc a vs ns G Y ho (fd_plain hd) hcd hmg hobj hints hlen hg rfl F X) (fun f s' hq => ?_) (fun _ _ hq => hq)
    obtain ⟨rfl, h2, h3, h4⟩ := hq
    exact ⟨.inl ⟨.bool true, .bool true, [], rfl, fun _ => rfl, .bool true, post_true l _, fun _ => ⟨List.Pairwise.nil, fun _ hm => (nomatch hm)⟩⟩, h2, h3, h4⟩

/-- the same from a codeAny of the CALL (for a layer whose function contracts speak of calls) -/
theorem attach_call {l : OpenLaw} {n : Nat} {q : Program} {loose : List Str} {XP : (Str → Option Value) → Heap → Prop} {YP : World → Heap → Prop} {d : DefRec}
    (hn : l.most = some n) (hdf : d.params.defaults = [])
    (call : ∀ (w : World) (s₀ s₁ : Shared) (mg mb : Str → Option Value) (fa : Addr) (o : Obj) (pm cd doc : Value) (a : Addr) (vs : List Value) (ns : List Int),
      Ground q loose [] XP w s₀ mg mb s₁.heap → YP w s₁.heap →
      s₁.heap.get? fa = some o → o.data = .func (docDef d.name d.params d.body d.scope pm cd doc) → s₁.heap.CodeRec cd d.name → mg d.name = some (.ref fa) →
      s₁.heap.get? a = some { cls := .type "list", data := .seq vs.toArray } → IntsAre vs ns → ns.length ≤ n → s₁.gens = #[] →
      codeAny (model l.prog w) callerA (.call (.ref fa) ⟨[.ref a], []⟩) (fun r s' => r = .ok (.ret (.bool true)) ∧ OldK s₁.heap s'.heap ∧ s'.os = s₁.os ∧ AllBare s'.gens) s₁) :
    WalkO q loose XP YP l.row.toRowW d [] (fun f vs => PySem.call f vs) := by
  intro w s₀ s₁ mg mb G Y fa o pm cd doc dV kV ho hd hcd hD hmg hg args vals as hpre hlay hrd hwl hlo
  obtain rfl : dV = .none := Dflts.none hD hdf
  obtain rfl : kV = .none := Dflts.noKw hD
  obtain ⟨a, vs, ns, rfl, rfl, hobj, hints, hlen⟩ := script_of hn hpre hwl
  refine enter_call (codeAny_mono (call w s₀ s₁ mg mb fa o pm cd doc a vs ns G Y ho (fd_plain hd) hcd hmg hobj hints hlen hg) fun r s' hq => ?_)
  obtain ⟨rfl, h2, h3, h4⟩ := hq
  exact ⟨.inl ⟨.bool true, .bool true, [], rfl, fun _ => rfl, .bool true, post_true l _, fun _ => ⟨List.Pairwise.nil, fun _ hm => (nomatch hm)⟩⟩, h2, h3, h4⟩

/-- the same where the top left finished generators (o_head chose holds_openN): nothing may have changed at all and no generator may be left -/
theorem attachN {l : OpenLaw} {n : Nat} {q : Program} {loose : List Str} {XP : (Str → Option Value) → Heap → Prop} {YP : World → Heap → Prop} {d : DefRec} {x : Str}
    (hn : l.most = some n) (hdf : d.params.defaults = [])
    (hbind : ∀ pm cd doc v : Value, bindArgs (docDef d.name d.params d.body d.scope pm cd doc) ⟨[v], []⟩ = pure [(x, v)])
    (hx : d.scope.names.lookup x = some .local ∨ d.scope.names.lookup x = some .cell)
    (hk : d.scope.kind = .function) (hco : d.scope.isCoroutine = false) (hgen : d.scope.isGenerator = false)
    (body : ∀ (w : World) (s₀ s₁ s : Shared) (mg mb : Str → Option Value) (fa : Addr) (o : Obj) (pm cd doc : Value) (a : Addr) (vs : List Value) (ns : List Int),
      Ground q loose [] XP w s₀ mg mb s₁.heap → YP w s₁.heap →
      s₁.heap.get? fa = some o → o.data = .func (docDef d.name d.params d.body d.scope pm cd doc) → s₁.heap.CodeRec cd d.name → mg d.name = some (.ref fa) →
      s₁.heap.get? a = some { cls := .type "list", data := .seq vs.toArray } → IntsAre vs ns → ns.length ≤ n →
      s.gens = #[] → s.os = s₁.os →
      Fr s₁.heap s₁.heap.objs.size s.heap (bindL (envOfC d.name d.scope s₁.heap.objs.size fa cd).kindOf [(x, .ref a)] fun _ => none) →
      Cl s₁.heap.objs.size (cellsFrom (s₁.heap.objs.size + 1) d.scope.names []) s.heap (bindC (envOfC d.name d.scope s₁.heap.objs.size fa cd).kindOf [(x, .ref a)] fun _ => none) →
      wpAny (model l.prog w) (callerA.deeper (envOfC d.name d.scope s₁.heap.objs.size fa cd)) (execs d.body (envOfC d.name d.scope s₁.heap.objs.size fa cd))
        (fun f s' => f = .ret (.bool true) ∧ (∀ b o, s₁.heap.get? b = some o → s'.heap.get? b = some o) ∧ s'.os = s₁.os ∧ s'.gens = #[]) (fun _ _ => False) s) :
    WalkN q loose XP YP l.row.toRowW d [] (fun f vs => PySem.call f vs) := by
  intro w s₀ s₁ mg mb G Y fa o pm cd doc dV kV ho hd hcd hD hmg hg args vals as hpre hlay hrd hwl hlo
  obtain rfl : dV = .none := Dflts.none hD hdf
  obtain rfl : kV = .none := Dflts.noKw hD
  obtain ⟨a, vs, ns, rfl, rfl, hobj, hints, hlen⟩ := script_of hn hpre hwl
  refine enter_callW ?_
  refine call_cells_ret (o := o) (by rw [depth_caller]; decide) ho (fd_plain hd) G.T.nolimit hcd (hbind pm cd doc (.ref a)) (fun y hy => ?_) (fun h₁ tk F X => ?_) hco hgen hk
  · obtain rfl : y = (x, Value.ref a) := List.mem_singleton.mp hy
    rcases hx with e | e
    · exact .inl e
    · exact .inr ⟨e, cellsFrom_some _ _ _ (.inl e)⟩
  · refine wpAny_mono (body w s₀ s₁ { s₁ with heap := h₁, toks := tk } mg mb fa o pm cd doc a vs ns G Y ho (fd_plain hd) hcd hmg hobj hints hlen hg rfl F X) (fun f s' hq => ?_) (fun _ _ hq => hq)
    obtain ⟨rfl, h2, h3, h4⟩ := hq
    exact ⟨.inl ⟨.bool true, .bool true, [], rfl, fun _ => rfl, .bool true, post_true l _, fun _ => ⟨List.Pairwise.nil, fun _ hm => (nomatch hm)⟩⟩, h2, h3, h4⟩

/-! ### rules over ANY heap (no ledger) from facts about the written part K: the library's own take a ledger (News) for what they write -/
section
variable {prog : Program} {w : World} {A : Around} {E : Value → Shared → Prop} {s : Shared} {K : Frag}

/-- a def of the module, or a method (qual 'C.m'), entered: the frame is the next address; cells behind it -/
theorem call_fn {R : Result → Shared → Prop} {name qual : Str} {params : Arguments} {body : List Stmt} {scope : Scope} {dV kV doc pm cdv ct oc : Value} {an od : Option Addr} {osl : Array (Option Value)} {f : Addr} {args : Args} {binds : List (Str × Value)}
    (X : K.In s.heap) (hlim : s.heap.NoLimit) (ho : K.lookup f = some ⟨oc, od, .func (fnOf name qual params body scope dV kV doc pm an cdv ct), osl⟩) (hcd : codeIn K cdv qual = true) (hroom : A.depth < recursionLimit)
    (hbind : BindsTo s (fnOf name qual params body scope dV kV doc pm an cdv ct) args binds)
    (hkind : (binds.all fun y => scope.names.lookup y.1 == some .local || scope.names.lookup y.1 == some .cell) = true)
    (h : ∀ s₁, InCallC s s.heap.objs.size (bindL (envOfC qual scope s.heap.objs.size f cdv).kindOf binds fun _ => none) (cellsFrom (s.heap.objs.size + 1) scope.names [])
        (bindC (envOfC qual scope s.heap.objs.size f cdv).kindOf binds fun _ => none) s₁ →
      wpAny (model prog w) (A.deeper (envOfC qual scope s.heap.objs.size f cdv)) (execs body (envOfC qual scope s.heap.objs.size f cdv))
        (fun fl s' => R (.ok (.ret (match fl with | .ret v => v | _ => .none))) s')
        (fun e s' => wpAny (model prog w) (A.deeper (envOfC qual scope s.heap.objs.size f cdv)) (leaving (envOfC qual scope s.heap.objs.size f cdv) e) (fun _ s'' => R (.error e) s'') (fun e' s'' => R (.error e') s'') s') s₁)
    (hco : scope.isCoroutine = false) (hgen : scope.isGenerator = false) (hk : scope.kind = .function) : codeAny (model prog w) A (.call (.ref f) args) R s := by
  refine codeAny_call_function hroom (X _ _ ho) rfl hco hgen rfl (codeRec_of X hcd) (hbind _ _ _ _ ?_)
  refine wpAny_newFunctionEnv_cells hk (kindsX hkind _) fun env he s₁ x => ?_
  subst he
  exact ⟨hlim.keeps x.toInCall.keep, codeAny_func (h s₁ x)⟩

/-- C(..): dict at size, instance at size + 1, then __init__ -/
theorem make_obj {R : Result → Shared → Prop} {C fI : Addr} {rest : List Value} {kw : List (Str × Value)}
    (X : K.In s.heap) (hm : makesIn K C = true) (hi : findIn K (.ref C) "__init__" = some (some (.ref fI))) (hf : isFn K (.ref fI) = true)
    (h : codeAny (model prog w) (A.under (.builtin "type.__call__" ⟨.ref C :: rest, kw⟩)) (.call (.ref fI) ⟨.ref (s.heap.objs.size + 1) :: rest, kw⟩) (InitBack (s.heap.objs.size + 1) R)
      { s with heap := (s.heap.push emptyDict).push (instObj C s.heap.objs.size) }) : codeAny (model prog w) A (.call (.ref C) ⟨rest, kw⟩) R s := by
  obtain ⟨hh, g, d, t, os⟩ := s
  exact make_core (makes_of X hm) (looks_findIn X hi) (fun self => bind_fn X self (beq_iff_eq.mp hf)) (.inl rfl) h

/-- x.name where the instance's dict holds the name and the class does not -/
theorem get_field {x C : Addr} {ox : Obj} {es : List DictEntry} {n : Nat} {name : Str} {expr : Bool} {v : Value} {Q : Value → Shared → Prop}
    (X : K.In s.heap) (I : PySem.W.InstAt s.heap x ox C (some (dictOf es n))) (hg : plainGet K C name = true) (hh : hasDictIn K C = true) (ha : findIn K (.ref C) name = some none)
    (hl : getL name es = some (some v)) (hv : handedIn v = true) (h : Q v { s with toks := s.toks + 1 }) : wpAny (model prog w) A (getAttr (.ref x) name expr) Q E s :=
  get_value X I (plainGet_of hg).1 (findObj_own hh ha rfl hl) hv h

/-- x.m(..): the method found in the class -/
theorem get_method {x C f : Addr} {ox : Obj} {es : List DictEntry} {n : Nat} {name : Str} {pl : Sem Bool} {Q : Value × List Value → Shared → Prop}
    (X : K.In s.heap) (I : PySem.W.InstAt s.heap x ox C (some (dictOf es n))) (hg : plainGet K C name = true) (hf : findIn K (.ref C) name = some (some (.ref f))) (ht : isFn K (.ref f) = true)
    (hl : getL name es = some none) (h : Q (.ref f, [.ref x]) s) : wpAny (model prog w) A (getMethod (.ref x) name pl) Q E s :=
  method_fn X I (plainGet_of hg).1 (plainGet_of hg).2 hf (beq_iff_eq.mp ht) (by show (lookIn name (dictOf es n)).map _ = _; rw [lookIn_dict, hl]; rfl) h

/-! the whole heap as the ledger: makes every rule that writes through a ledger a rule over any heap -/
def noObjs (h : Heap) : Heap := { h with objs := #[] }
theorem noObjs_get (h : Heap) (b : Addr) : (noObjs h).get? b = none := by
  cases e : (noObjs h).get? b with
  | none => rfl
  | some o => exact absurd (Heap.lt_size e) (Nat.not_lt_zero _)
def ledger (h : Heap) (L d : Addr) : List (Addr × Obj) := (List.range h.objs.size).filterMap fun a => if a = L ∨ a = d then none else (h.get? a).map fun o => (a, o)
theorem mem_ledger {h : Heap} {L d a : Addr} {o : Obj} : (a, o) ∈ ledger h L d ↔ a ≠ L ∧ a ≠ d ∧ h.get? a = some o := by
  unfold ledger
  rw [List.mem_filterMap]
  constructor
  · rintro ⟨b, _, e⟩
    split at e
    · cases e
    · rename_i hb
      obtain ⟨o', ho, e'⟩ := Option.map_eq_some_iff.mp e
      cases e'
      exact ⟨fun q => hb (.inl q), fun q => hb (.inr q), ho⟩
  · rintro ⟨n1, n2, ho⟩
    refine ⟨a, List.mem_range.mpr (Heap.lt_size ho), ?_⟩
    rw [if_neg (show ¬ (a = L ∨ a = d) from fun q => q.elim n1 n2), ho] <;> rfl
theorem news_ledger {h : Heap} {L d : Addr} {od : Obj} (hne : d ≠ L) (ho : h.get? d = some od) : News (noObjs h) L h ([] ++ (d, od) :: ledger h L d) := by
  rintro ⟨a, o⟩ hp
  rcases List.mem_cons.mp hp with e | hp
  · cases e
    exact ⟨ho, hne, noObjs_get _ _⟩
  · obtain ⟨n1, n2, e⟩ := mem_ledger.mp hp
    exact ⟨e, n1, noObjs_get _ _⟩
theorem fr_all {h : Heap} {L : Addr} {m : Str → Option Value} (n : h.Ns L m) : Fr (noObjs h) L h m :=
  ⟨n, fun b o e => (by rw [noObjs_get] at e; cases e), Nat.zero_le _⟩
/-- Upd of the head entry (for append_K, setItem_K ..) -/
theorem upd_ledger {h : Heap} {L d : Addr} {o o' : Obj} : Upd d o o' ((d, o) :: ledger h L d) ((d, o') :: ledger h L d) :=
  .head fun ⟨_, _⟩ hp => (mem_ledger.mp hp).2.1

/-- x.name = v over any heap: L is any namespace of the heap (the frame's, say): its map stays, its object is not told; all else but the dict stays -/
theorem set_field {x C dx L : Addr} {ox : Obj} {m : Str → Option Value} {es es' : List DictEntry} {n n' : Nat} {name : Str} {v : Value} {Q : Unit → Shared → Prop}
    (X : K.In s.heap) (I : PySem.W.InstAt s.heap x ox C (some (dictOf es n))) (hd : ox.dict = some dx) (hL : s.heap.Ns L m) (hne : dx ≠ L)
    (hs : findIn K (.ref C) "__setattr__" = some (some (.builtin "object.__setattr__"))) (hp : plainOver K C = true) (ht : takerIn K C name = some none) (hh : hasDictIn K C = true) (hl : (getL name es).isSome = true)
    (e : (putL name (PyData.keyHash w.params name) (.str name (s.toks + 1)) v es, putN name es n) = (es', n')) (hz : es'.length ≤ 1000)
    (h : ∀ h' : Heap, h'.Ns L m → h'.get? dx = some (dictOf es' n') → (∀ b o, b ≠ dx → b ≠ L → s.heap.get? b = some o → h'.get? b = some o) → Q () { s with heap := h', toks := s.toks + 2 }) :
    wpAny (model prog w) A (setAttr (.ref x) name v) Q E s := by
  obtain ⟨e1, e2⟩ := Prod.mk.inj e
  have hdx : s.heap.get? dx = some (dictOf es n) := by
    have := I.dict
    rw [hd] at this
    exact this
  refine set_plain X I hs (osa_dict (s := { s with toks := s.toks + 1 }) (h₀ := noObjs s.heap) (L := L) (m := m) (od := dictOf es n) (od' := dictOf es' n') (es := es') (n := n') (pre := []) (post := ledger s.heap L dx)
    (fr_all hL) (news_ledger hne hdx) X I hd hp ht hh hl (fun _ q => nomatch q) (fun ⟨_, _⟩ q => (mem_ledger.mp q).2.1) (by rw [putName_dict, e1, e2]) rfl hz fun h' F' N' => ?_)
  exact h h' F'.ns (N'.get (List.Mem.head _)) fun b o n1 n2 ho => N'.get (List.Mem.tail _ (mem_ledger.mpr ⟨n2, n1, ho⟩))
end
end Att

namespace L2
open PySem PySem.Spec PyProof.Rows

theorem vals_ints : ∀ {vs : List Value} {ns : List Int}, IntsAre vs ns → Vals (ns.map V.int) vs
  | _, _, .nil => .nil
  | _, _, .cons n t h => .cons ⟨t, rfl⟩ (vals_ints h)

/-- nothing is tracked but the script, known to the object (or it is an object of the module) -/
def Only (H : Hp) : Prop := ∀ b, H b = none ∨ ∃ o xs, H b = some (.frz o (.lst xs))

/-- THE HEAD: the law's promise, at the heap behind the top. F, the promise of the law's def, may use that base is part of the heap (so K.In base, base.Ns mainGlobals mg stand in Mod) -/
theorem law_call {P : Program} {w : World} {K : PySem.W.Frag} {mg mb : Str → Option Value} {CX : CXT} {k : Nat} {fa a : Addr} {fd : FuncData} {x : Str} {sp : Sp} {s₁ : Shared} {vs : List Value} {ns : List Int}
    (KX : K.In s₁.heap) (hns : s₁.heap.Ns mainGlobals mg) (hb : s₁.heap.Ns builtinsNs mb) (hbb : ∀ x : Str, x ≠ "__name__" → mb x = bootBuiltins x) (hlim : s₁.heap.NoLimit) (hg : s₁.gens = #[])
    (ha : s₁.heap.get? a = some { cls := .type "list", data := .seq vs.toArray }) (hi : IntsAre vs ns) (hl : ns.length ≤ sizeLine) (hr : Room k callerA)
    (F : ∀ base : Heap, K.In base → base.Ns mainGlobals mg → FnOk P w K mg base CX k fa fd [x] sp) (hbind : ∀ (s : Shared) (u : Value), BindsTo s fd ⟨[u], []⟩ [(x, u)])
    (hsp : ∀ H : Hp, Only H → SqL K H a (ns.map V.int) → sp [.ref a] H (fun v _ => v = .bl true) fun _ _ _ => False)
    (hCX : ∀ H e s', CX [] H s₁ (fun _ _ _ => False) e s' → False) :
    codeAny (model P w) callerA (.call (.ref fa) ⟨[.ref a], []⟩) (fun r s' => r = .ok (.ret (.bool true)) ∧ OldK s₁.heap s'.heap ∧ s'.os = s₁.os ∧ AllBare s'.gens) s₁ := by
  have rv := vals_ints hi
  have lenV := hi.length
  -- from an abstract heap in which nothing but the script may be tracked
  have core : ∀ H : Hp, Only H → SqL K H a (ns.map V.int) → HOk P w H s₁.heap → (∀ b, H b ≠ none → b = a) → (H a ≠ none → K.lookup a = none) →
      codeAny (model P w) callerA (.call (.ref fa) ⟨[.ref a], []⟩) (fun r s' => r = .ok (.ret (.bool true)) ∧ OldK s₁.heap s'.heap ∧ s'.os = s₁.os ∧ AllBare s'.gens) s₁ := by
    intro H hO hS hok hA hK
    have base_of : ∀ {b : Addr} {o : Obj}, s₁.heap.get? b = some o → H b = none → (hidT s₁.heap H).get? b = some o := fun e n => hidT_get e n
    have noA : ∀ {b : Addr} {o : Obj} {es : Array DictEntry} {ep : Nat}, s₁.heap.get? b = some o → o.data = .dict es ep → H b = none := fun {b o es ep} e d => by
      cases q : H b with
      | none => rfl
      | some u =>
        have e' : b = a := hA b (by rw [q]; simp)
        subst e'
        rw [ha] at e; cases e
        have d' : Data.seq vs.toArray _ = Data.dict es ep := d
        cases d'
    have nsK : ∀ {b : Addr} {m : Str → Option Value}, s₁.heap.Ns b m → (hidT s₁.heap H).Ns b m := fun {b m} ⟨o, es, ep, e, d, r⟩ => ⟨o, es, ep, base_of e (noA e d), d, r⟩
    have hKb : K.In (hidT s₁.heap H) := fun b o e => base_of (KX b o e) (by
      cases q : H b with
      | none => rfl
      | some u =>
        have e' : b = a := hA b (by rw [q]; simp)
        subst e'
        rw [hK (by rw [q]; simp)] at e; cases e)
    have hM : Mod K mg (hidT s₁.heap H) := ⟨hKb, nsK hns, ⟨mb, nsK hb, hbb⟩, let ⟨mc, h1, h2⟩ := hlim; ⟨mc, nsK h1, h2⟩⟩
    have e0 : Env0 P w K mg (hidT s₁.heap H) callerA [] s₁ H := ⟨rfl, hM, fun b o e => of_hidT e, Nat.le_of_eq (hidT_size _ _), trivial, fun b hb => absurd (show b ∈ ([] : List Addr) from hb) (by simp), hok, .of_eq hg⟩
    refine codeAny_mono ((F _ hKb (nsK hns)).run callerA [] s₁ H ⟨[.ref a], []⟩ [.ref a] [.ref a] _ _ hr e0 (hbind s₁ (.ref a)) (.cons rfl .nil) (hsp H hO hS)) fun r s' h => ?_
    cases r with
    | error e => exact (hCX H e s' h).elim
    | ok fl =>
      cases fl with
      | next => exact False.elim h
      | brk => exact False.elim h
      | cont => exact False.elim h
      | ret u =>
        obtain ⟨v, H', os, bare, un, hok', r', q⟩ := h
        have q' : v = .bl true := q
        subst q'
        obtain rfl : u = Value.bool true := r'
        refine ⟨rfl, OldK.of_keep fun b o e => ?_, os, bare⟩
        cases q : H b with
        | none => exact un.keep b o e q (by intro z; exact absurd (show b ∈ ([] : List Addr) from z) (by simp)) (by simp)
        | some u =>
          rcases hO b with z | ⟨ob, xs, z⟩
          · rw [q] at z; cases z
          · have z2 := un.frzs b ob _ z
            obtain ⟨e1, _⟩ := hok b _ z
            obtain ⟨e2, _⟩ := hok' b _ z2
            rw [e] at e1; cases e1
            exact e2
  cases hk : K.lookup a with
  | some o =>
    -- the script is one of the module's own objects
    have e := KX a o hk
    rw [ha] at e
    cases e
    refine core (fun _ => none) (fun _ => .inl rfl) (.inr ⟨_, vs.toArray, _, hk, rfl, rfl, rfl, by rw [List.size_toArray, lenV]; exact hl, by simpa using rv⟩) (fun b u z => by have z' : (none : Option HO) = some u := z; cases z') (fun b z => absurd rfl z) fun z => absurd rfl z
  | none =>
    refine core (fun b => if b = a then some (.frz { cls := .type "list", data := .seq vs.toArray } (.lst (ns.map V.int))) else none) (fun b => ?_) (.inl (.inr ⟨{ cls := .type "list", data := .seq vs.toArray }, if_pos rfl⟩)) (fun b u z => ?_) (fun b z => ?_) fun _ => hk
    · by_cases hb : b = a
      · exact .inr ⟨_, _, if_pos hb⟩
      · exact .inl (if_neg hb)
    · by_cases hb : b = a
      · have z' := (if_pos hb).symm.trans z
        cases z'
        subst hb
        exact ⟨ha, by rw [List.length_map]; exact hl, vs, _, rv, ha⟩
      · have z' := (if_neg hb).symm.trans z
        cases z'
    · by_cases hb : b = a
      · exact hb
      · exact absurd (if_neg hb) z
end L2

namespace L2
open PySem PySem.Spec PyProof.Rows

abbrev KOf {K : PySem.W.Frag} {h : Heap} (_ : K.In h) : PySem.W.Frag := K

/-- the goal that k_head leaves (case hc), from the law's promise. F gives the function object fd (K's own) once, then the promise over every base -/
theorem walk_of {l : PySem.W.OpenLaw} {n k : Nat} {q : Program} {loose : List Str} {XP : (Str → Option Value) → Heap → Prop} {YP : World → Heap → Prop} {d : DefRec} {K : Params → PySem.W.Frag} {CX : World → CXT} {sp : World → Sp} {x : Str}
    (hn : l.most = some n) (hn2 : n ≤ sizeLine) (hdf : d.params.defaults = []) (hr : Room k callerA)
    (hY : ∀ (w : World) (h : Heap), YP w h → (K w.params).In h)
    (F : ∀ (w : World) (mg : Str → Option Value) (fa : Addr) (h : Heap), (K w.params).In h → h.Ns mainGlobals mg → mg d.name = some (.ref fa) →
      ∃ fd : FuncData, (∀ (s : Shared) (u : Value), BindsTo s fd ⟨[u], []⟩ [(x, u)]) ∧
        ∀ base : Heap, (K w.params).In base → base.Ns mainGlobals mg → FnOk l.prog w (K w.params) mg base (CX w) k fa fd [x] (sp w))
    (hsp : ∀ (w : World) (H : Hp) (a : Addr) (ns : List Int), ns.length ≤ n → Only H → SqL (K w.params) H a (ns.map V.int) → sp w [.ref a] H (fun v _ => v = .bl true) fun _ _ _ => False)
    (hCX : ∀ (w : World) (H : Hp) (s : Shared) (e : Value) (s' : Shared), CX w [] H s (fun _ _ _ => False) e s' → False) :
    PySem.W.WalkO q loose XP YP l.row.toRowW d [] (fun f vs => PySem.call f vs) := by
  refine Att.attach_call hn hdf fun w s₀ s₁ mg mb fa o pm cd doc a vs ns G Y ho hd hcd hmg hobj hints hlen hg => ?_
  have KX := hY w _ Y
  obtain ⟨fd, hb, hF⟩ := F w mg fa _ KX G.T.g hmg
  exact law_call KX G.T.g G.T.b G.T.builtins G.T.nolimit hg hobj hints (Nat.le_trans hlen hn2) hr hF hb (fun H hO hS => hsp w H a ns hlen hO hS) fun H e s' => hCX w H s₁ e s'
/-- the same where the promise hangs on the written part alone: (sp := My.sp_law), no hole under a binder -/
theorem walk_ofK {l : PySem.W.OpenLaw} {n k : Nat} {q : Program} {loose : List Str} {XP : (Str → Option Value) → Heap → Prop} {YP : World → Heap → Prop} {d : DefRec} {K : Params → PySem.W.Frag} {CX : CXT} {sp : PySem.W.Frag → Sp} {x : Str}
    (hn : l.most = some n) (hn2 : n ≤ sizeLine) (hdf : d.params.defaults = []) (hr : Room k callerA)
    (hY : ∀ (w : World) (h : Heap), YP w h → (K w.params).In h)
    (F : ∀ (w : World) (mg : Str → Option Value) (fa : Addr) (h : Heap), (K w.params).In h → h.Ns mainGlobals mg → mg d.name = some (.ref fa) →
      ∃ fd : FuncData, (∀ (s : Shared) (u : Value), BindsTo s fd ⟨[u], []⟩ [(x, u)]) ∧
        ∀ base : Heap, (K w.params).In base → base.Ns mainGlobals mg → FnOk l.prog w (K w.params) mg base CX k fa fd [x] (sp (K w.params)))
    (hsp : ∀ (K : PySem.W.Frag) (H : Hp) (a : Addr) (ns : List Int), ns.length ≤ n → Only H → SqL K H a (ns.map V.int) → sp K [.ref a] H (fun v _ => v = .bl true) fun _ _ _ => False)
    (hCX : ∀ (H : Hp) (s : Shared) (e : Value) (s' : Shared), CX [] H s (fun _ _ _ => False) e s' → False) :
    PySem.W.WalkO q loose XP YP l.row.toRowW d [] (fun f vs => PySem.call f vs) :=
  walk_of (K := K) (CX := fun _ => CX) (sp := fun w => sp (K w.params)) hn hn2 hdf hr hY F (fun w H a ns h1 h2 h3 => hsp (K w.params) H a ns h1 h2 h3) fun _ H s e s' => hCX H s e s'
end L2

/- THE LAST THEOREM (shape; LID, My.* are yours):
   My.Adr: a structure of the addresses that your layer names (classes, functions); My.Txt K t: a structure (Prop) of the equations over K;
   My.txt_mk : {K} {implicit addresses ..} (e1 : nsIn K mainGlobals "law" = some (some (.ref f))) (e2 : K.lookup f = some ⟨oc, od, .func (fnOf "law" "law" params body scope dV kV doc pm an cdv ct), sl⟩) (e3 : codeIn K cdv "law" = true) .. : ∃ t, My.Txt K t

set_option maxRecDepth 100000 in
set_option maxHeartbeats 0 in
theorem PySem.Challenge.cw_LID_holds : PySem.Challenge.rw_LID.Holds := by
  w_on; o_law; k_head; (case hw => w_witness2)
  k_fill
  refine L2.walk_of (l := PySem.Challenge.rw_LID) (n := 63) (k := 40) (x := "script") (CX := fun w => ..) (sp := fun _ => My.sp_law) rfl (by decide) rfl ⟨rfl, by decide, by decide⟩ (fun w h Y => PySem.W.kIn_of Y) ?F ?S ?C
  case F =>
    intro w mg fa h KX G hmg
    have T : ∃ t, My.Txt (L2.KOf KX) t := by
      dsimp only [L2.KOf]                          -- K must stand as «<heap const> w.params» for k_is
      refine' My.txt_mk ?e1 ?e2 ?e3 ..
      (case e1 => PySem.W.k_is)                    -- in the order: a name -> its address -> its object -> its parts
      (case e2 => PySem.W.k_is)
      ..
    obtain ⟨t, T⟩ := T
    have e0 := hmg.symm.trans (PySem.W.mg_of KX G T.law)
    cases e0                                       -- fa is the law's own address
    exact ⟨_, fun s u => .of_eq rfl, fun base kb nb => My.law_fn T kb nb⟩     -- if «.of_eq rfl» comes too early: refine' ⟨_, ?b, fun base kb nb => My.law_fn T kb nb⟩; exact fun s u => .of_eq rfl
  case S => exact fun w H a ns hl hO hS => ..
  case C => exact ..
(the tactic k_is has no namespace: write k_is) -/

/-! SHORT WORDS over the layer: a def of the text, its body, what a loop and a test want. -/
namespace L2
open PySem PySem.Spec PyProof.Rows

/-! ### the text by places -/
/-- the j-th statement of a class's body -/
def inClass (s : Stmt) (j : Nat) : Stmt := match s with
  | .ClassDef _ _ _ body _ _ _ _ _ _ _ => body.getD j (.Pass ⟨0, 0, 0, 0⟩)
  | _ => .Pass ⟨0, 0, 0, 0⟩
def defArgs (s : Stmt) : Arguments := match s with
  | .FunctionDef _ a _ _ _ _ _ _ _ _ => a
  | _ => { posonlyargs := [], args := [], vararg := none, kwonlyargs := [], kw_defaults := [], kwarg := none, defaults := [] }
def defBody (s : Stmt) : List Stmt := match s with
  | .FunctionDef _ _ b _ _ _ _ _ _ _ => b
  | _ => []
def defScope (s : Stmt) : Scope := match s with
  | .FunctionDef _ _ _ _ _ _ sc _ _ _ => sc
  | _ => { kind := .function, names := [], isGenerator := false, isCoroutine := false }

/-! ### no exception leaves a def -/
abbrev CX0 : CXT := fun _ _ _ _ _ _ => False
abbrev E0 : XK := fun _ _ _ => False
theorem pass0 {X : Cx} : Passes CX0 X E0 := fun _ _ _ _ _ _ _ h => h.elim

/-! ### a def (or method) of the text as it stands behind the top -/
structure Fun (K : PySem.W.Frag) (x qual : Str) (st : Stmt) (f : Addr) (fd : FuncData) : Prop where
  ex : ∃ (oc : Value) (od : Option Addr) (kV doc pm : Value) (an : Option Addr) (cdv ct : Value) (osl : Array (Option Value)),
    fd = PySem.W.fnOf x qual (defArgs st) (defBody st) (defScope st) .none kV doc pm an cdv ct ∧ K.lookup f = some ⟨oc, od, .func fd, osl⟩ ∧ PySem.W.codeIn K cdv qual = true
  kp : PySem.W.keepIn K (.ref f) = true
section
variable {P : Program} {w : World} {K : PySem.W.Frag} {mg : Str → Option Value} {base : Heap}
/-- THE RULE for a def: its body as a term of rules, and the reading of that term -/
theorem Fun.ok {x qual : Str} {st : Stmt} {f : Addr} {fd : FuncData} {N ps : List Str} {k : Nat} {sp : Sp} (F : Fun K x qual st f fd) (S : FnScope N ps (defScope st)) (len : ∀ vs H Q E, sp vs H Q E → vs.length = ps.length)
    (hbody : ∀ (cdv : Value) (A : Around) (outer : List Env) (s : Shared) (H : Hp) (vs : List V) (Q : VK) (E : XK), Room k (A.deeper (envOfC qual (defScope st) s.heap.objs.size f cdv)) → sp vs H Q E →
      ∃ t, PSs (cxOf CX0 P w K mg base N qual (defScope st) f cdv A outer s H E).nox (defBody st) t ∧ t { nx := fun _ H' => Q .non H', rt := Q } (start N vs) H) : FnOk P w K mg base CX0 (k + 1) f fd ps sp := by
  obtain ⟨oc, od, kV, doc, pm, an, cdv, ct, osl, rfl, lk, hcd⟩ := F.ex
  refine fn_of lk hcd S len fun A outer s H vs Q E hr hsp => ?_
  obtain ⟨t, h, q⟩ := hbody cdv A outer s H vs Q E hr hsp
  exact ⟨t, h.nox, q⟩
/-- how its arguments bind (no defaults): h is «fun _ _ _ _ _ _ us hl => match us, hl with | [_, _], _ => rfl», one _ a parameter -/
theorem Fun.binds {x qual : Str} {st : Stmt} {f : Addr} {fd : FuncData} {ps : List Str} (F : Fun K x qual st f fd)
    (h : ∀ (kV doc pm : Value) (an : Option Addr) (cdv ct : Value) (us : List Value), us.length = ps.length → bindArgs (PySem.W.fnOf x qual (defArgs st) (defBody st) (defScope st) .none kV doc pm an cdv ct) ⟨us, []⟩ = pure (ps.zip us)) : Binds K fd ps [] := by
  obtain ⟨oc, od, kV, doc, pm, an, cdv, ct, osl, rfl, lk, hcd⟩ := F.ex
  exact .all (h kV doc pm an cdv ct)
theorem fun_mk {x qual : Str} {st : Stmt} {f : Addr} {oc : Value} {od an : Option Addr} {osl : Array (Option Value)} {kV doc pm cdv ct : Value} (l : K.lookup f = some ⟨oc, od, .func (PySem.W.fnOf x qual (defArgs st) (defBody st) (defScope st) .none kV doc pm an cdv ct), osl⟩)
    (c : PySem.W.codeIn K cdv qual = true) (k : PySem.W.keepIn K (.ref f) = true) : Fun K x qual st f (PySem.W.fnOf x qual (defArgs st) (defBody st) (defScope st) .none kV doc pm an cdv ct) := ⟨⟨oc, od, kV, doc, pm, an, cdv, ct, osl, rfl, l, c⟩, k⟩
end
theorem hu_of {A : Around} {k : Nat} (hr : Room k A) : A.units + 1 < cLine := Nat.lt_of_le_of_lt (Nat.add_le_add_left (by decide : 1 ≤ 64) _) hr.units
theorem small1000 {n : Nat} (h : n ≤ 1000) : n < sizeLine := Nat.lt_of_le_of_lt h (by decide)

/-! ### expressions in short: the name that stands in the i-th slot -/
section
variable {X : Cx}
theorem pv (i : Nat) {x : Str} {pos : Pos} (hN : X.N[i]? = some x := by rfl) (hv : Vis X.env.scope x := by first | exact Or.inl rfl | exact Or.inr (Or.inl rfl) | exact Or.inr (Or.inr rfl)) (hd : (x == ("__debug__" : Str)) = false := by decide)
    (hcd : (x == ("__classdict__" : Str)) = false := by decide) : PE X (.Name x pos) (tVar i) := pe_var hN hv hd hcd
end

/-! ### tests -/
theorem iteF {A B : Prop} (h : B) : if false = true then A else B := by
  rw [if_neg Bool.false_ne_true]
  exact h
theorem iteT {A B : Prop} (h : A) : if true = true then A else B := by
  rw [if_pos rfl]
  exact h
theorem ite2 {c A B : Prop} [Decidable c] (h1 : c → A) (h2 : ¬ c → B) : if c then A else B := by
  by_cases h : c
  · rw [if_pos h]
    exact h1 h
  · rw [if_neg h]
    exact h2 h
theorem iteNS {c A B : Prop} [Decidable c] (hc : c) (h : B) : if (!decide c) = true then A else B := by
  rw [decide_eq_true hc]
  exact iteF h

/-! ### heaps -/
/-- all that was tracked is as it was -/
def Same (H H' : Hp) : Prop := ∀ b o, H b = some o → H' b = some o
theorem Same.refl (H : Hp) : Same H H := fun _ _ h => h
theorem Same.trans {H H1 H2 : Hp} (a : Same H H1) (b : Same H1 H2) : Same H H2 := fun c o h => b c o (a c o h)
theorem Same.free {H H' : Hp} (e : Same H H') {l : Addr} (h : H' l = Option.none) : H l = Option.none := by
  cases q : H l with
  | none => rfl
  | some o =>
    rw [e l o q] at h
    cases h
theorem Same.seq {K : PySem.W.Frag} {H H' : Hp} {a : Addr} {xs : List V} (e : Same H H') (h : SqL K H a xs) : SqL K H' a xs := by
  rcases h with (h | ⟨o, h⟩) | h
  · exact .inl (.inl (e _ _ h))
  · exact .inl (.inr ⟨o, e _ _ h⟩)
  · exact .inr h

end L2
end
section
set_option Elab.async false
set_option linter.all false
set_option maxRecDepth 100000
set_option maxHeartbeats 4000000
/-! data: whole numbers, texts, tuples; their order -/
namespace Mx
open PySem PyProof.Rows
inductive D where
  | int (i : Int)
  | str (x : Str)
  | tup (ds : List D)
mutual
def D.eqb : D → D → Bool
  | .int i, .int j => i == j
  | .str x, .str y => x == y
  | .tup a, .tup b => D.eqs a b
  | _, _ => false
def D.eqs : List D → List D → Bool
  | [], [] => true
  | x :: xs, y :: ys => D.eqb x y && D.eqs xs ys
  | _, _ => false
end
mutual
def D.lt : D → D → Bool
  | .int i, .int j => decide (i < j)
  | .int _, _ => true
  | .str _, .int _ => false
  | .str x, .str y => decide (x.cps.toList < y.cps.toList)
  | .str _, .tup _ => true
  | .tup a, .tup b => D.lts a b
  | .tup _, _ => false
def D.lts : List D → List D → Bool
  | [], [] => false
  | [], _ :: _ => true
  | _ :: _, [] => false
  | x :: xs, y :: ys => if D.eqb x y = true then D.lts xs ys else D.lt x y
end
mutual
theorem D.eqb_iff : ∀ a b : D, D.eqb a b = true ↔ a = b
  | .int i, .int j => by simp [D.eqb]
  | .str x, .str y => by simp [D.eqb]
  | .tup a, .tup b => by simp only [D.eqb, D.tup.injEq]; exact D.eqs_iff a b
  | .int _, .str _ => by simp [D.eqb]
  | .int _, .tup _ => by simp [D.eqb]
  | .str _, .int _ => by simp [D.eqb]
  | .str _, .tup _ => by simp [D.eqb]
  | .tup _, .int _ => by simp [D.eqb]
  | .tup _, .str _ => by simp [D.eqb]
theorem D.eqs_iff : ∀ a b : List D, D.eqs a b = true ↔ a = b
  | [], [] => by simp [D.eqs]
  | [], _ :: _ => by simp [D.eqs]
  | _ :: _, [] => by simp [D.eqs]
  | x :: xs, y :: ys => by
    simp only [D.eqs, Bool.and_eq_true, List.cons.injEq]
    rw [D.eqb_iff x y, D.eqs_iff xs ys]
end
instance : DecidableEq D := fun a b => if h : D.eqb a b = true then isTrue ((D.eqb_iff a b).mp h) else isFalse fun e => h ((D.eqb_iff a b).mpr e)
theorem D.eqb_dec (a b : D) : D.eqb a b = decide (a = b) := by
  rw [Bool.eq_iff_iff, D.eqb_iff]; simp
theorem D.eqs_dec (a b : List D) : D.eqs a b = decide (a = b) := by
  rw [Bool.eq_iff_iff, D.eqs_iff]; simp
theorem D.lts_cons (x y : D) (xs ys : List D) : D.lts (x :: xs) (y :: ys) = if x = y then D.lts xs ys else D.lt x y := by
  rw [D.lts]
  by_cases h : x = y
  · rw [if_pos h, if_pos ((D.eqb_iff x y).mpr h)]
  · rw [if_neg h, if_neg fun e => h ((D.eqb_iff x y).mp e)]
mutual
theorem D.lt_irrefl : ∀ a : D, D.lt a a = false
  | .int i => by simp [D.lt]
  | .str x => by simp only [D.lt]; exact strKind.irrefl _
  | .tup a => by simp only [D.lt]; exact D.lts_irrefl a
theorem D.lts_irrefl : ∀ a : List D, D.lts a a = false
  | [] => by simp [D.lts]
  | x :: xs => by rw [D.lts_cons, if_pos rfl]; exact D.lts_irrefl xs
end
mutual
theorem D.lt_total : ∀ a b : D, D.lt a b = false → D.lt b a = false → a = b
  | .int i, .int j, h1, h2 => by simp only [D.lt, decide_eq_false_iff_not] at h1 h2; congr 1; omega
  | .str x, .str y, h1, h2 => by
    simp only [D.lt] at h1 h2
    have := strKind.total _ _ h1 h2
    congr 1
    cases x; cases y; simp only at this; congr 1; exact Array.toList_inj.mp this
  | .tup a, .tup b, h1, h2 => by simp only [D.lt] at h1 h2; rw [D.lts_total a b h1 h2]
  | .int _, .str _, h1, _ => by simp [D.lt] at h1
  | .int _, .tup _, h1, _ => by simp [D.lt] at h1
  | .str _, .int _, _, h2 => by simp [D.lt] at h2
  | .str _, .tup _, h1, _ => by simp [D.lt] at h1
  | .tup _, .int _, _, h2 => by simp [D.lt] at h2
  | .tup _, .str _, _, h2 => by simp [D.lt] at h2
theorem D.lts_total : ∀ a b : List D, D.lts a b = false → D.lts b a = false → a = b
  | [], [], _, _ => rfl
  | [], _ :: _, h1, _ => by simp [D.lts] at h1
  | _ :: _, [], _, h2 => by simp [D.lts] at h2
  | x :: xs, y :: ys, h1, h2 => by
    rw [D.lts_cons] at h1 h2
    by_cases h : x = y
    · subst h
      rw [if_pos rfl] at h1 h2
      rw [D.lts_total xs ys h1 h2]
    · rw [if_neg h] at h1
      rw [if_neg (Ne.symm h)] at h2
      exact absurd (D.lt_total x y h1 h2) h
end
mutual
theorem D.lt_trans : ∀ a b c : D, D.lt a b = true → D.lt b c = true → D.lt a c = true
  | .int i, .int j, .int k, h1, h2 => by simp only [D.lt, decide_eq_true_eq] at *; omega
  | .int _, _, .str _, _, _ => by simp [D.lt]
  | .int _, _, .tup _, _, _ => by simp [D.lt]
  | .int _, .str _, .int _, _, h2 => by simp [D.lt] at h2
  | .int _, .tup _, .int _, _, h2 => by simp [D.lt] at h2
  | .str _, .int _, _, h1, _ => by simp [D.lt] at h1
  | .str x, .str y, .str z, h1, h2 => by simp only [D.lt] at *; exact strKind.trans _ _ _ h1 h2
  | .str _, .str _, .int _, _, h2 => by simp [D.lt] at h2
  | .str _, _, .tup _, _, _ => by simp [D.lt]
  | .str _, .tup _, .int _, _, h2 => by simp [D.lt] at h2
  | .str _, .tup _, .str _, _, h2 => by simp [D.lt] at h2
  | .tup _, .int _, _, h1, _ => by simp [D.lt] at h1
  | .tup _, .str _, _, h1, _ => by simp [D.lt] at h1
  | .tup _, .tup _, .int _, _, h2 => by simp [D.lt] at h2
  | .tup _, .tup _, .str _, _, h2 => by simp [D.lt] at h2
  | .tup a, .tup b, .tup c, h1, h2 => by simp only [D.lt] at *; exact D.lts_trans a b c h1 h2
theorem D.lts_trans : ∀ a b c : List D, D.lts a b = true → D.lts b c = true → D.lts a c = true
  | [], [], _, h1, _ => by simp [D.lts] at h1
  | [], _ :: _, [], _, h2 => by simp [D.lts] at h2
  | [], _ :: _, _ :: _, _, _ => by simp [D.lts]
  | _ :: _, [], _, h1, _ => by simp [D.lts] at h1
  | _ :: _, _ :: _, [], _, h2 => by simp [D.lts] at h2
  | x :: xs, y :: ys, z :: zs, h1, h2 => by
    rw [D.lts_cons] at h1 h2 ⊢
    by_cases h : x = y
    · subst h
      rw [if_pos rfl] at h1
      by_cases h' : x = z
      · rw [if_pos h'] at h2 ⊢
        exact D.lts_trans xs ys zs h1 h2
      · rw [if_neg h'] at h2 ⊢
        exact h2
    · rw [if_neg h] at h1
      by_cases h' : y = z
      · subst h'
        rw [if_neg h]
        exact h1
      · rw [if_neg h'] at h2
        have h3 := D.lt_trans x y z h1 h2
        by_cases h'' : x = z
        · subst h''
          rw [D.lt_irrefl] at h3
          cases h3
        · rw [if_neg h'']
          exact h3
end
/-- the order of tuples, as the sort wants it -/
@[reducible] def dOrd : KeyOrd where
  α := D
  blt := D.lt
  irrefl := D.lt_irrefl
  trans := D.lt_trans
  negTrans := fun a b c h => by
    cases h1 : D.lt a b with
    | true => exact .inl rfl
    | false =>
      right
      cases h2 : D.lt b a with
      | true => exact D.lt_trans b a c h2 h
      | false => rw [D.lt_total a b h1 h2] at h; exact h
  total := D.lt_total
end Mx
end
section
set_option Elab.async false
set_option linter.all false
set_option maxRecDepth 100000
set_option maxHeartbeats 4000000
/-! the tree of comparisons of a sort of fewer than 64 things, over any total order: it sorts -/
namespace MxSort
open PySem PySem.W PyProof.Rows
section
variable {O : KeyOrd} {key : Nat → O.α}
def kAt (key : Nat → O.α) (p : Array Nat) (i : Nat) : O.α := key (p.getD i 0)
def Up (key : Nat → O.α) (p : Array Nat) (n : Nat) : Prop := ∀ i j, i ≤ j → j < n → O.kle (kAt key p i) (kAt key p j)
def Dn (key : Nat → O.α) (p : Array Nat) (n : Nat) : Prop := ∀ i j, i ≤ j → j < n → O.kle (kAt key p j) (kAt key p i)
theorem getD_of {p q : Array Nat} {i j : Nat} (h : p[i]? = q[j]?) : p.getD i 0 = q.getD j 0 := by
  have e1 : ∀ (p : Array Nat) (i : Nat), p.getD i 0 = (p[i]?).getD 0 := fun p i => by simp [Array.getD_eq_getD_getElem?]
  rw [e1, e1, h]
theorem kAt_rev {p : Array Nat} {i j : Nat} (hj : j ≤ p.size) (k : Nat) : kAt key (kas_rev p i j) k = if i ≤ k ∧ k < j then kAt key p (i + j - 1 - k) else kAt key p k := by
  have e := getElem?_mirror_all (i := i) hj k
  unfold kas_rev kAt
  by_cases h1 : i ≤ k ∧ k < j
  · rw [if_pos h1] at e ⊢; exact congrArg key (getD_of e)
  · rw [if_neg h1] at e ⊢; exact congrArg key (getD_of e)
theorem kAt_bub {p : Array Nat} {src d : Nat} (hs : src < p.size) (hd : d ≤ src) (k : Nat) :
    kAt key (bubble p src d) k = if k = src - d then kAt key p src else if src - d < k ∧ k ≤ src then kAt key p (k - 1) else kAt key p k := by
  have e := getElem?_bubble hs d hd k
  unfold kAt
  by_cases h1 : k = src - d
  · rw [if_pos h1] at e ⊢; exact congrArg key (getD_of e)
  · rw [if_neg h1] at e ⊢
    by_cases h2 : src - d < k ∧ k ≤ src
    · rw [if_pos h2] at e ⊢; exact congrArg key (getD_of e)
    · rw [if_neg h2] at e ⊢; exact congrArg key (getD_of e)
/-- p is an order of the first N numbers -/
def Ord (N : Nat) (p : Array Nat) : Prop := p.toList.Perm (List.range N)
theorem Ord.size {N : Nat} {p : Array Nat} (h : Ord N p) : p.size = N := by
  have := h.length_eq
  rw [List.length_range] at this
  rw [← this]; simp
theorem Ord.lt {N : Nat} {p : Array Nat} (h : Ord N p) (i : Nat) (h0 : 0 < N) : p.getD i 0 < N := by
  by_cases hi : i < p.size
  · have e : p.getD i 0 = p[i] := by simp [Array.getD, hi]
    rw [e]
    have := h.mem_iff.mp (show p[i] ∈ p.toList by simp)
    exact List.mem_range.mp this
  · have e : p.getD i 0 = 0 := by simp [Array.getD, hi]
    rw [e]; exact h0
theorem Ord.perm {N : Nat} {p q : Array Nat} (h : Ord N p) (e : q.Perm p) : Ord N q := (Array.perm_iff_toList_perm.mp e).trans h
theorem Ord.rev {N : Nat} {p : Array Nat} (h : Ord N p) (i j : Nat) : Ord N (kas_rev p i j) := h.perm (mirror_perm _ _ _ _)
theorem Ord.bub {N : Nat} {p : Array Nat} (h : Ord N p) (i j : Nat) : Ord N (bubble p i j) := h.perm (bubble_perm _ _ _)
variable {cmp : Nat → Nat → (Bool → Shared → Prop) → Shared → Prop} {s : Shared} {N : Nat}
/-- each comparison tells the order and changes nothing -/
def Tells (O : KeyOrd) (key : Nat → O.α) (cmp : Nat → Nat → (Bool → Shared → Prop) → Shared → Prop) (N : Nat) (s : Shared) : Prop :=
  ∀ i j, i < N → j < N → ∀ C : Bool → Shared → Prop, C (O.blt (key i) (key j)) s → cmp i j C s
theorem Tells.at (T : Tells O key cmp N s) {p : Array Nat} (hp : Ord N p) (h0 : 0 < N) (i j : Nat) {C : Bool → Shared → Prop} (h : C (O.blt (kAt key p i) (kAt key p j)) s) : cmp (p.getD i 0) (p.getD j 0) C s :=
  T _ _ (hp.lt i h0) (hp.lt j h0) C h
theorem Up.succ {p : Array Nat} {n : Nat} (h : Up key p n) (h1 : 1 ≤ n) (h2 : O.kle (kAt key p (n - 1)) (kAt key p n)) : Up key p (n + 1) := fun i j hij hj => by
  by_cases e : j = n
  · subst e
    by_cases e2 : i = j
    · subst e2; exact KeyOrd.kle_refl _
    · exact KeyOrd.kle_trans (h i (j - 1) (by omega) (by omega)) h2
  · exact h i j hij (by omega)
theorem Dn.succ {p : Array Nat} {n : Nat} (h : Dn key p n) (h1 : 1 ≤ n) (h2 : O.kle (kAt key p n) (kAt key p (n - 1))) : Dn key p (n + 1) := fun i j hij hj => by
  by_cases e : j = n
  · subst e
    by_cases e2 : i = j
    · subst e2; exact KeyOrd.kle_refl _
    · exact KeyOrd.kle_trans h2 (h i (j - 1) (by omega) (by omega))
  · exact h i j hij (by omega)
theorem asc_ok (T : Tells O key cmp N s) {p : Array Nat} (hp : Ord N p) {Q : Nat → Shared → Prop} : ∀ (f n : Nat), 1 ≤ n → n + f ≤ N → Up key p n →
    (∀ m, n ≤ m → m ≤ n + f → Up key p m → (m < n + f → O.blt (kAt key p m) (kAt key p (m - 1)) = true) → Q m s) → (kas_asc p f n).kasWp cmp Q s
  | 0, n, h1, hn, hu, h => h n (Nat.le_refl _) (Nat.le_refl _) hu (fun z => absurd z (by omega))
  | f + 1, n, h1, hn, hu, h => by
    refine T.at hp (by omega) n (n - 1) ?_
    cases hb : O.blt (kAt key p n) (kAt key p (n - 1)) with
    | true =>
      show (if true = true then KasT.ret n else kas_asc p f (n + 1)).kasWp cmp Q s
      rw [if_pos rfl]
      exact h n (Nat.le_refl _) (by omega) hu fun _ => hb
    | false =>
      show (if false = true then KasT.ret n else kas_asc p f (n + 1)).kasWp cmp Q s
      rw [if_neg (by simp)]
      exact asc_ok T hp f (n + 1) (by omega) (by omega) (hu.succ h1 hb) fun m a b c d => h m (by omega) (by omega) c fun z => d (by omega)
/-- an equal block may be turned round -/
theorem kAt_eqrev {p : Array Nat} {a n : Nat} (hn : n ≤ p.size) (he : ∀ k, a ≤ k → k < n → kAt key p k = kAt key p (n - 1)) (k : Nat) : kAt key (kas_rev p a n) k = kAt key p k := by
  rw [kAt_rev hn]
  split
  · rename_i h
    rw [he (a + n - 1 - k) (by omega) (by omega), he k h.1 h.2]
  · rfl
theorem Dn.of {p q : Array Nat} {n : Nat} (e : ∀ k, kAt key q k = kAt key p k) (h : Dn key p n) : Dn key q n := fun i j a b => by rw [e, e]; exact h i j a b
theorem desc_ok (T : Tells O key cmp N s) {Q : Array Nat × Nat × Nat → Shared → Prop} : ∀ (f : Nat) (p : Array Nat) (n q : Nat), Ord N p → 1 ≤ n → q + 1 ≤ n → n + f ≤ N → Dn key p n → (∀ k, n - (q + 1) ≤ k → k < n → kAt key p k = kAt key p (n - 1)) →
    (∀ (p' : Array Nat) (m q' : Nat), Ord N p' → 1 ≤ m → q' + 1 ≤ m → m ≤ n + f → Dn key p' m → (∀ k, m - (q' + 1) ≤ k → k < m → kAt key p' k = kAt key p' (m - 1)) → Q (p', m, q') s) → (kas_desc f p n q).kasWp cmp Q s
  | 0, p, n, q, hp, h1, hq, hn, hd, he, h => h p n q hp h1 hq (Nat.le_refl _) hd he
  | f + 1, p, n, q, hp, h1, hq, hn, hd, he, h => by
    have hz := hp.size
    refine T.at hp (by omega) n (n - 1) ?_
    cases hb : O.blt (kAt key p n) (kAt key p (n - 1)) with
    | true =>
      show (if true = true then (if q > 0 then kas_desc f (kas_rev p (n - (q + 1)) n) (n + 1) 0 else kas_desc f p (n + 1) 0) else _).kasWp cmp Q s
      rw [if_pos rfl]
      have hd' : Dn key p (n + 1) := hd.succ h1 (KeyOrd.kle_of_klt hb)
      by_cases hq0 : q > 0
      · rw [if_pos hq0]
        have e := kAt_eqrev (key := key) (p := p) (a := n - (q + 1)) (n := n) (by omega) he
        exact desc_ok T f _ (n + 1) 0 (hp.rev _ _) (by omega) (by omega) (by omega) (Dn.of e hd') (fun k a b => by rw [show k = n + 1 - 1 by omega]) fun p' m q' a b c d => h p' m q' a b c (by omega)
      · rw [if_neg hq0]
        exact desc_ok T f _ (n + 1) 0 hp (by omega) (by omega) (by omega) hd' (fun k a b => by rw [show k = n + 1 - 1 by omega]) fun p' m q' a b c d => h p' m q' a b c (by omega)
    | false =>
      show (if false = true then _ else KasT.ask (p.getD (n - 1) 0) (p.getD n 0) fun d => if d = true then .ret (p, n, q) else kas_desc f p (n + 1) (q + 1)).kasWp cmp Q s
      rw [if_neg (by simp)]
      refine T.at hp (by omega) (n - 1) n ?_
      cases hc : O.blt (kAt key p (n - 1)) (kAt key p n) with
      | true =>
        show (if true = true then KasT.ret (p, n, q) else _).kasWp cmp Q s
        rw [if_pos rfl]
        exact h p n q hp h1 hq (by omega) hd he
      | false =>
        show (if false = true then KasT.ret (p, n, q) else kas_desc f p (n + 1) (q + 1)).kasWp cmp Q s
        rw [if_neg (by simp)]
        have heq : kAt key p n = kAt key p (n - 1) := O.total _ _ hb hc
        refine desc_ok T f p (n + 1) (q + 1) hp (by omega) (by omega) (by omega) (hd.succ h1 (by rw [heq]; exact KeyOrd.kle_refl _)) (fun k a b => ?_) fun p' m q' a b c d => h p' m q' a b c (by omega)
        by_cases e : k = n
        · rw [show n + 1 - 1 = n by omega, e]
        · rw [he k (by omega) (by omega), show n + 1 - 1 = n by omega, heq]
/-- what the count of the first run tells -/
def Cnt (key : Nat → O.α) (N : Nat) (r : Nat × Array Nat) : Prop := Ord N r.2 ∧ 1 ≤ r.1 ∧ r.1 ≤ N ∧ Up key r.2 r.1
theorem up_rev {p : Array Nat} {n : Nat} (hn : n ≤ p.size) (h : Dn key p n) : Up key (kas_rev p 0 n) n := fun i j hij hj => by
  rw [kAt_rev hn, kAt_rev hn, if_pos (by omega), if_pos (by omega)]
  exact h _ _ (by omega) (by omega)
theorem tail3_ok (T : Tells O key cmp N s) {p : Array Nat} {n : Nat} {Q : Nat × Array Nat → Shared → Prop} (hp : Ord N p) (h1 : 1 ≤ n) (hn : n ≤ N) (hd : Dn key p n) (h : ∀ r, Cnt key N r → Q r s) : (kas_tail3 n N p).kasWp cmp Q s := by
  unfold kas_tail3
  rw [KasT.kasWp_bind]
  refine asc_ok T (hp.rev 0 n) (N - n) n h1 (by omega) (up_rev (by rw [hp.size]; exact hn) hd) fun m a b c _ => ?_
  exact h (m, kas_rev p 0 n) ⟨hp.rev 0 n, (show 1 ≤ m by omega), (show m ≤ N by omega), c⟩
theorem descPart_ok (T : Tells O key cmp N s) {p : Array Nat} {n : Nat} {Q : Nat × Array Nat → Shared → Prop} (hp : Ord N p) (h1 : 1 ≤ n) (hn : n + 1 ≤ N) (hd : Dn key p (n + 1)) (h : ∀ r, Cnt key N r → Q r s) : (kas_descPart n N p).kasWp cmp Q s := by
  unfold kas_descPart
  rw [KasT.kasWp_bind]
  refine desc_ok T (N - (n + 1)) p (n + 1) 0 hp (by omega) (by omega) (by omega) hd (fun k a b => by rw [show k = n + 1 - 1 by omega]) fun p' m q' a b c d e g => ?_
  show (if q' > 0 then kas_tail3 m N (kas_rev p' (m - (q' + 1)) m) else kas_tail3 m N p').kasWp cmp Q s
  by_cases hq : q' > 0
  · rw [if_pos hq]
    exact tail3_ok T (a.rev _ _) b (by omega) (Dn.of (kAt_eqrev (by rw [a.size]; omega) g) e) h
  · rw [if_neg hq]
    exact tail3_ok T a b (by omega) e h
theorem count_ok (T : Tells O key cmp N s) {p : Array Nat} {Q : Nat × Array Nat → Shared → Prop} (hp : Ord N p) (h1 : 1 ≤ N) (h : ∀ r, Cnt key N r → Q r s) : (kas_count N p).kasWp cmp Q s := by
  unfold kas_count
  rw [KasT.kasWp_bind]
  refine asc_ok T hp (N - 1) 1 (Nat.le_refl _) (by omega) (fun i j a b => by rw [show i = j by omega]; exact KeyOrd.kle_refl _) fun n a b c d => ?_
  by_cases e : n = N
  · subst e
    show (if (n == n) = true then KasT.ret (n, p) else _).kasWp cmp Q s
    rw [if_pos (by simp)]
    exact h (n, p) ⟨hp, a, Nat.le_refl _, c⟩
  · show (if (n == N) = true then KasT.ret (n, p) else if n > 1 then .ask (p.getD 0 0) (p.getD (n - 1) 0) fun c => if c = true then .ret (n, p) else kas_descPart n N (kas_rev p 0 n) else kas_descPart n N p).kasWp cmp Q s
    rw [if_neg (by simpa using e)]
    have hlt := d (by omega)
    by_cases hn : n > 1
    · rw [if_pos hn]
      refine T.at hp (by omega) 0 (n - 1) ?_
      cases hb : O.blt (kAt key p 0) (kAt key p (n - 1)) with
      | true =>
        show (if true = true then KasT.ret (n, p) else _).kasWp cmp Q s
        rw [if_pos rfl]
        exact h (n, p) ⟨hp, a, (show n ≤ N by omega), c⟩
      | false =>
        show (if false = true then KasT.ret (n, p) else kas_descPart n N (kas_rev p 0 n)).kasWp cmp Q s
        rw [if_neg (by simp)]
        have hz := hp.size
        have all : ∀ k, 0 ≤ k → k < n → kAt key p k = kAt key p (n - 1) := fun k _ hk => by
          refine KeyOrd.kle_antisymm (c k (n - 1) (by omega) (by omega)) (KeyOrd.kle_trans (show O.kle (kAt key p (n - 1)) (kAt key p 0) from hb) (c 0 k (by omega) hk))
        have er := kAt_eqrev (key := key) (p := p) (a := 0) (n := n) (by omega) all
        refine descPart_ok T (hp.rev 0 n) a (by omega) (Dn.of er (Dn.succ (fun i j hij hj => ?_) a (KeyOrd.kle_of_klt hlt))) h
        rw [all i (by omega) (by omega), all j (by omega) hj]
        exact KeyOrd.kle_refl _
    · rw [if_neg hn]
      have e1 : n = 1 := by omega
      subst e1
      refine descPart_ok T hp a (by omega) (Dn.succ (fun i j hij hj => ?_) a (KeyOrd.kle_of_klt hlt)) h
      rw [show i = j by omega]
      exact KeyOrd.kle_refl _
theorem place_ok (T : Tells O key cmp N s) {p : Array Nat} {k : Nat} {Q : Nat → Shared → Prop} (hp : Ord N p) (hk : k < N) (hu : Up key p k) : ∀ (f l r : Nat), l ≤ r → r ≤ k → r - l ≤ f → (∀ i, i < l → O.kle (kAt key p i) (kAt key p k)) → (∀ i, r ≤ i → i < k → O.klt (kAt key p k) (kAt key p i)) →
    (∀ l, l ≤ k → (∀ i, i < l → O.kle (kAt key p i) (kAt key p k)) → (∀ i, l ≤ i → i < k → O.klt (kAt key p k) (kAt key p i)) → Q l s) → (kas_place p k f l r).kasWp cmp Q s
  | 0, l, r, hlr, hrk, hf, h1, h2, h => by
    have e : l = r := by omega
    subst e
    exact h l hrk h1 h2
  | f + 1, l, r, hlr, hrk, hf, h1, h2, h => by
    show (if l ≥ r then KasT.ret l else .ask (p.getD k 0) (p.getD ((l + r) / 2) 0) fun c => if c = true then kas_place p k f l ((l + r) / 2) else kas_place p k f ((l + r) / 2 + 1) r).kasWp cmp Q s
    by_cases hge : l ≥ r
    · rw [if_pos hge]
      have e : l = r := by omega
      subst e
      exact h l hrk h1 h2
    · rw [if_neg hge]
      refine T.at hp (by omega) k ((l + r) / 2) ?_
      cases hb : O.blt (kAt key p k) (kAt key p ((l + r) / 2)) with
      | true =>
        show (if true = true then kas_place p k f l ((l + r) / 2) else _).kasWp cmp Q s
        rw [if_pos rfl]
        exact place_ok T hp hk hu f l ((l + r) / 2) (by omega) (by omega) (by omega) h1 (fun i a b => KeyOrd.klt_of_klt_of_kle hb (hu _ _ a b)) h
      | false =>
        show (if false = true then kas_place p k f l ((l + r) / 2) else kas_place p k f ((l + r) / 2 + 1) r).kasWp cmp Q s
        rw [if_neg (by simp)]
        exact place_ok T hp hk hu f ((l + r) / 2 + 1) r (by omega) hrk (by omega) (fun i a => KeyOrd.kle_trans (hu i ((l + r) / 2) (by omega) (by omega)) hb) h2 h
theorem bin_ok (T : Tells O key cmp N s) {Q : Array Nat → Shared → Prop} : ∀ (f : Nat) (p : Array Nat) (k : Nat), Ord N p → k + f = N → Up key p k → (∀ p', Ord N p' → Up key p' N → Q p' s) → (kas_bin f p k).kasWp cmp Q s
  | 0, p, k, hp, hk, hu, h => h p hp (by rw [← hk]; exact hu)
  | f + 1, p, k, hp, hk, hu, h => by
    show ((kas_place p k k 0 k).bind fun l => kas_bin f (bubble p k (k - l)) (k + 1)).kasWp cmp Q s
    rw [KasT.kasWp_bind]
    refine place_ok T hp (by omega) hu k 0 k (by omega) (Nat.le_refl _) (by omega) (fun i a => absurd a (by omega)) (fun i a b => absurd a (by omega)) fun l hl lo hi => ?_
    refine bin_ok T f _ (k + 1) (hp.bub _ _) (by omega) (fun i j hij hj => ?_) h
    have hz := hp.size
    rw [kAt_bub (by omega) (by omega), kAt_bub (by omega) (by omega), show k - (k - l) = l by omega]
    repeat' split
    all_goals first
      | (exfalso; omega)
      | exact KeyOrd.kle_refl _
      | exact lo _ (by omega)
      | exact KeyOrd.kle_of_klt (hi _ (by omega) (by omega))
      | exact hu _ _ (by omega) (by omega)
theorem sort_ok (T : Tells O key cmp N s) {Q : Array Nat → Shared → Prop} (h1 : 1 ≤ N) (h : ∀ p', Ord N p' → Up key p' N → Q p' s) : (kas_sort N).kasWp cmp Q s := by
  unfold kas_sort
  rw [KasT.kasWp_bind]
  refine count_ok T (show Ord N (List.toArray (List.range N)) from by unfold Ord; simp) h1 fun r hr => ?_
  obtain ⟨a, b, c, d⟩ := hr
  by_cases hlt : r.1 < N
  · rw [if_pos hlt]
    have e : max r.1 1 = r.1 := by omega
    rw [e]
    exact bin_ok T _ _ _ a (by omega) d h
  · rw [if_neg hlt]
    have e : r.1 = N := by omega
    exact h r.2 a (by rw [← e]; exact d)
end
end MxSort
end
section
set_option Elab.async false
set_option linter.all false
set_option maxRecDepth 100000
set_option maxHeartbeats 4000000
namespace Mx
open PySem PySem.Spec PyProof.Rows L2 PySem.SeqAt
mutual
def D.dep : D → Nat
  | .int _ => 0
  | .str _ => 0
  | .tup ds => D.deps ds + 1
def D.deps : List D → Nat
  | [] => 0
  | d :: ds => max (D.dep d) (D.deps ds)
end
mutual
/-- the value x stands for the datum d over the heap H -/
def DV (H : Hp) : V → D → Prop
  | x, .int i => x = .int i
  | x, .str z => x = .str z
  | x, .tup ds => ∃ a xs, x = .ref a ∧ H a = some (.tup xs) ∧ DVs H xs ds
def DVs (H : Hp) : List V → List D → Prop
  | [], [] => True
  | x :: xs, d :: ds => DV H x d ∧ DVs H xs ds
  | [], _ :: _ => False
  | _ :: _, [] => False
end
theorem DVs.nil {H : Hp} : DVs H [] [] := by unfold DVs; trivial
theorem DVs.cons {H : Hp} {x : V} {xs : List V} {d : D} {ds : List D} (h : DV H x d) (t : DVs H xs ds) : DVs H (x :: xs) (d :: ds) := by unfold DVs; exact ⟨h, t⟩
theorem DV.int {H : Hp} {i : Int} : DV H (.int i) (.int i) := by unfold DV; rfl
theorem DV.str {H : Hp} {x : Str} : DV H (.str x) (.str x) := by unfold DV; rfl
theorem DV.tup {H : Hp} {a : Addr} {xs : List V} {ds : List D} (h : H a = some (.tup xs)) (t : DVs H xs ds) : DV H (.ref a) (.tup ds) := by unfold DV; exact ⟨a, xs, rfl, h, t⟩
theorem DV.tup_inv {H : Hp} {x : V} {ds : List D} (h : DV H x (.tup ds)) : ∃ a xs, x = .ref a ∧ H a = some (.tup xs) ∧ DVs H xs ds := by unfold DV at h; exact h
theorem DV.int_inv {H : Hp} {x : V} {i : Int} (h : DV H x (.int i)) : x = .int i := by unfold DV at h; exact h
theorem DV.str_inv {H : Hp} {x : V} {i : Str} (h : DV H x (.str i)) : x = .str i := by unfold DV at h; exact h
theorem DVs.nil_inv {H : Hp} {xs : List V} (h : DVs H xs []) : xs = [] := by
  cases xs with
  | nil => rfl
  | cons => unfold DVs at h; exact h.elim
theorem DVs.cons_inv {H : Hp} {xs : List V} {d : D} {ds : List D} (h : DVs H xs (d :: ds)) : ∃ x r, xs = x :: r ∧ DV H x d ∧ DVs H r ds := by
  cases xs with
  | nil => unfold DVs at h; exact h.elim
  | cons x r => unfold DVs at h; exact ⟨x, r, rfl, h⟩
theorem DVs.length {H : Hp} : ∀ {xs : List V} {ds : List D}, DVs H xs ds → xs.length = ds.length
  | [], [], _ => rfl
  | [], _ :: _, h => by unfold DVs at h; exact h.elim
  | _ :: _, [], h => by unfold DVs at h; exact h.elim
  | _ :: xs, _ :: ds, h => by unfold DVs at h; simp [DVs.length h.2]
theorem DVs.get {H : Hp} : ∀ {xs : List V} {ds : List D} {i : Nat} {x : V}, DVs H xs ds → xs[i]? = some x → ∃ d, ds[i]? = some d ∧ DV H x d
  | [], _, _, _, _, e => by simp at e
  | _ :: _, [], _, _, h, _ => by unfold DVs at h; exact h.elim
  | _ :: _, _ :: _, 0, _, h, e => by unfold DVs at h; simp at e; subst e; exact ⟨_, rfl, h.1⟩
  | _ :: xs, _ :: ds, i + 1, x, h, e => by
    unfold DVs at h
    obtain ⟨d, e1, e2⟩ := DVs.get (i := i) h.2 (by simpa using e)
    exact ⟨d, by simpa using e1, e2⟩
theorem DVs.getD {H : Hp} : ∀ {xs : List V} {ds : List D} {i : Nat} {d : D}, DVs H xs ds → ds[i]? = some d → ∃ x, xs[i]? = some x ∧ DV H x d
  | _, [], _, _, _, e => by simp at e
  | [], _ :: _, _, _, h, _ => by unfold DVs at h; exact h.elim
  | _ :: _, _ :: _, 0, _, h, e => by unfold DVs at h; simp at e; subst e; exact ⟨_, rfl, h.1⟩
  | _ :: xs, _ :: ds, i + 1, x, h, e => by
    unfold DVs at h
    obtain ⟨d, e1, e2⟩ := DVs.getD (i := i) h.2 (by simpa using e)
    exact ⟨d, by simpa using e1, e2⟩
theorem DVs.append {H : Hp} : ∀ {xs ys : List V} {ds es : List D}, DVs H xs ds → DVs H ys es → DVs H (xs ++ ys) (ds ++ es)
  | [], _, [], _, _, h => h
  | [], _, _ :: _, _, h, _ => by unfold DVs at h; exact h.elim
  | _ :: _, _, [], _, h, _ => by unfold DVs at h; exact h.elim
  | _ :: xs, ys, _ :: ds, es, h, h' => by
    unfold DVs at h
    exact DVs.cons h.1 (DVs.append h.2 h')
/-- tuples stay: what the heap holds as a tuple it holds on -/
def Tups (H H' : Hp) : Prop := ∀ a xs, H a = some (.tup xs) → H' a = some (.tup xs)
mutual
theorem DV.mono {H H' : Hp} (t : Tups H H') : ∀ {x : V} {d : D}, DV H x d → DV H' x d
  | x, .int i, h => by unfold DV at h ⊢; exact h
  | x, .str z, h => by unfold DV at h ⊢; exact h
  | x, .tup ds, h => by
    obtain ⟨a, xs, e, e1, e2⟩ := h.tup_inv
    subst e
    exact DV.tup (t a xs e1) (DVs.mono t e2)
theorem DVs.mono {H H' : Hp} (t : Tups H H') : ∀ {xs : List V} {ds : List D}, DVs H xs ds → DVs H' xs ds
  | [], [], _ => DVs.nil
  | [], _ :: _, h => by unfold DVs at h; exact h.elim
  | _ :: _, [], h => by unfold DVs at h; exact h.elim
  | _ :: xs, _ :: ds, h => by unfold DVs at h; exact DVs.cons (DV.mono t h.1) (DVs.mono t h.2)
end
mutual
theorem DV.inj {H : Hp} : ∀ {x : V} {d e : D}, DV H x d → DV H x e → d = e
  | x, .int i, e, h1, h2 => by
    have := h1.int_inv; subst this
    cases e with
    | int j => have := h2.int_inv; injection this with q; rw [q]
    | str j => have := h2.str_inv; cases this
    | tup j => obtain ⟨_, _, q, _⟩ := h2.tup_inv; cases q
  | x, .str i, e, h1, h2 => by
    have := h1.str_inv; subst this
    cases e with
    | int j => have := h2.int_inv; cases this
    | str j => have := h2.str_inv; injection this with q; rw [q]
    | tup j => obtain ⟨_, _, q, _⟩ := h2.tup_inv; cases q
  | x, .tup ds, e, h1, h2 => by
    obtain ⟨a, xs, q, e1, e2⟩ := h1.tup_inv
    subst q
    cases e with
    | int j => have := h2.int_inv; cases this
    | str j => have := h2.str_inv; cases this
    | tup j =>
      obtain ⟨b, ys, q, f1, f2⟩ := h2.tup_inv
      cases q
      rw [e1] at f1
      cases f1
      rw [DVs.inj e2 f2]
theorem DVs.inj {H : Hp} : ∀ {xs : List V} {ds es : List D}, DVs H xs ds → DVs H xs es → ds = es
  | [], [], [], _, _ => rfl
  | [], [], _ :: _, _, h => by unfold DVs at h; exact h.elim
  | [], _ :: _, _, h, _ => by unfold DVs at h; exact h.elim
  | _ :: _, [], _, h, _ => by unfold DVs at h; exact h.elim
  | _ :: _, _ :: _, [], _, h => by unfold DVs at h; exact h.elim
  | _ :: xs, _ :: ds, _ :: es, h1, h2 => by
    unfold DVs at h1 h2
    rw [DV.inj h1.1 h2.1, DVs.inj h1.2 h2.2]
end
/-! ### == -/
def eAt (ds es : List D) (j : Nat) : Bool := match ds[j]?, es[j]? with
  | some d, some e => D.eqb d e
  | _, _ => true
theorem all_eqs : ∀ ds es : List D, ((List.range (min ds.length es.length)).all (eAt ds es) && ds.length == es.length) = D.eqs ds es
  | [], [] => by simp [D.eqs]
  | [], _ :: _ => by simp [D.eqs]
  | _ :: _, [] => by simp [D.eqs]
  | d :: ds, e :: es => by
    have ih := all_eqs ds es
    have hm : min (d :: ds).length (e :: es).length = min ds.length es.length + 1 := by simp only [List.length_cons]; omega
    have e1 : ((d :: ds).length == (e :: es).length) = (ds.length == es.length) := by
      rw [Bool.eq_iff_iff]; simp
    rw [hm, List.range_succ_eq_map, List.all_cons, List.all_map, e1, D.eqs, ← ih, Bool.and_assoc]
    rfl
theorem dep_mem {d : D} : ∀ {ds : List D} {j : Nat}, ds[j]? = some d → D.dep d ≤ D.deps ds
  | [], _, h => by simp at h
  | d' :: ds, 0, h => by simp at h; subst h; unfold D.deps; omega
  | d' :: ds, j + 1, h => by
    have := dep_mem (ds := ds) (j := j) (by simpa using h)
    unfold D.deps; omega
section
variable {P : Program} {w : World} {H : Hp} {s : Shared}
theorem tup_at (hok : HOk P w H s.heap) {a : Addr} {xs : List V} (h : H a = some (.tup xs)) : ∃ its : List Value, Vals xs its ∧ s.heap.IsTuple a its.toArray := by
  obtain ⟨_, its, r, t⟩ := hok a _ h
  exact ⟨its, r, t⟩
theorem eq_data (hok : HOk P w H s.heap) : ∀ (n : Nat) (d e : D) (x y : V) (u v : Value) (A : Around), D.dep d ≤ n → A.units + n < cLine → DV H x d → DV H y e → RelV x u → RelV y v → EqAt A s u v (D.eqb d e) := by
  intro n
  induction n with
  | zero =>
    intro d e x y u v A hd hu hx hy rx ry
    cases d with
    | int i =>
      have := hx.int_inv; subst this
      obtain ⟨t, rfl⟩ := rx
      cases e with
      | int j => have := hy.int_inv; subst this; obtain ⟨t', rfl⟩ := ry; exact EqAt.int_int i t j t'
      | str j => have := hy.str_inv; subst this; obtain ⟨t', rfl⟩ := ry; exact EqAt.int_str i t j t'
      | tup j => obtain ⟨b, ys, q, f1, f2⟩ := hy.tup_inv; subst q; cases ry; obtain ⟨its, _, ht⟩ := tup_at hok f1; exact EqAt.int_tuple i t ht (by omega)
    | str i =>
      have := hx.str_inv; subst this
      obtain ⟨t, rfl⟩ := rx
      cases e with
      | int j => have := hy.int_inv; subst this; obtain ⟨t', rfl⟩ := ry; exact EqAt.str_int i t j t'
      | str j => have := hy.str_inv; subst this; obtain ⟨t', rfl⟩ := ry; exact EqAt.str_str i t j t'
      | tup j => obtain ⟨b, ys, q, f1, f2⟩ := hy.tup_inv; subst q; cases ry; obtain ⟨its, _, ht⟩ := tup_at hok f1; exact EqAt.str_tuple i t ht (by omega)
    | tup ds => unfold D.dep at hd; omega
  | succ n ih =>
    intro d e x y u v A hd hu hx hy rx ry
    cases d with
    | int i => exact ih (.int i) e x y u v A (by unfold D.dep; omega) (by omega) hx hy rx ry
    | str i => exact ih (.str i) e x y u v A (by unfold D.dep; omega) (by omega) hx hy rx ry
    | tup ds =>
      obtain ⟨a, xs, q, e1, e2⟩ := hx.tup_inv
      subst q
      cases rx
      obtain ⟨its, r1, ht⟩ := tup_at hok e1
      cases e with
      | int j => have := hy.int_inv; subst this; obtain ⟨t', rfl⟩ := ry; exact EqAt.tuple_int j t' ht (by omega)
      | str j => have := hy.str_inv; subst this; obtain ⟨t', rfl⟩ := ry; exact EqAt.tuple_str j t' ht (by omega)
      | tup es =>
        obtain ⟨b, ys, q, f1, f2⟩ := hy.tup_inv
        subst q
        cases ry
        obtain ⟨its2, r2, ht2⟩ := tup_at hok f1
        by_cases hab : a = b
        · subst hab
          rw [e1] at f1
          cases f1
          have := DVs.inj e2 f2
          subst this
          have q : D.eqb (.tup ds) (.tup ds) = true := (D.eqb_iff _ _).mpr rfl
          rw [q]
          exact EqAt.same _
        · have l1 : its.toArray.size = ds.length := by rw [List.size_toArray, ← r1.length, e2.length]
          have l2 : its2.toArray.size = es.length := by rw [List.size_toArray, ← r2.length, f2.length]
          have key := RcAt.tuples (A := A) (e := eAt ds es) ht ht2 (by omega) (fun j h1 h2 => ?_)
          · have q := all_eqs ds es
            rw [← l1, ← l2] at q
            rw [q] at key
            exact EqAt.of_refs hab key
          · have h1' : j < xs.length := by rw [e2.length, ← l1]; exact h1
            have h2' : j < ys.length := by rw [f2.length, ← l2]; exact h2
            obtain ⟨d, g1, g2⟩ := e2.get (i := j) (x := xs[j]) (by simp [h1'])
            obtain ⟨e, k1, k2⟩ := f2.get (i := j) (x := ys[j]) (by simp [h2'])
            obtain ⟨u, hu1, ru⟩ := r1.get (i := j) (x := xs[j]) (by simp [h1'])
            obtain ⟨v, hv1, rv⟩ := r2.get (i := j) (x := ys[j]) (by simp [h2'])
            have eu : its.toArray[j] = u := by
              have : its[j]? = some u := hu1
              simp only [List.getElem_toArray]
              have q := List.getElem?_eq_some_iff.mp this
              exact q.2
            have ev : its2.toArray[j] = v := by
              have : its2[j]? = some v := hv1
              simp only [List.getElem_toArray]
              have q := List.getElem?_eq_some_iff.mp this
              exact q.2
            rw [eu, ev]
            have ee : eAt ds es j = D.eqb d e := by unfold eAt; rw [g1, k1]
            rw [ee]
            refine ih d e xs[j] ys[j] u v A.in1 ?_ (by show A.units + 1 + n < cLine; omega) g2 k2 ru rv
            have := dep_mem g1
            unfold D.dep at hd
            omega
end
end Mx
end
section
set_option Elab.async false
set_option linter.all false
set_option maxRecDepth 100000
set_option maxHeartbeats 4000000
namespace Mx
open PySem PySem.Spec PyProof.Rows L2 PySem.SeqAt
/-! ### < -/
mutual
/-- of kinds that < takes: where both are tuples, place by place -/
def D.like : D → D → Prop
  | .int _, .int _ => True
  | .str _, .str _ => True
  | .tup a, .tup b => D.likes a b
  | _, _ => False
def D.likes : List D → List D → Prop
  | x :: xs, y :: ys => D.like x y ∧ D.likes xs ys
  | _, _ => True
end
def LtAt (A : Around) (s : Shared) (u v : Value) (b : Bool) : Prop :=
  ∀ (prog : Program) (w : World) (E : Value → Shared → Prop) (Q : Value → Shared → Prop), Q (.bool b) s → wpAny (model prog w) A (richCompare .Lt u v) Q E s
inductive Zp (A : Around) (s : Shared) : List Value → List Value → List D → List D → Prop
  | nil {ws : List Value} {es : List D} : ws.length = es.length → Zp A s [] ws [] es
  | nil' {vs : List Value} {ds : List D} : vs.length = ds.length → Zp A s vs [] ds []
  | cons {v w : Value} {d e : D} {vs ws : List Value} {ds es : List D} : EqAt A s v w (D.eqb d e) → (d ≠ e → LtAt A s v w (D.lt d e)) → Zp A s vs ws ds es → Zp A s (v :: vs) (w :: ws) (d :: ds) (e :: es)
section
open PySem.AutoSeq1 (wpAny_loadPart')
open PySem.MeetsSeq PySem.MeetsSeq2 PySem.MeetsSeq3
theorem tuple_lt_data (l b : Addr) (items items2 : Array Value) (n n2 : Nat) (dd dd2 : Option Addr) (sl sl2 : Array (Option Value)) (ds es : List D) (z1 : items.size = ds.length) (z2 : items2.size = es.length) :
    Meets (Builtin.«tuple.__lt__» ⟨[.ref l, .ref b], []⟩)
      (fun A R s => s.heap.get? l = some { cls := .type "tuple", dict := dd, data := .seq items n, slots := sl } ∧ s.heap.get? b = some { cls := .type "tuple", dict := dd2, data := .seq items2 n2, slots := sl2 } ∧
        Zp A.in1 s items.toList items2.toList ds es ∧ R (.ok (.ret (.bool (D.lts ds es)))) s) :=
  .of_wp fun prog w A R s h => by
    obtain ⟨hp, g, d, tk, os⟩ := s; obtain ⟨hl, hb, hz0, h⟩ := h
    have f2 := AutoSeq1.sub_tuple_tuple
    wp_walk using wpAny_loadPart' hl, wpAny_loadPart' hb, wpAny_forIn_list _ (fun rest b s' => b.1 = none ∧ s' = ⟨hp, g, d, tk, os⟩ ∧ ∃ (vs ws : List Value) (ds' es' : List D), rest = vs.zip ws ∧
      Zp A.in1 ⟨hp, g, d, tk, os⟩ vs ws ds' es' ∧ ds'.length + items2.size = es'.length + items.size ∧ R (.ok (.ret (.bool (D.lts ds' es')))) ⟨hp, g, d, tk, os⟩) _
    case turn =>
      rintro ⟨y, x⟩ rest b s' ⟨hb', rfl, vs, ws, ds', es', hz, hzp, hlen, hR⟩
      cases hzp with
      | nil _ => rw [List.zip_nil_left] at hz; cases hz
      | nil' _ => rw [List.zip_nil_right] at hz; cases hz
      | cons he hl hzp' =>
        rename_i v wv d0 e0 vs' ws' ds'' es''
        rw [List.zip_cons_cons] at hz
        injection hz with hyx hrest
        injection hyx with hy hx
        subst hy hx
        rw [D.lts_cons] at hR
        simp only [List.length_cons] at hlen
        refine wpAny_bind (he prog w _ _ ?_)
        by_cases hde : d0 = e0
        · rw [if_pos hde] at hR
          rw [(D.eqb_iff d0 e0).mpr hde]
          wp_walk
          exact ⟨rfl, rfl, _, _, _, _, hrest, hzp', by omega, hR⟩
        · rw [if_neg hde] at hR
          have e0' : D.eqb d0 e0 = false := by rw [D.eqb_dec]; exact decide_eq_false hde
          rw [e0']
          have hri := hl hde prog w
          wp_walk using hri
          exact ⟨_, rfl, by simpa using hR⟩
    case fin =>
      rintro ⟨b1, b2⟩ s' ⟨hb', rfl, vs, ws, ds', es', hz, hzp, hlen, hR⟩
      simp only at hb'
      subst hb'
      have hv : D.lts ds' es' = decide (items.size < items2.size) := by
        cases hzp with
        | nil _ =>
          cases es' with
          | nil =>
            simp only [List.length_nil] at hlen
            rw [D.lts]
            exact (decide_eq_false (by omega)).symm
          | cons c u =>
            simp only [List.length_nil, List.length_cons] at hlen
            rw [D.lts]
            exact (decide_eq_true (by omega)).symm
        | nil' _ =>
          cases ds' with
          | nil =>
            simp only [List.length_nil] at hlen
            rw [D.lts]
            exact (decide_eq_false (by omega)).symm
          | cons c u =>
            simp only [List.length_nil, List.length_cons] at hlen
            rw [D.lts]
            exact (decide_eq_false (by omega)).symm
        | cons he hl hzp' =>
          rw [List.zip_cons_cons] at hz
          cases hz
      rw [hv] at hR
      wp_walk
      exact ⟨_, rfl, by simpa [Builtin.Tuple.tupleCompareSizes] using hR⟩
    case h =>
      exact ⟨rfl, rfl, items.toList, items2.toList, ds, es, rfl, hz0, by omega, h⟩
end
section
variable {P : Program} {w : World} {H : Hp} {s : Shared}
theorem zp_of (hok : HOk P w H s.heap) {A : Around} {n : Nat} (hu : A.units + n < cLine) (ih : ∀ (d e : D) (x y : V) (u v : Value), D.dep d ≤ n → D.like d e → DV H x d → DV H y e → RelV x u → RelV y v → LtAt A s u v (D.lt d e)) :
    ∀ {xs ys : List V} {us vs : List Value} {ds es : List D}, D.deps ds ≤ n → D.likes ds es → DVs H xs ds → DVs H ys es → Vals xs us → Vals ys vs → Zp A s us vs ds es
  | [], ys, us, vs, [], es, _, _, _, h2, r1, r2 => by
    cases r1
    exact .nil (by rw [← r2.length, h2.length])
  | x :: xs, [], us, vs, ds, [], _, _, h1, _, r1, r2 => by
    cases r2
    exact .nil' (by rw [← r1.length, h1.length])
  | [], _, _, _, _ :: _, _, _, _, h, _, _, _ => by unfold DVs at h; exact h.elim
  | _ :: _, _, _, _, [], _, _, _, h, _, _, _ => by unfold DVs at h; exact h.elim
  | _ :: _, [], _, _, _ :: _, _ :: _, _, _, _, h, _, _ => by unfold DVs at h; exact h.elim
  | _ :: _, _ :: _, _, _, _ :: _, [], _, _, _, h, _, _ => by unfold DVs at h; exact h.elim
  | x :: xs, y :: ys, us, vs, d :: ds, e :: es, hd, hl, h1, h2, r1, r2 => by
    unfold DVs at h1 h2
    unfold D.likes at hl
    unfold D.deps at hd
    cases r1 with
    | cons r1 t1 =>
      cases r2 with
      | cons r2 t2 =>
        exact .cons (eq_data hok n d e x y _ _ A (by omega) hu h1.1 h2.1 r1 r2) (fun _ => ih d e x y _ _ (by omega) hl.1 h1.1 h2.1 r1 r2) (zp_of hok hu ih (by omega) hl.2 h1.2 h2.2 t1 t2)
theorem lt_data (hok : HOk P w H s.heap) : ∀ (n : Nat) (d e : D) (x y : V) (u v : Value) (A : Around), D.dep d ≤ n → A.units + n < cLine → D.like d e → DV H x d → DV H y e → RelV x u → RelV y v → LtAt A s u v (D.lt d e) := by
  intro n
  induction n with
  | zero =>
    intro d e x y u v A hd hu hl hx hy rx ry
    cases d with
    | int i =>
      have := hx.int_inv; subst this
      obtain ⟨t, rfl⟩ := rx
      cases e with
      | int j =>
        have := hy.int_inv; subst this; obtain ⟨t', rfl⟩ := ry
        intro prog wd E Q q
        exact (PyProof.Rows.lt_int q : wpAny (model prog wd) A (compareOp .Lt (.int i t) (.int j t')) Q E s)
      | str j => unfold D.like at hl; exact hl.elim
      | tup j => unfold D.like at hl; exact hl.elim
    | str i =>
      have := hx.str_inv; subst this
      obtain ⟨t, rfl⟩ := rx
      cases e with
      | int j => unfold D.like at hl; exact hl.elim
      | str j =>
        have := hy.str_inv; subst this; obtain ⟨t', rfl⟩ := ry
        intro prog wd E Q q
        exact (PySem.P.lt_str q : wpAny (model prog wd) A (compareOp .Lt (.str i t) (.str j t')) Q E s)
      | tup j => unfold D.like at hl; exact hl.elim
    | tup ds => unfold D.dep at hd; omega
  | succ n ih =>
    intro d e x y u v A hd hu hl hx hy rx ry
    cases d with
    | int i => exact ih (.int i) e x y u v A (by unfold D.dep; omega) (by omega) hl hx hy rx ry
    | str i => exact ih (.str i) e x y u v A (by unfold D.dep; omega) (by omega) hl hx hy rx ry
    | tup ds =>
      obtain ⟨a, xs, q, e1, e2⟩ := hx.tup_inv
      subst q
      cases rx
      cases e with
      | int j => unfold D.like at hl; exact hl.elim
      | str j => unfold D.like at hl; exact hl.elim
      | tup es =>
        obtain ⟨b, ys, q, f1, f2⟩ := hy.tup_inv
        subst q
        cases ry
        obtain ⟨its, r1, ht⟩ := tup_at hok e1
        obtain ⟨its2, r2, ht2⟩ := tup_at hok f1
        have l1 : its.toArray.size = ds.length := by rw [List.size_toArray, ← r1.length, e2.length]
        have l2 : its2.toArray.size = es.length := by rw [List.size_toArray, ← r2.length, f2.length]
        have hd' : D.deps ds ≤ n := by unfold D.dep at hd; omega
        have hl' : D.likes ds es := by unfold D.like at hl; exact hl
        have zz : Zp A.in1 s its its2 ds es := zp_of hok (n := n) (by show A.units + 1 + n < cLine; omega) (fun d e x y u v hd2 hl2 hx2 hy2 rx2 ry2 => ih d e x y u v A.in1 hd2 (by show A.units + 1 + n < cLine; omega) hl2 hx2 hy2 rx2 ry2) hd' hl' e2 f2 r1 r2
        intro prog wd E Q q
        obtain ⟨⟨cls, dd, data, sl⟩, ho, hc, k, hdt⟩ := id ht
        obtain ⟨⟨cls2, dd2, data2, sl2⟩, ho2, hc2, k2, hdt2⟩ := id ht2
        simp only at hc hdt hc2 hdt2
        subst hc hdt hc2 hdt2
        have q' : Q (.bool (D.lts ds es)) s := by have z := q; unfold D.lt at z; exact z
        exact richCompare_meets_room (op := .Lt) ⟨_, ho, rfl⟩ ⟨_, ho2, rfl⟩ PySem.F.slot_tuple_lt PySem.F.entry_tuple_lt (PySem.F.args_tuple_lt_2 _ _) (tuple_lt_data a b its.toArray its2.toArray k k2 dd dd2 sl sl2 ds es l1 l2)
          ⟨ho, ho2, zz, show Value.bool (D.lts ds es) ≠ Value.notImplemented ∧ Q (.bool (D.lts ds es)) s from ⟨(fun x => nomatch x), q'⟩⟩ (by omega)
end
end Mx
end
section
set_option Elab.async false
set_option linter.all false
set_option maxRecDepth 100000
set_option maxHeartbeats 4000000
namespace Mx
open PySem PySem.W PySem.Spec PyProof.Rows L2 PySem.SeqAt MxSort
section
variable {prog : Program} {w : World} {A : Around} {E : Value → Shared → Prop} {s : Shared}
def Kpt (h h' : Heap) : Prop := ∀ b o, h.get? b = some o → h'.get? b = some o
/-- a sort of the list at a, whose items are vs: where each comparison tells the order O of the keys -/
theorem sort_at {a : Addr} {vs : List Value} {n : Nat} {P : PySem.Fin → Shared → Prop} (ho : s.heap.get? a = some (seqObj "list" vs.toArray n)) (h64 : vs.length < 64) {O : KeyOrd} {key : Nat → O.α}
    (hk : 2 ≤ vs.length → ∀ h', (∀ b o, b ≠ a → s.heap.get? b = some o → h'.get? b = some o) → ∃ κ : SortKind, (∀ (Q : SortKind → Shared → Prop) (E : Value → Shared → Prop), Q κ { s with heap := h' } → wpAny (model prog w) A (keyKind' vs.toArray) Q E { s with heap := h' }) ∧
      Tells O key (kas_ask prog w A κ vs) vs.length { s with heap := h' })
    (h : ∀ (p : Array Nat) (h' : Heap) (e : Nat), Ord vs.length p → Up key p vs.length → (∀ b o, b ≠ a → s.heap.get? b = some o → h'.get? b = some o) → h'.get? a = some (seqObj "list" (p.toList.map fun i => vs.getD i Value.none).toArray e) →
      P (.done (.ret .none)) { s with heap := h' }) : wpAny (model prog w) A (Builtin.«list.sort» ⟨[.ref a], []⟩) P E s := by
  have ha : a < s.heap.objs.size := Heap.lt_size ho
  have hsl : vs.length ≤ sizeLine := by rw [sizeLine_eq]; omega
  rw [list_sort_plain]
  refine wpAny_bind (listItems_at ho rfl (wpAny_bind (listUpdate_at ho rfl ?_ (by rw [List.size_toArray]; exact hsl) (Nat.zero_le _))))
  obtain ⟨e1, ho1⟩ : ∃ e1, (s.heap.update a (Obj.mapSeq fun _ => (#[] : Array Value))).get? a = some (seqObj "list" #[] e1) := ⟨_, get?_update_seq ho fun _ => #[]⟩
  refine wpAny_bind (seqEpoch_at ho1 rfl (wpAny_bind (wpAny_newTuple ?_ hsl)))
  refine wpAny_bind (wpAny_newList (wpAny_holding ?_) (Nat.zero_le _))
  show wpAny (model prog w) A _ P E { s with heap := ((s.heap.update a (Obj.mapSeq fun _ => (#[] : Array Value))).push (seqObj "tuple" vs.toArray 0)).push (seqObj "list" #[] 0) }
  generalize hh : ((s.heap.update a (Obj.mapSeq fun _ => (#[] : Array Value))).push (seqObj "tuple" vs.toArray 0)).push (seqObj "list" #[] 0) = h1
  have k1 : ∀ b o, b ≠ a → s.heap.get? b = some o → h1.get? b = some o := fun b o hb e => by
    rw [← hh]
    exact Heap.get?_push_of_some _ (Heap.get?_push_of_some _ ((Heap.get?_update_other s.heap _ (Ne.symm hb)).trans e))
  have ha1 : h1.get? a = some (seqObj "list" #[] e1) := by
    rw [← hh]
    exact Heap.get?_push_of_some _ (Heap.get?_push_of_some _ ho1)
  dsimp only
  -- what is left once the order is known
  have fin : ∀ (st' : SortSt) (p : Array Nat), Ord vs.length p → Up key p vs.length → (arrOf st').map (·.2) = (p.toList.map fun i => vs.getD i Value.none).toArray → failedOf st' = none →
      wpAny (model prog w) A (do
        let touched := (← seqEpoch a) != e1
        Builtin.List.listUpdate (.ref a) fun _ => (arrOf st').map (·.2)
        if let some e := failedOf st' then rule "list.sort.comparison-raised"; throw e
        if touched then rule "list.sort.modified"; raiseError "ValueError" "list modified during sort"
        ret .none) P E { s with heap := h1 } := fun st' p hp hu hout hf => by
    refine wpAny_bind (seqEpoch_at (s := { s with heap := h1 }) ha1 rfl ?_)
    have hsz : (p.toList.map fun i => vs.getD i Value.none).toArray.size = vs.length := by rw [List.size_toArray, List.length_map, Array.length_toList, hp.size]
    rw [hout]
    refine wpAny_bind (listUpdate_at (s := { s with heap := h1 }) ha1 rfl ?_ (Nat.zero_le _) (by rw [hsz]; omega))
    rw [hf]
    simp only [bne_self_eq_false, Bool.false_eq_true, if_false]
    obtain ⟨c2, hc2⟩ : ∃ c2, (h1.update a (Obj.mapSeq fun _ => (p.toList.map fun i => vs.getD i Value.none).toArray)).get? a = some (seqObj "list" (p.toList.map fun i => vs.getD i Value.none).toArray c2) := ⟨_, get?_update_seq ha1 fun _ => _⟩
    exact wpAny_pure (h p _ c2 hp hu (fun b o hb e => (Heap.get?_update_other h1 _ (Ne.symm hb)).trans (k1 b o hb e)) hc2)
  by_cases h2 : 2 ≤ vs.length
  · have hn2 : ¬ vs.toArray.size < 2 := by rw [List.size_toArray]; omega
    rw [if_neg hn2, if_neg hn2]
    obtain ⟨κ, hkk, T⟩ := hk h2 h1 k1
    refine wpAny_bind (hkk _ _ ?_)
    refine wpAny_bind (wpAny_mono (kat_run (s := { s with heap := h1 }) (G := fun p s' => s' = { s with heap := h1 } ∧ Ord vs.length p ∧ Up key p vs.length)
      (Q := fun st' s' => s' = { s with heap := h1 } ∧ ∃ p : Array Nat, Ord vs.length p ∧ Up key p vs.length ∧ (arrOf st').map (·.2) = (p.toList.map fun i => vs.getD i Value.none).toArray ∧ failedOf st' = none) rfl h2 h64
      (fun p st' s' z1 z2 z3 z4 => ⟨z4.1, p, z4.2.1, z4.2.2, kat_snds rfl z2, z3⟩) (sort_ok T (by omega) fun p' hp hu => ⟨rfl, hp, hu⟩)) ?_ fun _ _ e => e)
    rintro ⟨⟨⟩, st'⟩ s' ⟨rfl, p, hp, hu, hout, hf⟩
    exact fin st' p hp hu hout hf
  · have hn2 : vs.toArray.size < 2 := by rw [List.size_toArray]; omega
    rw [if_pos hn2, if_pos hn2]
    refine wpAny_bind (wpAny_pure ?_)
    rw [StateT.run_pure]
    refine wpAny_bind (wpAny_pure ?_)
    refine fin (SortSt.mk' general' (vs.toArray.zip vs.toArray) #[] 7 none) (List.range vs.length).toArray (by unfold MxSort.Ord; simp) (fun i j hij hj => ?_) ?_ rfl
    · rw [show i = j by omega]; exact KeyOrd.kle_refl _
    · apply Array.toList_inj.mp
      show (((vs.toArray.zip vs.toArray)).map (·.2)).toList = _
      match vs, h2 with
      | [], _ => simp
      | [v], _ => simp
      | _ :: _ :: _, h2 => exact absurd (by simp) h2
/-- sorted(l) of a list or a tuple -/
theorem sorted_at {l : Addr} {T : String} {o : Obj} {vs : List Value} {n : Nat} {Q : Value → Shared → Prop} (hT : T = "list" ∨ T = "tuple") (ho : s.heap.get? l = some o) (hc : o.cls = .type T) (hd : o.data = .seq vs.toArray n) (h64 : vs.length < 64) {O : KeyOrd} {key : Nat → O.α}
    (hk : 2 ≤ vs.length → ∀ h', Kpt s.heap h' → ∃ κ : SortKind, (∀ (Q : SortKind → Shared → Prop) (E : Value → Shared → Prop), Q κ { s with heap := h' } → wpAny (model prog w) A.in1.in1 (keyKind' vs.toArray) Q E { s with heap := h' }) ∧
      Tells O key (kas_ask prog w A.in1.in1 κ vs) vs.length { s with heap := h' })
    (h : ∀ (p : Array Nat) (h1 h' : Heap) (e : Nat), Ord vs.length p → Up key p vs.length → Kpt s.heap h1 → Kpt h1 h' → h'.get? h1.objs.size = some (seqObj "list" (p.toList.map fun i => vs.getD i Value.none).toArray e) →
      Q (.ref h1.objs.size) { s with heap := h' }) : wpAny (model prog w) A (call (.builtin "sorted") [.ref l]) Q E s := by
  have hsl : vs.length ≤ sizeLine := by rw [sizeLine_eq]; omega
  refine Calls.call_function_entry kind_sorted plain_sorted entry_sorted (args_sorted1 _) ?_
  unfold Builtin.«sorted»
  refine wpAny_bind (m := checkCount "sorted" 1 1 _) (wpAny_pure (wpAny_bind (wpAny_collect_seq l hT ho hc hd (fun h1 k1 => ?_) (by rw [List.size_toArray]; exact hsl))))
  refine wpAny_bind (wpAny_newList ?_ (by simpa using hsl))
  have hoL : (h1.push (seqObj "list" vs.toArray 0)).get? h1.objs.size = some (seqObj "list" vs.toArray 0) := Heap.get?_push_size _ rfl
  show wpAny _ _ _ _ _ { s with heap := h1.push (seqObj "list" vs.toArray 0) }
  have ne : ∀ b o, h1.get? b = some o → b ≠ h1.objs.size := fun b o e => Nat.ne_of_lt (Heap.lt_size e)
  refine wpAny_bind (wpAny_holding (wpAny_call_entry slot_list_sort (s := { s with heap := h1.push (seqObj "list" vs.toArray 0) }) ⟨_, hoL, rfl⟩ entry_list_sort
    (sort_at (s := { s with heap := h1.push (seqObj "list" vs.toArray 0) }) (O := O) (key := key) hoL h64 (fun h2 h' kk => ?_) fun p h' e hp hu kk hD => ?_) (args_list_sort _)))
  · exact hk h2 h' fun b o e => kk b o (ne b o (k1 b o e)) (Heap.get?_push_of_some _ (k1 b o e))
  · exact ⟨_, rfl, wpAny_pure ⟨_, rfl, h p h1 h' e hp hu k1 (fun b o q => kk b o (ne b o q) (Heap.get?_push_of_some _ q)) hD⟩⟩
end
end Mx
end
section
set_option Elab.async false
set_option linter.all false
set_option maxRecDepth 100000
set_option maxHeartbeats 4000000
namespace Mx
open PySem PySem.W PySem.Spec PyProof.Rows L2 PySem.SeqAt MxSort
/-- tuples whose first places are of one kind: tuples (b false) or texts (b true) -/
def Firsts (b : Bool) (d : D) : Prop := match b with
  | false => ∃ f r, d = .tup (.tup f :: r)
  | true => ∃ f r, d = .tup (.str f :: r)
section
variable {P : Program} {w : World} {H : Hp} {prog : Program} {s : Shared} {A : Around}
theorem katlex1 {b : Bool} {n m : Nat} {Q : Bool → Shared → Prop} {us vs : List Value} {ds es : List D} (z : Zp A s us vs ds es) : ∀ (i : Nat), 1 ≤ i → ds.length + m = es.length + n → Q (D.lts ds es) s → KatLex prog w A b (decide (n < m)) Q (us.zip vs) i s := by
  induction z with
  | nil hl =>
    intro i hi hlen q
    rw [List.zip_nil_left]
    refine kat_nil ?_
    rename_i ws es
    cases es with
    | nil => simp only [List.length_nil] at hlen; rw [D.lts] at q; rw [decide_eq_false (by omega)]; exact q
    | cons c u => simp only [List.length_nil, List.length_cons] at hlen; rw [D.lts] at q; rw [decide_eq_true (by omega)]; exact q
  | nil' hl =>
    intro i hi hlen q
    rw [List.zip_nil_right]
    refine kat_nil ?_
    rename_i vs ds
    cases ds with
    | nil => simp only [List.length_nil] at hlen; rw [D.lts] at q; rw [decide_eq_false (by omega)]; exact q
    | cons c u => simp only [List.length_nil, List.length_cons] at hlen; rw [D.lts] at q; rw [decide_eq_false (by omega)]; exact q
  | cons he hl z' ih =>
    intro i hi hlen q
    rename_i v wv d e vs' ws' ds' es'
    rw [List.zip_cons_cons]
    simp only [List.length_cons] at hlen
    rw [D.lts_cons] at q
    refine kat_cons (he prog w _ _ ?_)
    by_cases hde : d = e
    · rw [(D.eqb_iff d e).mpr hde]
      rw [if_pos hde] at q
      exact kat_yes (ih (i + 1) (by omega) (by omega) q)
    · rw [show D.eqb d e = false by rw [D.eqb_dec]; exact decide_eq_false hde]
      rw [if_neg hde] at q
      refine kat_no ?_
      rw [show (b && i == 0) = false by rw [show (i == 0) = false by simp; omega]; simp]
      exact kat_one v wv (hl hde prog w _ _ q)
theorem katlex0 {b : Bool} {n m : Nat} {Q : Bool → Shared → Prop} {v wv : Value} {us vs : List Value} {d e : D} {ds es : List D} (z : Zp A s (v :: us) (wv :: vs) (d :: ds) (e :: es)) (hs : b = true → ∃ x t y t', v = .str x t ∧ wv = .str y t' ∧ d = .str x ∧ e = .str y)
    (hlen : ds.length + m = es.length + n) (q : Q (D.lts (d :: ds) (e :: es)) s) : KatLex prog w A b (decide (n < m)) Q ((v :: us).zip (wv :: vs)) 0 s := by
  cases z with
  | cons he hl z' =>
    rw [List.zip_cons_cons]
    rw [D.lts_cons] at q
    refine kat_cons (he prog w _ _ ?_)
    by_cases hde : d = e
    · rw [(D.eqb_iff d e).mpr hde]
      rw [if_pos hde] at q
      exact kat_yes (katlex1 z' 1 (by omega) hlen q)
    · rw [show D.eqb d e = false by rw [D.eqb_dec]; exact decide_eq_false hde]
      rw [if_neg hde] at q
      refine kat_no ?_
      cases b with
      | false =>
        rw [show (false && 0 == 0) = false by rfl]
        exact kat_one v wv (hl hde prog w _ _ q)
      | true =>
        obtain ⟨x, t, y, t', rfl, rfl, rfl, rfl⟩ := hs rfl
        rw [show (true && 0 == 0) = true by rfl]
        refine oneLt_str ?_
        have q' := q
        unfold D.lt at q'
        exact q'
theorem key_lt (hok : HOk P w H s.heap) {n : Nat} (hu : A.units + n < cLine) {b : Bool} {d e : D} {x y : V} {u v : Value} (hd : D.dep d ≤ n + 1) (hl : D.like d e) (fd : Firsts b d) (fe : Firsts b e) (hx : DV H x d) (hy : DV H y e) (rx : RelV x u) (ry : RelV y v) {Q : Bool → Shared → Prop} {E : Value → Shared → Prop}
    (q : Q (D.lt d e) s) : wpAny (model prog w) A (keyLt' (tuples' b) u v) Q E s := by
  have sh : ∃ d0 dr e0 er, d = .tup (d0 :: dr) ∧ e = .tup (e0 :: er) ∧ (b = true → ∃ p q, d0 = .str p ∧ e0 = .str q) := by
    cases b with
    | false => obtain ⟨f, r, rfl⟩ := fd; obtain ⟨f', r', rfl⟩ := fe; exact ⟨_, _, _, _, rfl, rfl, fun z => nomatch z⟩
    | true => obtain ⟨f, r, rfl⟩ := fd; obtain ⟨f', r', rfl⟩ := fe; exact ⟨_, _, _, _, rfl, rfl, fun _ => ⟨f, f', rfl, rfl⟩⟩
  obtain ⟨d0, dr, e0, er, rfl, rfl, hs⟩ := sh
  obtain ⟨a, xs, q1, e1, e2⟩ := hx.tup_inv
  subst q1
  cases rx
  obtain ⟨b', ys, q1, f1, f2⟩ := hy.tup_inv
  subst q1
  cases ry
  obtain ⟨its, r1, o, ho, hc, k, hdt⟩ := tup_at hok e1
  obtain ⟨its2, r2, o2, ho2, hc2, k2, hdt2⟩ := tup_at hok f1
  obtain ⟨x0, xr, rfl, gx0, gxr⟩ := e2.cons_inv
  obtain ⟨y0, yr, rfl, gy0, gyr⟩ := f2.cons_inv
  cases r1 with
  | cons r10 r1r =>
    cases r2 with
    | cons r20 r2r =>
      rename_i u0 ur v0 vr
      have hd' : D.deps (d0 :: dr) ≤ n := by unfold D.dep at hd; omega
      have hl' : D.likes (d0 :: dr) (e0 :: er) := by unfold D.like at hl; exact hl
      have zz : Zp A s (u0 :: ur) (v0 :: vr) (d0 :: dr) (e0 :: er) := zp_of hok hu (fun d e x y u v hd2 hl2 hx2 hy2 rx2 ry2 => lt_data hok n d e x y u v A hd2 hu hl2 hx2 hy2 rx2 ry2) hd' hl' e2 f2 (.cons r10 r1r) (.cons r20 r2r)
      refine kat_lt ho hdt ho2 hdt2 ?_
      have l1 : (u0 :: ur).toArray.size = (d0 :: dr).length := by rw [List.size_toArray, List.length_cons, List.length_cons, ← r1r.length, gxr.length]
      have l2 : (v0 :: vr).toArray.size = (e0 :: er).length := by rw [List.size_toArray, List.length_cons, List.length_cons, ← r2r.length, gyr.length]
      have q' : Q (D.lts (d0 :: dr) (e0 :: er)) s := by have z := q; unfold D.lt at z; exact z
      refine katlex0 zz (fun hb => ?_) (by rw [l1, l2]; simp only [List.length_cons]; omega) q'
      obtain ⟨p, q2, rfl, rfl⟩ := hs hb
      have z1 := gx0.str_inv
      have z2 := gy0.str_inv
      subst z1 z2
      obtain ⟨t, rfl⟩ := r10
      obtain ⟨t', rfl⟩ := r20
      exact ⟨p, t, q2, t', rfl, rfl, rfl, rfl⟩
theorem kat_of (hok : HOk P w H s.heap) {b : Bool} : ∀ {xs : List V} {us : List Value} {ds : List D}, DVs H xs ds → Vals xs us → (∀ d ∈ ds, Firsts b d) →
    ∃ fs, KatTups s.heap us fs ∧ fs.length = us.length ∧ ∀ v ∈ fs, Looks (model prog w) s.heap (typeOf v) (.type (if b = true then "str" else "tuple"))
  | [], us, ds, _, r, _ => by
    cases r
    exact ⟨[], KatTups.nil, rfl, fun v hv => absurd hv (by simp)⟩
  | x :: xs, us, ds, h, r, hf => by
    cases r with
    | cons r0 rr =>
      cases ds with
      | nil => unfold DVs at h; exact h.elim
      | cons d ds =>
        unfold DVs at h
        obtain ⟨fs, t, l, lk⟩ := kat_of hok h.2 rr fun d hd => hf d (List.mem_cons_of_mem _ hd)
        have sh : ∃ d0 dr, d = .tup (d0 :: dr) ∧ ((b = true ∧ ∃ p, d0 = .str p) ∨ (b = false ∧ ∃ p, d0 = .tup p)) := by
          have z := hf d List.mem_cons_self
          cases b with
          | false => obtain ⟨f, r, rfl⟩ := z; exact ⟨_, _, rfl, .inr ⟨rfl, _, rfl⟩⟩
          | true => obtain ⟨f, r, rfl⟩ := z; exact ⟨_, _, rfl, .inl ⟨rfl, _, rfl⟩⟩
        obtain ⟨d0, dr, rfl, hd0⟩ := sh
        obtain ⟨a, ys, q1, e1, e2⟩ := h.1.tup_inv
        subst q1
        cases r0
        obtain ⟨its, r1, o, ho, hc, k, hdt⟩ := tup_at hok e1
        obtain ⟨x0, xr, rfl, gx0, gxr⟩ := e2.cons_inv
        cases r1 with
        | cons r10 r1r =>
          rename_i u0 ur
          refine ⟨u0 :: fs, KatTups.cons ho hc hdt (by simp) t, by simp [l], fun v hv => ?_⟩
          rcases List.mem_cons.mp hv with rfl | hv
          · rcases hd0 with ⟨hb, p, rfl⟩ | ⟨hb, p, rfl⟩
            · have z1 := gx0.str_inv
              subst z1
              obtain ⟨t', rfl⟩ := r10
              rw [if_pos hb]
              exact Looks.of_pure rfl
            · obtain ⟨a2, y2, q2, g1, g2⟩ := gx0.tup_inv
              subst q2
              cases r10
              obtain ⟨its2, _, o2, ho2, hc2, _⟩ := tup_at hok g1
              rw [if_neg (by rw [hb]; simp), ← hc2]
              exact (Looks.ld ho2).andThen .now
          · exact lk v hv
end
/-- data that are sorted: es is ds in order -/
def SortedOf (ds es : List D) : Prop := es.Perm ds ∧ es.Pairwise fun a b => D.lt b a = false
def rSorted (K : PySem.W.Frag) : List V → Hp → VK → Prop := fun xs H Q => ∃ a ys ds b, xs = [.ref a] ∧ (SqL K H a ys ∨ SqT K H a ys) ∧ DVs H ys ds ∧ ys.length < 64 ∧ D.deps ds ≤ 100 ∧ (∀ d ∈ ds, Firsts b d) ∧ (∀ d ∈ ds, ∀ e ∈ ds, D.like d e) ∧
  ∀ l zs es, H l = none → DVs H zs es → SortedOf ds es → Q (.ref l) (upd H l (.lst zs))
theorem DVs.map {H : Hp} {xs : List V} {ds : List D} (h : DVs H xs ds) : ∀ {p : List Nat}, (∀ i ∈ p, i < xs.length) → DVs H (p.map fun i => xs.getD i .non) (p.map fun i => ds.getD i (.int 0))
  | [], _ => DVs.nil
  | i :: p, hp => by
    have hi := hp i List.mem_cons_self
    obtain ⟨d, e1, e2⟩ := h.get (i := i) (x := xs[i]) (by simp [hi])
    refine DVs.cons ?_ (DVs.map h fun j hj => hp j (List.mem_cons_of_mem _ hj))
    dsimp only
    rw [show xs.getD i .non = xs[i] by simp [hi], show ds.getD i (.int 0) = d by simp [e1]]
    exact e2
theorem vals_map {xs : List V} {us : List Value} (h : Vals xs us) : ∀ {p : List Nat}, (∀ i ∈ p, i < xs.length) → Vals (p.map fun i => xs.getD i .non) (p.map fun i => us.getD i .none)
  | [], _ => .nil
  | i :: p, hp => by
    have hi := hp i List.mem_cons_self
    obtain ⟨u, e1, e2⟩ := h.get (i := i) (x := xs[i]) (by simp [hi])
    refine .cons ?_ (vals_map h fun j hj => hp j (List.mem_cons_of_mem _ hj))
    dsimp only
    rw [show xs.getD i .non = xs[i] by simp [hi], show us.getD i .none = u by simp [e1]]
    exact e2
theorem map_range_getD {α : Type} (l : List α) (d : α) : (List.range l.length).map (fun i => l.getD i d) = l := by
  refine List.ext_getElem (by simp) fun i h1 h2 => ?_
  simp at h1
  simp [h1]
theorem call_sorted {X : Cx} (hu : X.A.units + 150 < cLine) : CallR X (.builtin "sorted") (rSorted X.K) := by
  intro pins s σ H xs us Q I r h
  obtain ⟨a, ys, ds, b, rfl, hq, hdv, h64, hdep, hf, hlk, q⟩ := h
  obtain ⟨u, rfl, ru⟩ := r.one
  cases ru
  have sh : ∃ (its : List Value) (T : String) (o : Obj) (n : Nat), Vals ys its ∧ (T = "list" ∨ T = "tuple") ∧ s.heap.get? a = some o ∧ o.cls = .type T ∧ o.data = .seq its.toArray n := by
    rcases hq with hq | hq
    · obtain ⟨its, rv, ⟨o, n, ho, hc, _, hd⟩, _⟩ := I.list hq
      exact ⟨its, "list", o, n, rv, .inl rfl, ho, hc, hd⟩
    · obtain ⟨its, rv, ⟨o, ho, hc, n, hd⟩, _⟩ := I.tuple hq
      exact ⟨its, "tuple", o, n, rv, .inr rfl, ho, hc, hd⟩
  obtain ⟨its, T, o, n, rv, hT, ho, hc, hd⟩ := sh
  have hl := rv.length
  have hl2 := hdv.length
  refine sorted_at (O := dOrd) (key := fun i => ds.getD i (.int 0)) hT ho hc hd (by omega) (fun h2 h' kk => ?_) fun p h1 h' e hp hup k1 k2 hD => ?_
  · have hok' : HOk X.prog X.w H h' := I.hok.kept kk
    refine ⟨tuples' b, fun Q' E' q' => ?_, fun i j hi hj C hC => ?_⟩
    · obtain ⟨fs, t, l, lk⟩ := kat_of (prog := X.prog) (s := { s with heap := h' }) hok' hdv rv hf
      refine kat_kind t (by omega) lk (by cases b <;> rfl) ?_
      cases b with
      | false => exact q'
      | true => exact q'
    · obtain ⟨di, ei1, ei2⟩ := hdv.get (i := i) (x := ys[i]'(by omega)) (by simp)
      obtain ⟨dj, ej1, ej2⟩ := hdv.get (i := j) (x := ys[j]'(by omega)) (by simp)
      obtain ⟨ui, hui, rui⟩ := rv.get (i := i) (x := ys[i]'(by omega)) (by simp)
      obtain ⟨uj, huj, ruj⟩ := rv.get (i := j) (x := ys[j]'(by omega)) (by simp)
      unfold kas_ask
      rw [show its.getD i Value.none = ui by simp [hui], show its.getD j Value.none = uj by simp [huj]]
      have ki : ds.getD i (.int 0) = di := by simp [ei1]
      have kj : ds.getD j (.int 0) = dj := by simp [ej1]
      have mi : di ∈ ds := List.mem_of_getElem? ei1
      have mj : dj ∈ ds := List.mem_of_getElem? ej1
      refine key_lt (s := { s with heap := h' }) hok' (n := 100) (by show X.A.units + 1 + 1 + 100 < cLine; omega) (Nat.le_trans (dep_mem ei1) (by omega)) (hlk di mi dj mj) (hf di mi) (hf dj mj) ei2 ej2 rui ruj ?_
      have hC' : C (D.lt (ds.getD i (.int 0)) (ds.getD j (.int 0))) { s with heap := h' } := hC
      rw [ki, kj] at hC'
      exact hC'
  · have hp' : p.toList.Perm (List.range its.length) := hp
    have hin : ∀ i ∈ p.toList, i < ys.length := fun i hi => by
      have := List.mem_range.mp (hp'.mem_iff.mp hi)
      omega
    have I1 : Inv X pins σ H { s with heap := h1 } := I.kept (t' := s.toks) k1
    have new : ObjOk X.prog X.w (upd H h1.objs.size (.lst (p.toList.map fun i => ys.getD i .non))) h' h1.objs.size (.lst (p.toList.map fun i => ys.getD i .non)) :=
      ⟨by rw [List.length_map, hp'.length_eq, List.length_range]; rw [sizeLine_eq]; omega, _, e, vals_map rv hin, hD⟩
    have I2 := I1.laid (t' := s.toks) (a := h1.objs.size) k2 (Nat.le_refl _) new
    refine ⟨.ref h1.objs.size, _, I2, rfl, q _ _ (p.toList.map fun i => ds.getD i (.int 0)) (I1.hok.fresh (Nat.le_refl _)) (hdv.map hin) ⟨?_, ?_⟩⟩
    · have e1 := hp'.map (fun i => ds.getD i (.int 0))
      rw [show its.length = ds.length by omega] at e1
      rw [map_range_getD] at e1
      exact e1
    · have hup' : ∀ i j, i ≤ j → j < its.length → D.lt (ds.getD (p.getD j 0) (.int 0)) (ds.getD (p.getD i 0) (.int 0)) = false := hup
      have hsz : p.toList.length = its.length := by rw [hp'.length_eq, List.length_range]
      rw [List.pairwise_map, List.pairwise_iff_getElem]
      intro i j hi hj hij
      have := hup' i j (by omega) (by omega)
      rw [show p.getD i 0 = p.toList[i] by simp at hi; simp [Array.getD, hi], show p.getD j 0 = p.toList[j] by simp at hj; simp [Array.getD, hj]] at this
      exact this
end Mx
end
section
set_option Elab.async false
set_option linter.all false
set_option maxRecDepth 100000
set_option maxHeartbeats 4000000
/-! a sort of 64 things and more: galloping and merging -/
namespace MxTim
open PySem PySem.W PyProof.Rows
def gal : Bool → Keyed → Array Keyed → Nat → Nat → Nat → StateT SortSt Sem (Option Nat) := sortPriv% PySem.Builtin.gallop
theorem gal_eq (lft : Bool) (k : Keyed) (xs : Array Keyed) (b m h : Nat) : gal lft k xs b m h = (do
  let past (i : Nat) : StateT SortSt Sem (Option Bool) := do
    let y ← elem' xs (b + i)
    if lft then lt' y k else return (← lt' k y).map (!·)
  let mut la := 0
  let mut st := 1
  let mut u := 0
  let mut v := 0
  let some c0 ← past h | return none
  if c0 then
    let mx := m - h
    for _ in [0:m] do
      if st ≥ mx then break
      let some c1 ← past (h + st) | return none
      if !c1 then break
      la := st
      st := 2 * st + 1
    u := h + la + 1
    v := h + min st mx
  else
    let mx := h + 1
    for _ in [0:m] do
      if st ≥ mx then break
      let some c1 ← past (h - st) | return none
      if c1 then break
      la := st
      st := 2 * st + 1
    u := h + 1 - min st mx
    v := h - la
  for _ in [0:m] do
    if u ≥ v then break
    let mm := u + (v - u) / 2
    let some c2 ← past mm | return none
    if c2 then u := mm + 1 else v := mm
  return some v) := rfl
section
variable {prog : Program} {w : World} {A : Around} {E : Value → Shared → Prop} {κ : SortKind} {s : Shared} {O : KeyOrd} {ky : Keyed → O.α} {Mem : Keyed → Prop}
/-- comparisons tell the order and change nothing -/
def Tells (prog : Program) (w : World) (A : Around) (κ : SortKind) (s : Shared) (O : KeyOrd) (ky : Keyed → O.α) (Mem : Keyed → Prop) : Prop :=
  ∀ x y, Mem x → Mem y → ∀ C : Bool → Shared → Prop, C (O.blt (ky x) (ky y)) s → wpAny (model prog w) A (keyLt' κ x.1 y.1) C (fun _ _ => False) s
theorem lt_wp (T : Tells prog w A κ s O ky Mem) {x y : Keyed} (hx : Mem x) (hy : Mem y) {st : SortSt} (hk : kindOf st = κ) {Q : Option Bool → SortSt → Shared → Prop} (h : Q (some (O.blt (ky x) (ky y))) st s) : kasC (model prog w) A E (lt' x y) Q st s := by
  rw [lt'_eq]
  refine kasC_bind (kasC_get ?_)
  rw [hk]
  refine kasC_bind (kasC_lift (wpAny_attempt (wpAny_mono (T x y hx hy (fun c s' => Q (some c) st s') h) (fun c s' hc => ?_) fun _ _ hF => hF.elim)))
  exact kasC_pure hc
theorem elem_wp {xs : Array Keyed} {i : Nat} {x : Keyed} (hx : xs[i]? = some x) {st : SortSt} {Q : Keyed → SortSt → Shared → Prop} (h : Q x st s) : kasC (model prog w) A E (elem' xs i) Q st s := by
  rw [elem'_eq, hx]
  exact kasC_pure h
theorem loop_wp {β : Type} {l : List Nat} {b0 : β} {f : Nat → β → StateT SortSt Sem (ForInStep β)} {Q : β → SortSt → Shared → Prop} (Inv : Nat → β → SortSt → Prop) {st0 : SortSt} (h0 : Inv 0 b0 st0)
    (step : ∀ j b st x, j < l.length → Inv j b st → kasC (model prog w) A E (f x b) (fun r st' s' => s' = s ∧ match r with | .done b' => Q b' st' s | .yield b' => Inv (j + 1) b' st') st s)
    (fin : ∀ b st, Inv l.length b st → Q b st s) : kasC (model prog w) A E (forIn l b0 f) Q st0 s := by
  have go : ∀ (l' : List Nat) (j : Nat) (b : β) (st : SortSt), j + l'.length = l.length → Inv j b st → kasC (model prog w) A E (forIn l' b f) Q st s := by
    intro l'
    induction l' with
    | nil =>
      intro j b st hj hI
      simp only [List.length_nil, Nat.add_zero] at hj
      subst hj
      exact kasC_nil (fin b st hI)
    | cons x l' ih =>
      intro j b st hj hI
      simp only [List.length_cons] at hj
      refine kasC_cons (wpAny_mono (step j b st x (by omega) hI) (fun r s' h' => ?_) fun _ _ e => e)
      obtain ⟨r, st'⟩ := r
      obtain ⟨rfl, h'⟩ := h'
      cases r with
      | done b' => exact h'
      | yield b' => exact ih (j + 1) b' st' (by omega) h'
  exact go l 0 b0 st0 (by omega) h0
theorem kasC_mono {α : Type} {m : StateT SortSt Sem α} {Q Q' : α → SortSt → Shared → Prop} {st : SortSt} (h : kasC (model prog w) A E m Q st s) (hq : ∀ a st' s', Q a st' s' → Q' a st' s') : kasC (model prog w) A E m Q' st s := by
  unfold kasC at h ⊢
  exact wpAny_mono h (fun r s' h' => hq _ _ _ h') fun _ _ e => e
/-- past: at place i of the stretch the key goes further -/
def bey (O : KeyOrd) (ky : Keyed → O.α) (lft : Bool) (k : Keyed) (g : Nat → Keyed) (i : Nat) : Bool := if lft = true then O.blt (ky (g i)) (ky k) else !O.blt (ky k) (ky (g i))
theorem gal_wp (T : Tells prog w A κ s O ky Mem) {lft : Bool} {k : Keyed} {xs : Array Keyed} {b m h : Nat} (g : Nat → Keyed) (hg : ∀ i, i < m → xs[b + i]? = some (g i)) (hm : ∀ i, i < m → Mem (g i)) (hk : Mem k) (hh : h < m)
    (mono : ∀ i j, i ≤ j → j < m → bey O ky lft k g j = true → bey O ky lft k g i = true) {st : SortSt} (hs : kindOf st = κ) {Q : Option Nat → SortSt → Shared → Prop}
    (q : ∀ v, v ≤ m → (∀ i, i < v → bey O ky lft k g i = true) → (∀ i, v ≤ i → i < m → bey O ky lft k g i = false) → Q (some v) st s) : kasC (model prog w) A E (gal lft k xs b m h) Q st s := by
  have past : ∀ (i : Nat) {R : Option Bool → SortSt → Shared → Prop}, i < m → R (some (bey O ky lft k g i)) st s → kasC (model prog w) A E (do
      let y ← elem' xs (b + i)
      if lft = true then lt' y k else do
        let r ← lt' k y
        pure (r.map (!·))) R st s := fun i R hi hR => by
    refine kasC_bind (elem_wp (hg i hi) ?_)
    unfold bey at hR
    cases lft with
    | true =>
      rw [if_pos rfl] at hR ⊢
      exact lt_wp T (hm i hi) hk hs hR
    | false =>
      rw [if_neg (by simp)] at hR ⊢
      exact kasC_bind (lt_wp T hk (hm i hi) hs (kasC_pure hR))
  have nmono : ∀ i j, i ≤ j → j < m → bey O ky lft k g i = false → bey O ky lft k g j = false := fun i j hij hj hi => by
    cases c : bey O ky lft k g j with
    | false => rfl
    | true => rw [mono i j hij hj c] at hi; cases hi
  rw [gal_eq]
  dsimp only
  refine kasC_bind (past h hh ?_)
  dsimp only
  cases c0 : bey O ky lft k g h with
  | true =>
    rw [if_pos rfl]
    refine kasC_bind (kasC_mono (Q := fun r st' s' => st = st' ∧ s = s' ∧ ∃ la sp, r = (none, la, sp) ∧ h + la < m ∧ la < sp ∧ bey O ky lft k g (h + la) = true ∧ ∀ i, h + min sp (m - h) ≤ i → i < m → bey O ky lft k g i = false) (kasC_range (loop_wp (fun j r st' => st = st' ∧ ∃ la sp, r = (none, la, sp) ∧ h + la < m ∧ la < sp ∧ j + 1 ≤ sp ∧ bey O ky lft k g (h + la) = true) ⟨rfl, 0, 1, rfl, by omega, by omega, by omega, c0⟩ (fun j r st' x hj hI => ?_) (fun r st' hI => ?_))) (fun r st' s' hI => ?_))
    · obtain ⟨rfl, la, sp, rfl, hla, hsp, hj1, hb⟩ := hI
      dsimp only
      by_cases c : sp ≥ m - h
      · rw [if_pos c]
        exact kasC_pure ⟨rfl, rfl, rfl, la, sp, rfl, hla, hsp, hb, fun i hi him => by omega⟩
      · rw [if_neg c]
        refine kasC_bind (past _ (by omega) ?_)
        dsimp only
        cases cb : bey O ky lft k g (h + sp) with
        | true =>
          rw [if_neg (by simp)]
          exact kasC_pure ⟨rfl, rfl, _, _, rfl, by omega, by omega, by omega, cb⟩
        | false =>
          rw [if_pos (by simp)]
          exact kasC_pure ⟨rfl, rfl, rfl, la, sp, rfl, hla, hsp, hb, fun i hi him => nmono (h + sp) i (by omega) him cb⟩
    · obtain ⟨rfl, la, sp, rfl, hla, hsp, hj1, hb⟩ := hI
      rw [List.length_range'] at hj1
      exact ⟨rfl, rfl, la, sp, rfl, hla, hsp, hb, fun i hi him => by omega⟩
    obtain ⟨rfl, rfl, la, sp, rfl, hla, hsp, hb, hhi⟩ := hI
    have hlo : ∀ i, i < h + la + 1 → bey O ky lft k g i = true := fun i hi => mono i _ (by omega) hla hb
    dsimp only
    refine kasC_bind (kasC_range (loop_wp (fun j r st' => st = st' ∧ ∃ u v, r = (none, u, v) ∧ v ≤ m ∧ u ≤ v ∧ v - u + j ≤ m ∧ (∀ i, i < u → bey O ky lft k g i = true) ∧ (∀ i, v ≤ i → i < m → bey O ky lft k g i = false)) ⟨rfl, _, _, rfl, by omega, by omega, by omega, hlo, hhi⟩ (fun j r st' x hj hI => ?_) (fun r st' hI => ?_)))
    · obtain ⟨rfl, u, v, rfl, hv, huv, hjv, h1, h2⟩ := hI
      dsimp only
      by_cases c : u ≥ v
      · rw [if_pos c]
        have e : u = v := by omega
        subst e
        exact kasC_pure ⟨rfl, kasC_pure (q u hv h1 h2)⟩
      · rw [if_neg c]
        have hmm : u + (v - u) / 2 < v := by omega
        refine kasC_bind (past _ (by omega) ?_)
        dsimp only
        cases cb : bey O ky lft k g (u + (v - u) / 2) with
        | true =>
          rw [if_pos rfl]
          exact kasC_pure ⟨rfl, rfl, _, _, rfl, hv, by omega, by omega, fun i hi => mono i _ (by omega) (by omega) cb, h2⟩
        | false =>
          rw [if_neg (by simp)]
          exact kasC_pure ⟨rfl, rfl, _, _, rfl, by omega, by omega, by omega, h1, fun i hi him => nmono _ i hi him cb⟩
    · obtain ⟨rfl, u, v, rfl, hv, huv, hjv, h1, h2⟩ := hI
      have e : u = v := by
        rw [List.length_range'] at hjv
        omega
      subst e
      exact kasC_pure (q u hv h1 h2)
  | false =>
    rw [if_neg (by simp)]
    refine kasC_bind (kasC_mono (Q := fun r st' s' => st = st' ∧ s = s' ∧ ∃ la sp, r = (none, la, sp) ∧ la ≤ h ∧ la < sp ∧ bey O ky lft k g (h - la) = false ∧ ∀ i, i < h + 1 - min sp (h + 1) → bey O ky lft k g i = true) (kasC_range (loop_wp (fun j r st' => st = st' ∧ ∃ la sp, r = (none, la, sp) ∧ la ≤ h ∧ la < sp ∧ j + 1 ≤ sp ∧ bey O ky lft k g (h - la) = false) ⟨rfl, 0, 1, rfl, by omega, by omega, by omega, c0⟩ (fun j r st' x hj hI => ?_) (fun r st' hI => ?_))) (fun r st' s' hI => ?_))
    · obtain ⟨rfl, la, sp, rfl, hla, hsp, hj1, hb⟩ := hI
      dsimp only
      by_cases c : sp ≥ h + 1
      · rw [if_pos c]
        exact kasC_pure ⟨rfl, rfl, rfl, la, sp, rfl, hla, hsp, hb, fun i hi => by omega⟩
      · rw [if_neg c]
        refine kasC_bind (past _ (by omega) ?_)
        dsimp only
        cases cb : bey O ky lft k g (h - sp) with
        | true =>
          rw [if_pos rfl]
          exact kasC_pure ⟨rfl, rfl, rfl, la, sp, rfl, hla, hsp, hb, fun i hi => mono i (h - sp) (by omega) (by omega) cb⟩
        | false =>
          rw [if_neg (by simp)]
          exact kasC_pure ⟨rfl, rfl, _, _, rfl, by omega, by omega, by omega, cb⟩
    · obtain ⟨rfl, la, sp, rfl, hla, hsp, hj1, hb⟩ := hI
      rw [List.length_range'] at hj1
      exact ⟨rfl, rfl, la, sp, rfl, hla, hsp, hb, fun i hi => by omega⟩
    obtain ⟨rfl, rfl, la, sp, rfl, hla, hsp, hb, hlo⟩ := hI
    have hhi : ∀ i, h - la ≤ i → i < m → bey O ky lft k g i = false := fun i hi him => nmono (h - la) i (by omega) him hb
    dsimp only
    refine kasC_bind (kasC_range (loop_wp (fun j r st' => st = st' ∧ ∃ u v, r = (none, u, v) ∧ v ≤ m ∧ u ≤ v ∧ v - u + j ≤ m ∧ (∀ i, i < u → bey O ky lft k g i = true) ∧ (∀ i, v ≤ i → i < m → bey O ky lft k g i = false)) ⟨rfl, _, _, rfl, by omega, by omega, by omega, hlo, hhi⟩ (fun j r st' x hj hI => ?_) (fun r st' hI => ?_)))
    · obtain ⟨rfl, u, v, rfl, hv, huv, hjv, h1, h2⟩ := hI
      dsimp only
      by_cases c : u ≥ v
      · rw [if_pos c]
        have e : u = v := by omega
        subst e
        exact kasC_pure ⟨rfl, kasC_pure (q u hv h1 h2)⟩
      · rw [if_neg c]
        have hmm : u + (v - u) / 2 < v := by omega
        refine kasC_bind (past _ (by omega) ?_)
        dsimp only
        cases cb : bey O ky lft k g (u + (v - u) / 2) with
        | true =>
          rw [if_pos rfl]
          exact kasC_pure ⟨rfl, rfl, _, _, rfl, hv, by omega, by omega, fun i hi => mono i _ (by omega) (by omega) cb, h2⟩
        | false =>
          rw [if_neg (by simp)]
          exact kasC_pure ⟨rfl, rfl, _, _, rfl, by omega, by omega, by omega, h1, fun i hi him => nmono _ i hi him cb⟩
    · obtain ⟨rfl, u, v, rfl, hv, huv, hjv, h1, h2⟩ := hI
      have e : u = v := by
        rw [List.length_range'] at hjv
        omega
      subst e
      exact kasC_pure (q u hv h1 h2)
end
end MxTim
end
section
set_option Elab.async false
set_option linter.all false
set_option maxRecDepth 100000
set_option maxHeartbeats 4000000
namespace MxTim
open PySem PySem.W PyProof.Rows
section
variable {O : KeyOrd} {ky : Keyed → O.α}
def le (O : KeyOrd) (ky : Keyed → O.α) (x y : Keyed) : Prop := O.kle (ky x) (ky y)
def Srt (O : KeyOrd) (ky : Keyed → O.α) (l : List Keyed) : Prop := l.Pairwise (le O ky)
/-- what is out stands ahead of all that is left -/
structure MI (O : KeyOrd) (ky : Keyed → O.α) (la lb out : List Keyed) (i j : Nat) : Prop where
  p : out.Perm (la.take i ++ lb.take j)
  s : Srt O ky out
  a : ∀ x ∈ out, ∀ y ∈ la.drop i, le O ky x y
  b : ∀ x ∈ out, ∀ y ∈ lb.drop j, le O ky x y
theorem drop_split {l : List Keyed} {i k : Nat} : l.drop i = (l.drop i).take k ++ l.drop (i + k) := by
  rw [← List.drop_drop, List.take_append_drop]
theorem take_split {l : List Keyed} {i k : Nat} : l.take (i + k) = l.take i ++ (l.drop i).take k := by
  rw [List.take_add]
theorem MI.appA {la lb out : List Keyed} {i j k : Nat} (h : MI O ky la lb out i j) (sa : Srt O ky la) (hk : ∀ x ∈ (la.drop i).take k, ∀ y ∈ lb.drop j, le O ky x y) : MI O ky la lb (out ++ (la.drop i).take k) (i + k) j := by
  have sd : Srt O ky (la.drop i) := sa.sublist (List.drop_sublist _ _)
  rw [drop_split (k := k)] at sd
  obtain ⟨s1, s2, s3⟩ := List.pairwise_append.mp sd
  have mem1 : ∀ y ∈ (la.drop i).take k, y ∈ la.drop i := fun y hy => List.mem_of_mem_take hy
  have mem2 : ∀ y ∈ la.drop (i + k), y ∈ la.drop i := fun y hy => by rw [drop_split (k := k)]; exact List.mem_append_right _ hy
  refine ⟨?_, List.pairwise_append.mpr ⟨h.s, s1, fun x hx y hy => h.a x hx y (mem1 y hy)⟩, fun x hx y hy => ?_, fun x hx y hy => ?_⟩
  · rw [take_split]
    refine (h.p.append_right _).trans ?_
    rw [List.append_assoc, List.append_assoc]
    exact List.Perm.append_left _ List.perm_append_comm
  · rcases List.mem_append.mp hx with hx | hx
    · exact h.a x hx y (mem2 y hy)
    · exact s3 x hx y hy
  · rcases List.mem_append.mp hx with hx | hx
    · exact h.b x hx y hy
    · exact hk x hx y hy
theorem MI.appB {la lb out : List Keyed} {i j k : Nat} (h : MI O ky la lb out i j) (sb : Srt O ky lb) (hk : ∀ x ∈ (lb.drop j).take k, ∀ y ∈ la.drop i, le O ky x y) : MI O ky la lb (out ++ (lb.drop j).take k) i (j + k) := by
  have sd : Srt O ky (lb.drop j) := sb.sublist (List.drop_sublist _ _)
  rw [drop_split (k := k)] at sd
  obtain ⟨s1, s2, s3⟩ := List.pairwise_append.mp sd
  have mem1 : ∀ y ∈ (lb.drop j).take k, y ∈ lb.drop j := fun y hy => List.mem_of_mem_take hy
  have mem2 : ∀ y ∈ lb.drop (j + k), y ∈ lb.drop j := fun y hy => by rw [drop_split (k := k)]; exact List.mem_append_right _ hy
  refine ⟨?_, List.pairwise_append.mpr ⟨h.s, s1, fun x hx y hy => h.b x hx y (mem1 y hy)⟩, fun x hx y hy => ?_, fun x hx y hy => ?_⟩
  · rw [take_split]
    refine (h.p.append_right _).trans ?_
    rw [List.append_assoc]
  · rcases List.mem_append.mp hx with hx | hx
    · exact h.a x hx y hy
    · exact hk x hx y hy
  · rcases List.mem_append.mp hx with hx | hx
    · exact h.b x hx y (mem2 y hy)
    · exact s3 x hx y hy
/-- the two, merged -/
def Mgd (O : KeyOrd) (ky : Keyed → O.α) (la lb out : List Keyed) : Prop := out.Perm (la ++ lb) ∧ Srt O ky out
theorem MI.doneB {la lb out : List Keyed} {i j : Nat} (h : MI O ky la lb out i j) (sa : Srt O ky la) (hj : lb.length ≤ j) : Mgd O ky la lb (out ++ la.drop i ++ lb.drop j) := by
  have e : lb.drop j = [] := List.drop_of_length_le hj
  have e2 : lb.take j = lb := List.take_of_length_le hj
  rw [e, List.append_nil]
  refine ⟨?_, List.pairwise_append.mpr ⟨h.s, sa.sublist (List.drop_sublist _ _), h.a⟩⟩
  refine (h.p.append_right _).trans ?_
  rw [e2, List.append_assoc]
  refine (List.Perm.append_left _ List.perm_append_comm).trans ?_
  rw [← List.append_assoc, List.take_append_drop]
theorem MI.doneA {la lb out : List Keyed} {i j : Nat} (h : MI O ky la lb out i j) (sb : Srt O ky lb) (hi : la.length ≤ i) : Mgd O ky la lb (out ++ la.drop i ++ lb.drop j) := by
  have e : la.drop i = [] := List.drop_of_length_le hi
  have e2 : la.take i = la := List.take_of_length_le hi
  rw [e, List.append_nil]
  refine ⟨?_, List.pairwise_append.mpr ⟨h.s, sb.sublist (List.drop_sublist _ _), h.b⟩⟩
  refine (h.p.append_right _).trans ?_
  rw [e2, List.append_assoc, List.take_append_drop]
theorem MI.lastA {la lb out : List Keyed} {i j : Nat} (h : MI O ky la lb out i j) (sa : Srt O ky la) (sb : Srt O ky lb) (hl : ∀ x ∈ lb.drop j, ∀ y ∈ la.drop i, le O ky x y) : Mgd O ky la lb (out ++ lb.drop j ++ la.drop i) := by
  refine ⟨?_, List.pairwise_append.mpr ⟨List.pairwise_append.mpr ⟨h.s, sb.sublist (List.drop_sublist _ _), h.b⟩, sa.sublist (List.drop_sublist _ _), fun x hx y hy => ?_⟩⟩
  · refine ((h.p.append_right _).append_right _).trans ?_
    rw [List.append_assoc (la.take i), List.take_append_drop]
    refine (List.perm_append_comm).trans ?_
    rw [← List.append_assoc]
    refine (List.Perm.append_right _ List.perm_append_comm).trans ?_
    rw [List.take_append_drop]
  · rcases List.mem_append.mp hx with hx | hx
    · exact h.a x hx y hy
    · exact hl x hx y hy
theorem MI.start {la lb : List Keyed} : MI O ky la lb [] 0 0 := ⟨by simp, List.Pairwise.nil, fun x hx => absurd hx (by simp), fun x hx => absurd hx (by simp)⟩
end
def mgLo : Array Keyed → Array Keyed → StateT SortSt Sem (Array Keyed) := sortPriv% PySem.Builtin.mergeLo
def setG : Nat → StateT SortSt Sem Unit := sortPriv% PySem.Builtin.setMinGallop
abbrev GS := Option (Array Keyed) × Array Keyed × Nat × Nat × Nat × Nat × Nat
abbrev SS := Option (Array Keyed) × Array Keyed × Nat × Nat × Nat × Nat
abbrev OS := Option (Array Keyed) × Array Keyed × Nat × Nat × Nat
def rst (x y o : Array Keyed) (i j : Nat) : Array Keyed := o ++ x.extract i x.size ++ y.extract j y.size
def rst2 (x y o : Array Keyed) (i j : Nat) : Array Keyed := o ++ y.extract j y.size ++ x.extract i x.size
def gl3 (x y o : Array Keyed) (i j mg ca cb : Nat) : StateT SortSt Sem (ForInStep GS) := do
  let e ← elem' x i
  if (i + 1 + 1 == x.size) = true then pure (.done (some (rst2 x y (o.push e) (i + 1) j), o.push e, i + 1, j, mg, ca, cb))
  else if (decide (ca < 7) && decide (cb < 7)) = true then pure (.done (none, o.push e, i + 1, j, mg, ca, cb))
  else pure (.yield (none, o.push e, i + 1, j, mg, ca, cb))
def gl2 (x y o : Array Keyed) (i j mg ca cb0 : Nat) : StateT SortSt Sem (ForInStep GS) := do
  let e ← elem' y j
  if (j + 1 == y.size) = true then pure (.done (some (rst x y (o.push e) i (j + 1)), o.push e, i, j + 1, mg, ca, cb0))
  else do
    let f ← elem' x i
    let r ← gal true f y (j + 1) (y.size - (j + 1)) 0
    match r with
    | some k =>
      if k > 0 then
        if (j + 1 + k == y.size) = true then pure (.done (some (rst x y (o.push e ++ y.extract (j + 1) (j + 1 + k)) i (j + 1 + k)), o.push e ++ y.extract (j + 1) (j + 1 + k), i, j + 1 + k, mg, ca, k))
        else gl3 x y (o.push e ++ y.extract (j + 1) (j + 1 + k)) i (j + 1 + k) mg ca k
      else gl3 x y (o.push e) i (j + 1) mg ca k
    | _ => pure (.done (some (rst x y (o.push e) i (j + 1)), o.push e, i, j + 1, mg, ca, cb0))
def gl1 (x y o : Array Keyed) (i j mg ca0 cb0 : Nat) : StateT SortSt Sem (ForInStep GS) := do
  setG mg
  let e ← elem' y j
  let r ← gal false e x i (x.size - i) 0
  match r with
  | some k =>
    if k > 0 then
      if (i + k + 1 == x.size) = true then pure (.done (some (rst2 x y (o ++ x.extract i (i + k)) (i + k) j), o ++ x.extract i (i + k), i + k, j, mg, k, cb0))
      else if (i + k == x.size) = true then pure (.done (some (rst x y (o ++ x.extract i (i + k)) (i + k) j), o ++ x.extract i (i + k), i + k, j, mg, k, cb0))
      else gl2 x y (o ++ x.extract i (i + k)) (i + k) j mg k cb0
    else gl2 x y o i j mg k cb0
  | _ => pure (.done (some (rst x y o i j), o, i, j, mg, ca0, cb0))
def slo (x y : Array Keyed) (mg : Nat) (r : SS) : StateT SortSt Sem (ForInStep SS) := do
  let e ← elem' y r.2.2.2.1
  let f ← elem' x r.2.2.1
  let c ← lt' e f
  match c with
  | some yw =>
    if yw = true then do
      let e ← elem' y r.2.2.2.1
      if (r.2.2.2.1 + 1 == y.size) = true then pure (.done (some (rst x y (r.2.1.push e) r.2.2.1 (r.2.2.2.1 + 1)), r.2.1.push e, r.2.2.1, r.2.2.2.1 + 1, 0, r.2.2.2.2.2 + 1))
      else if r.2.2.2.2.2 + 1 ≥ mg then pure (.done (none, r.2.1.push e, r.2.2.1, r.2.2.2.1 + 1, 0, r.2.2.2.2.2 + 1))
      else pure (.yield (none, r.2.1.push e, r.2.2.1, r.2.2.2.1 + 1, 0, r.2.2.2.2.2 + 1))
    else do
      let f ← elem' x r.2.2.1
      if (r.2.2.1 + 1 + 1 == x.size) = true then pure (.done (some (rst2 x y (r.2.1.push f) (r.2.2.1 + 1) r.2.2.2.1), r.2.1.push f, r.2.2.1 + 1, r.2.2.2.1, r.2.2.2.2.1 + 1, 0))
      else if r.2.2.2.2.1 + 1 ≥ mg then pure (.done (none, r.2.1.push f, r.2.2.1 + 1, r.2.2.2.1, r.2.2.2.2.1 + 1, 0))
      else pure (.yield (none, r.2.1.push f, r.2.2.1 + 1, r.2.2.2.1, r.2.2.2.2.1 + 1, 0))
  | _ => pure (.done (some (rst x y r.2.1 r.2.2.1 r.2.2.2.1), r.2.1, r.2.2.1, r.2.2.2.1, r.2.2.2.2.1, r.2.2.2.2.2))
def out1 (x y : Array Keyed) (r : OS) : StateT SortSt Sem (ForInStep OS) := do
  let a ← forIn [:x.size + y.size] ((none, r.2.1, r.2.2.1, r.2.2.2.1, 0, 0) : SS) fun _ a => slo x y r.2.2.2.2 a
  match a.1 with
  | some v => pure (.done (some v, a.2.1, a.2.2.1, a.2.2.2.1, r.2.2.2.2))
  | none => do
    rule "list.sort.gallop"
    let b ← forIn [:x.size + y.size] ((none, a.2.1, a.2.2.1, a.2.2.2.1, r.2.2.2.2 + 1, a.2.2.2.2.1, a.2.2.2.2.2) : GS) fun _ b =>
      if b.2.2.2.2.1 > 1 then gl1 x y b.2.1 b.2.2.1 b.2.2.2.1 (b.2.2.2.2.1 - 1) b.2.2.2.2.2.1 b.2.2.2.2.2.2 else gl1 x y b.2.1 b.2.2.1 b.2.2.2.1 b.2.2.2.2.1 b.2.2.2.2.2.1 b.2.2.2.2.2.2
    match b.1 with
    | some v => pure (.done (some v, b.2.1, b.2.2.1, b.2.2.2.1, b.2.2.2.2.1))
    | none => do
      setG (b.2.2.2.2.1 + 1)
      pure (.yield (none, b.2.1, b.2.2.1, b.2.2.2.1, b.2.2.2.2.1 + 1))
def lo0 (x y : Array Keyed) : StateT SortSt Sem (Array Keyed) := do
  rule "list.sort.merge-lo"
  let e ← elem' y 0
  if (1 == y.size) = true then pure (rst x y #[e] 0 1)
  else if (0 + 1 == x.size) = true then pure (rst2 x y #[e] 0 1)
  else do
    let st ← get
    let r ← forIn [:x.size + y.size] ((none, #[e], 0, 1, gallopOf st) : OS) fun _ r => out1 x y r
    match r.1 with
    | some a => pure a
    | none => unsupported "internal:list.sort.merge-bound"
theorem mgLo_eq (x y : Array Keyed) : mgLo x y = lo0 x y := by kernel_rfl
end MxTim
end
section
set_option Elab.async false
set_option linter.all false
set_option maxRecDepth 100000
set_option maxHeartbeats 4000000
namespace MxTim
open PySem PySem.W PyProof.Rows
theorem ext_all (x : Array Keyed) (i : Nat) : (x.extract i x.size).toList = x.toList.drop i := by
  rw [Array.toList_extract]
  show (x.toList.drop i).take (x.size - i) = _
  exact List.take_of_length_le (by rw [List.length_drop]; simp)
theorem ext_some (x : Array Keyed) (i k : Nat) : (x.extract i (i + k)).toList = (x.toList.drop i).take k := by
  rw [Array.toList_extract]
  show (x.toList.drop i).take (i + k - i) = _
  rw [Nat.add_sub_cancel_left]
theorem rst_list (x y o : Array Keyed) (i j : Nat) : (rst x y o i j).toList = o.toList ++ x.toList.drop i ++ y.toList.drop j := by
  unfold rst
  rw [Array.toList_append, Array.toList_append, ext_all, ext_all]
theorem rst2_list (x y o : Array Keyed) (i j : Nat) : (rst2 x y o i j).toList = o.toList ++ y.toList.drop j ++ x.toList.drop i := by
  unfold rst2
  rw [Array.toList_append, Array.toList_append, ext_all, ext_all]
theorem at_some {x : Array Keyed} {i : Nat} (h : i < x.size) : x[i]? = some (kas_item x i) := by
  unfold kas_item
  simp [Array.getD, h]
theorem take_one {x : Array Keyed} {i : Nat} (h : i < x.size) : (x.toList.drop i).take 1 = [kas_item x i] := by
  have e : x.toList.drop i = x.toList[i]'(by simpa using h) :: x.toList.drop (i + 1) := List.drop_eq_getElem_cons (by simpa using h)
  rw [e]
  unfold kas_item
  simp [Array.getD, h]
theorem push_list {x o : Array Keyed} {i : Nat} (h : i < x.size) : (o.push (kas_item x i)).toList = o.toList ++ (x.toList.drop i).take 1 := by
  rw [take_one h]
  simp
section
variable {O : KeyOrd} {ky : Keyed → O.α} {Mem : Keyed → Prop}
theorem srt_at {x : Array Keyed} (sx : Srt O ky x.toList) {i j : Nat} (hij : i ≤ j) (hj : j < x.size) : le O ky (kas_item x i) (kas_item x j) := by
  have e : ∀ k, (h : k < x.size) → kas_item x k = x.toList[k]'(by simpa using h) := fun k h => by unfold kas_item; simp [Array.getD, h]
  rw [e i (by omega), e j hj]
  by_cases c : i = j
  · subst c; exact KeyOrd.kle_refl _
  · exact List.pairwise_iff_getElem.mp sx i j (by simpa using (show i < x.size by omega)) (by simpa using hj) (by omega)
theorem mem_drop {x : Array Keyed} {i : Nat} {e : Keyed} (h : e ∈ x.toList.drop i) : ∃ k, i ≤ k ∧ k < x.size ∧ e = kas_item x k := by
  obtain ⟨k, hk, rfl⟩ := List.getElem_of_mem h
  rw [List.length_drop] at hk
  have hk' : i + k < x.size := by simp at hk; omega
  refine ⟨i + k, by omega, hk', ?_⟩
  rw [List.getElem_drop]
  unfold kas_item
  simp [Array.getD, hk']
theorem mem_take {x : Array Keyed} {i n : Nat} {e : Keyed} (h : e ∈ (x.toList.drop i).take n) : ∃ k, i ≤ k ∧ k < i + n ∧ k < x.size ∧ e = kas_item x k := by
  obtain ⟨k, hk, rfl⟩ := List.getElem_of_mem h
  rw [List.length_take, List.length_drop] at hk
  have hk' : i + k < x.size := by simp at hk; omega
  refine ⟨i + k, by omega, by omega, hk', ?_⟩
  rw [List.getElem_take, List.getElem_drop]
  unfold kas_item
  simp [Array.getD, hk']
/-- two stretches to be merged -/
structure MP (O : KeyOrd) (ky : Keyed → O.α) (Mem : Keyed → Prop) (x y : Array Keyed) : Prop where
  sa : Srt O ky x.toList
  sb : Srt O ky y.toList
  ma : ∀ i, i < x.size → Mem (kas_item x i)
  mb : ∀ i, i < y.size → Mem (kas_item y i)
  pa : 1 ≤ x.size
  pb : 1 ≤ y.size
  first : O.blt (ky (kas_item y 0)) (ky (kas_item x 0)) = true
  last : ∀ j, j < y.size → O.blt (ky (kas_item y j)) (ky (kas_item x (x.size - 1))) = true
theorem MP.lst {x y : Array Keyed} (h : MP O ky Mem x y) {i j : Nat} (hi : i + 1 = x.size) : ∀ e ∈ y.toList.drop j, ∀ f ∈ x.toList.drop i, le O ky e f := fun e he f hf => by
  obtain ⟨k, _, k2, rfl⟩ := mem_drop he
  obtain ⟨l, l1, l2, rfl⟩ := mem_drop hf
  have : l = x.size - 1 := by omega
  subst this
  exact KeyOrd.kle_of_klt (h.last k k2)
/-- in the midst of it -/
structure OKs (O : KeyOrd) (ky : Keyed → O.α) (x y o : Array Keyed) (i j : Nat) : Prop where
  m : MI O ky x.toList y.toList o.toList i j
  i1 : i + 1 < x.size
  j1 : j < y.size
def GP (O : KeyOrd) (ky : Keyed → O.α) (x y : Array Keyed) (n : Nat) (v : Option (Array Keyed)) (o : Array Keyed) (i j : Nat) : Prop := (∃ a, v = some a ∧ Mgd O ky x.toList y.toList a.toList) ∨ (v = none ∧ OKs O ky x y o i j ∧ n ≤ i + j)
/-- the state is the same but for the number that says when to gallop -/
def SI (st0 st : SortSt) : Prop := kindOf st = kindOf st0 ∧ arrOf st = arrOf st0 ∧ pendingOf st = pendingOf st0 ∧ failedOf st = failedOf st0
theorem SI.refl (st : SortSt) : SI st st := ⟨rfl, rfl, rfl, rfl⟩
theorem SI.trans {a b c : SortSt} (h : SI a b) (g : SI b c) : SI a c := ⟨g.1.trans h.1, g.2.1.trans h.2.1, g.2.2.1.trans h.2.2.1, g.2.2.2.trans h.2.2.2⟩
variable {prog : Program} {w : World} {A : Around} {E : Value → Shared → Prop} {κ : SortKind} {s : Shared}
theorem setG_wp {g : Nat} {st : SortSt} {Q : Unit → SortSt → Shared → Prop} (h : ∀ st', SI st st' → Q () st' s) : kasC (model prog w) A E (setG g) Q st s := by
  have e : setG g = modify fun t => SortSt.mk' (kindOf t) (arrOf t) (pendingOf t) g (failedOf t) := by kernel_rfl
  rw [e]
  exact kasC_modify (h _ ⟨rfl, rfl, rfl, rfl⟩)
def GStep (O : KeyOrd) (ky : Keyed → O.α) (x y : Array Keyed) (n : Nat) : ForInStep GS → Prop
  | .done r => GP O ky x y n r.1 r.2.1 r.2.2.1 r.2.2.2.1
  | .yield r => r.1 = none ∧ GP O ky x y n r.1 r.2.1 r.2.2.1 r.2.2.2.1
theorem gl3_wp {x y o : Array Keyed} (M : MP O ky Mem x y) {i j mg ca cb n : Nat} (h : MI O ky x.toList y.toList o.toList i j) (hi : i + 1 < x.size) (hj : j < y.size) (hk : ∀ l, j ≤ l → l < y.size → le O ky (kas_item x i) (kas_item y l)) (hn : n ≤ i + 1 + j) {st : SortSt} {Q : ForInStep GS → SortSt → Shared → Prop}
    (q : ∀ r, GStep O ky x y n r → Q r st s) : kasC (model prog w) A E (gl3 x y o i j mg ca cb) Q st s := by
  unfold gl3
  refine kasC_bind (elem_wp (at_some (by omega)) ?_)
  have m1 := h.appA (k := 1) M.sa (fun e he f hf => by
    obtain ⟨a, a1, a2, a3, rfl⟩ := mem_take he
    obtain ⟨b, b1, b2, rfl⟩ := mem_drop hf
    have : a = i := by omega
    subst this
    exact hk b b1 b2)
  rw [← push_list (x := x) (by omega)] at m1
  by_cases c : (i + 1 + 1 == x.size) = true
  · rw [if_pos c]
    have c' : i + 1 + 1 = x.size := by simpa using c
    refine kasC_pure (q _ (.inl ⟨_, rfl, ?_⟩))
    rw [rst2_list]
    exact m1.lastA M.sa M.sb (M.lst c')
  · rw [if_neg c]
    have c' : ¬ i + 1 + 1 = x.size := by simpa using c
    have g : GP O ky x y n none (o.push (kas_item x i)) (i + 1) j := .inr ⟨rfl, ⟨m1, by omega, hj⟩, by omega⟩
    by_cases d : (decide (ca < 7) && decide (cb < 7)) = true
    · rw [if_pos d]; exact kasC_pure (q _ g)
    · rw [if_neg d]; exact kasC_pure (q _ ⟨rfl, g⟩)
theorem gl2_wp (T : Tells prog w A κ s O ky Mem) {x y o : Array Keyed} (M : MP O ky Mem x y) {i j mg ca cb n : Nat} (h : MI O ky x.toList y.toList o.toList i j) (hi : i + 1 < x.size) (hj : j < y.size) (hk : ∀ l, i ≤ l → l < x.size → le O ky (kas_item y j) (kas_item x l)) (hn : n ≤ i + j + 1) {st : SortSt} (hs : kindOf st = κ)
    {Q : ForInStep GS → SortSt → Shared → Prop} (q : ∀ r, GStep O ky x y n r → Q r st s) : kasC (model prog w) A E (gl2 x y o i j mg ca cb) Q st s := by
  unfold gl2
  refine kasC_bind (elem_wp (at_some hj) ?_)
  have m1 := h.appB (k := 1) M.sb (fun e he f hf => by
    obtain ⟨a, a1, a2, a3, rfl⟩ := mem_take he
    obtain ⟨b, b1, b2, rfl⟩ := mem_drop hf
    have : a = j := by omega
    subst this
    exact hk b b1 b2)
  rw [← push_list (x := y) hj] at m1
  by_cases c : (j + 1 == y.size) = true
  · rw [if_pos c]
    have c' : j + 1 = y.size := by simpa using c
    refine kasC_pure (q _ (.inl ⟨_, rfl, ?_⟩))
    rw [rst_list]
    exact m1.doneB M.sa (by simp; omega)
  · rw [if_neg c]
    have c' : ¬ j + 1 = y.size := by simpa using c
    refine kasC_bind (elem_wp (at_some (by omega)) (kasC_bind ?_))
    refine gal_wp T (fun t => kas_item y (j + 1 + t)) (fun t ht => at_some (by omega)) (fun t ht => M.mb _ (by omega)) (M.ma i (by omega)) (by omega) (fun a b hab hb hbb => ?_) hs (fun k hk1 hlt hge => ?_)
    · unfold bey at hbb ⊢
      rw [if_pos rfl] at hbb ⊢
      have := srt_at M.sb (show j + 1 + a ≤ j + 1 + b by omega) (by omega)
      exact KeyOrd.klt_of_kle_of_klt this hbb
    · have lo : ∀ t, t < k → O.blt (ky (kas_item y (j + 1 + t))) (ky (kas_item x i)) = true := fun t ht => by
        have := hlt t ht
        unfold bey at this
        rw [if_pos rfl] at this
        exact this
      have hi2 : ∀ l, j + 1 + k ≤ l → l < y.size → le O ky (kas_item x i) (kas_item y l) := fun l hl1 hl2 => by
        have z := hge (l - (j + 1)) (by omega) (by omega)
        unfold bey at z
        rw [if_pos rfl] at z
        have z2 : O.blt (ky (kas_item y (j + 1 + (l - (j + 1))))) (ky (kas_item x i)) = false := z
        rw [show j + 1 + (l - (j + 1)) = l by omega] at z2
        exact z2
      dsimp only
      by_cases k0 : k > 0
      · rw [if_pos k0]
        have m2 := m1.appB (k := k) M.sb (fun e he f hf => by
          obtain ⟨a, a1, a2, a3, rfl⟩ := mem_take he
          obtain ⟨b, b1, b2, rfl⟩ := mem_drop hf
          have h1 := lo (a - (j + 1)) (by omega)
          rw [show j + 1 + (a - (j + 1)) = a by omega] at h1
          exact KeyOrd.kle_trans (KeyOrd.kle_of_klt h1) (srt_at M.sa b1 b2))
        rw [← ext_some, ← Array.toList_append] at m2
        by_cases d : (j + 1 + k == y.size) = true
        · rw [if_pos d]
          have d' : j + 1 + k = y.size := by simpa using d
          refine kasC_pure (q _ (.inl ⟨_, rfl, ?_⟩))
          rw [rst_list]
          exact m2.doneB M.sa (by simp; omega)
        · rw [if_neg d]
          have d' : ¬ j + 1 + k = y.size := by simpa using d
          exact gl3_wp M m2 hi (by omega) hi2 (by omega) q
      · rw [if_neg k0]
        have : k = 0 := by omega
        subst this
        exact gl3_wp M m1 hi (by omega) hi2 (by omega) q
theorem gl1_wp (T : Tells prog w A κ s O ky Mem) {x y o : Array Keyed} (M : MP O ky Mem x y) {i j mg ca cb n : Nat} (h : OKs O ky x y o i j) (hn : n ≤ i + j) {st0 st : SortSt} (hs : kindOf st = κ) (hst : SI st0 st)
    {Q : ForInStep GS → SortSt → Shared → Prop} (q : ∀ r st', SI st0 st' → GStep O ky x y n r → Q r st' s) : kasC (model prog w) A E (gl1 x y o i j mg ca cb) Q st s := by
  unfold gl1
  have hi := h.i1
  have hj := h.j1
  refine kasC_bind (setG_wp fun st1 h1 => ?_)
  have hs1 : kindOf st1 = κ := h1.1.trans hs
  have q' := fun r => q r st1 (hst.trans h1)
  refine kasC_bind (elem_wp (at_some hj) (kasC_bind ?_))
  refine gal_wp T (fun t => kas_item x (i + t)) (fun t ht => at_some (by omega)) (fun t ht => M.ma _ (by omega)) (M.mb j hj) (by omega) (fun a b hab hb hbb => ?_) hs1 (fun k hk1 hlt hge => ?_)
  · unfold bey at hbb ⊢
    rw [if_neg (by simp)] at hbb ⊢
    have := srt_at M.sa (show i + a ≤ i + b by omega) (by omega)
    cases z : O.blt (ky (kas_item y j)) (ky (kas_item x (i + a))) with
    | false => rfl
    | true =>
      have z2 : O.blt (ky (kas_item y j)) (ky (kas_item x (i + b))) = true := KeyOrd.klt_of_klt_of_kle z this
      have hbb' : (!O.blt (ky (kas_item y j)) (ky (kas_item x (i + b)))) = true := hbb
      rw [z2] at hbb'
      cases hbb'
  · have lo : ∀ t, t < k → le O ky (kas_item x (i + t)) (kas_item y j) := fun t ht => by
      have z := hlt t ht
      unfold bey at z
      rw [if_neg (by simp)] at z
      have z2 : (!O.blt (ky (kas_item y j)) (ky (kas_item x (i + t)))) = true := z
      show O.blt (ky (kas_item y j)) (ky (kas_item x (i + t))) = false
      simpa using z2
    have hi2 : ∀ l, i + k ≤ l → l < x.size → le O ky (kas_item y j) (kas_item x l) := fun l hl1 hl2 => by
      have z := hge (l - i) (by omega) (by omega)
      unfold bey at z
      rw [if_neg (by simp)] at z
      have z2 : (!O.blt (ky (kas_item y j)) (ky (kas_item x (i + (l - i))))) = false := z
      rw [show i + (l - i) = l by omega] at z2
      have z3 : O.blt (ky (kas_item y j)) (ky (kas_item x l)) = true := by simpa using z2
      exact KeyOrd.kle_of_klt z3
    dsimp only
    by_cases k0 : k > 0
    · rw [if_pos k0]
      have m2 := h.m.appA (k := k) M.sa (fun e he f hf => by
        obtain ⟨a, a1, a2, a3, rfl⟩ := mem_take he
        obtain ⟨b, b1, b2, rfl⟩ := mem_drop hf
        have h1 := lo (a - i) (by omega)
        rw [show i + (a - i) = a by omega] at h1
        exact KeyOrd.kle_trans h1 (srt_at M.sb b1 b2))
      rw [← ext_some, ← Array.toList_append] at m2
      by_cases c : (i + k + 1 == x.size) = true
      · rw [if_pos c]
        have c' : i + k + 1 = x.size := by simpa using c
        refine kasC_pure (q' _ (.inl ⟨_, rfl, ?_⟩))
        rw [rst2_list]
        exact m2.lastA M.sa M.sb (M.lst c')
      · rw [if_neg c]
        have c' : ¬ i + k + 1 = x.size := by simpa using c
        by_cases d : (i + k == x.size) = true
        · rw [if_pos d]
          have d' : i + k = x.size := by simpa using d
          refine kasC_pure (q' _ (.inl ⟨_, rfl, ?_⟩))
          rw [rst_list]
          exact m2.doneA M.sb (by simp; omega)
        · rw [if_neg d]
          have d' : ¬ i + k = x.size := by simpa using d
          exact gl2_wp T M m2 (by omega) hj hi2 (by omega) hs1 q'
    · rw [if_neg k0]
      have : k = 0 := by omega
      subst this
      exact gl2_wp T M h.m hi hj hi2 (by omega) hs1 q'
end
end MxTim
end
section
set_option Elab.async false
set_option linter.all false
set_option maxRecDepth 100000
set_option maxHeartbeats 4000000
namespace MxTim
open PySem PySem.W PyProof.Rows
section
variable {O : KeyOrd} {ky : Keyed → O.α} {Mem : Keyed → Prop}
variable {prog : Program} {w : World} {A : Around} {E : Value → Shared → Prop} {κ : SortKind} {s : Shared}
def SStep (O : KeyOrd) (ky : Keyed → O.α) (x y : Array Keyed) (n : Nat) : ForInStep SS → Prop
  | .done r => GP O ky x y n r.1 r.2.1 r.2.2.1 r.2.2.2.1
  | .yield r => r.1 = none ∧ GP O ky x y n r.1 r.2.1 r.2.2.1 r.2.2.2.1
theorem GP.none {x y : Array Keyed} {n : Nat} {v : Option (Array Keyed)} {o : Array Keyed} {i j : Nat} (h : GP O ky x y n v o i j) (hv : v = none) : OKs O ky x y o i j ∧ n ≤ i + j := by
  rcases h with ⟨a, e, _⟩ | ⟨_, h⟩
  · rw [hv] at e; cases e
  · exact h
theorem slo_wp (T : Tells prog w A κ s O ky Mem) {x y : Array Keyed} (M : MP O ky Mem x y) {mg : Nat} {r : SS} (h : OKs O ky x y r.2.1 r.2.2.1 r.2.2.2.1) {n : Nat} (hn : n ≤ r.2.2.1 + r.2.2.2.1 + 1) {st : SortSt} (hs : kindOf st = κ)
    {Q : ForInStep SS → SortSt → Shared → Prop} (q : ∀ r', SStep O ky x y n r' → Q r' st s) : kasC (model prog w) A E (slo x y mg r) Q st s := by
  obtain ⟨v, o, i, j, ca, cb⟩ := r
  have hi : i + 1 < x.size := h.i1
  have hj : j < y.size := h.j1
  have hm : MI O ky x.toList y.toList o.toList i j := h.m
  dsimp only at hn
  unfold slo
  dsimp only
  refine kasC_bind (elem_wp (at_some hj) (kasC_bind (elem_wp (at_some (by omega)) (kasC_bind (lt_wp T (M.mb j hj) (M.ma i (by omega)) hs ?_)))))
  dsimp only
  cases c : O.blt (ky (kas_item y j)) (ky (kas_item x i)) with
  | true =>
    rw [if_pos rfl]
    refine kasC_bind (elem_wp (at_some hj) ?_)
    have m1 := hm.appB (k := 1) M.sb (fun e he f hf => by
      obtain ⟨a, a1, a2, a3, rfl⟩ := mem_take he
      obtain ⟨b, b1, b2, rfl⟩ := mem_drop hf
      have : a = j := by omega
      subst this
      exact KeyOrd.kle_trans (KeyOrd.kle_of_klt c) (srt_at M.sa b1 b2))
    rw [← push_list (x := y) hj] at m1
    by_cases d : (j + 1 == y.size) = true
    · rw [if_pos d]
      have d' : j + 1 = y.size := by simpa using d
      refine kasC_pure (q _ (.inl ⟨_, rfl, ?_⟩))
      rw [rst_list]
      exact m1.doneB M.sa (by simp; omega)
    · rw [if_neg d]
      have d' : ¬ j + 1 = y.size := by simpa using d
      have g : GP O ky x y n none (o.push (kas_item y j)) i (j + 1) := .inr ⟨rfl, ⟨m1, hi, by omega⟩, by omega⟩
      by_cases e : cb + 1 ≥ mg
      · rw [if_pos e]; exact kasC_pure (q _ g)
      · rw [if_neg e]; exact kasC_pure (q _ ⟨rfl, g⟩)
  | false =>
    rw [if_neg (by simp)]
    refine kasC_bind (elem_wp (at_some (by omega)) ?_)
    have m1 := hm.appA (k := 1) M.sa (fun e he f hf => by
      obtain ⟨a, a1, a2, a3, rfl⟩ := mem_take he
      obtain ⟨b, b1, b2, rfl⟩ := mem_drop hf
      have : a = i := by omega
      subst this
      exact KeyOrd.kle_trans (show O.kle (ky (kas_item x a)) (ky (kas_item y j)) from c) (srt_at M.sb b1 b2))
    rw [← push_list (x := x) (by omega)] at m1
    by_cases d : (i + 1 + 1 == x.size) = true
    · rw [if_pos d]
      have d' : i + 1 + 1 = x.size := by simpa using d
      refine kasC_pure (q _ (.inl ⟨_, rfl, ?_⟩))
      rw [rst2_list]
      exact m1.lastA M.sa M.sb (M.lst d')
    · rw [if_neg d]
      have d' : ¬ i + 1 + 1 = x.size := by simpa using d
      have g : GP O ky x y n none (o.push (kas_item x i)) (i + 1) j := .inr ⟨rfl, ⟨m1, by omega, hj⟩, by omega⟩
      by_cases e : ca + 1 ≥ mg
      · rw [if_pos e]; exact kasC_pure (q _ g)
      · rw [if_neg e]; exact kasC_pure (q _ ⟨rfl, g⟩)
def OStep (O : KeyOrd) (ky : Keyed → O.α) (x y : Array Keyed) (n : Nat) : ForInStep OS → Prop
  | .done r => ∃ a, r.1 = some a ∧ Mgd O ky x.toList y.toList a.toList
  | .yield r => r.1 = none ∧ OKs O ky x y r.2.1 r.2.2.1 r.2.2.2.1 ∧ n ≤ r.2.2.1 + r.2.2.2.1
theorem out1_wp (T : Tells prog w A κ s O ky Mem) {x y : Array Keyed} (M : MP O ky Mem x y) {r : OS} (h : OKs O ky x y r.2.1 r.2.2.1 r.2.2.2.1) {n : Nat} (hn : n ≤ r.2.2.1 + r.2.2.2.1) {st0 st : SortSt} (hs : kindOf st = κ) (hst : SI st0 st)
    {Q : ForInStep OS → SortSt → Shared → Prop} (q : ∀ r' st', SI st0 st' → OStep O ky x y (n + 1) r' → Q r' st' s) : kasC (model prog w) A E (out1 x y r) Q st s := by
  unfold out1
  have hp := M.pa
  refine kasC_bind (kasC_mono (Q := fun a st' s' => st = st' ∧ s = s' ∧ GP O ky x y (n + 1) a.1 a.2.1 a.2.2.1 a.2.2.2.1) (kasC_range (loop_wp (fun jj a st' => st = st' ∧ a.1 = none ∧ OKs O ky x y a.2.1 a.2.2.1 a.2.2.2.1 ∧ n + jj ≤ a.2.2.1 + a.2.2.2.1) ⟨rfl, rfl, h, by simpa using hn⟩ (fun jj a st' z hj hI => ?_) (fun a st' hI => ?_))) (fun a st' s' hI => ?_))
  · obtain ⟨rfl, a0, aok, an⟩ := hI
    refine slo_wp T M aok (n := n + jj + 1) (by omega) hs (fun r' hr' => ⟨rfl, ?_⟩)
    cases r' with
    | done b =>
      refine ⟨rfl, rfl, ?_⟩
      rcases hr' with ⟨v, e, m⟩ | ⟨e, ok, l⟩
      · exact .inl ⟨v, e, m⟩
      · exact .inr ⟨e, ok, by omega⟩
    | yield b =>
      obtain ⟨b0, gb⟩ := hr'
      obtain ⟨ok, l⟩ := gb.none b0
      exact ⟨rfl, b0, ok, by omega⟩
  · obtain ⟨rfl, a0, aok, an⟩ := hI
    rw [List.length_range'] at an
    exact ⟨rfl, rfl, .inr ⟨a0, aok, by omega⟩⟩
  obtain ⟨rfl, rfl, ga⟩ := hI
  rcases ga with ⟨v, e, m⟩ | ⟨e, ok, l⟩
  · rw [e]
    exact kasC_pure (q _ _ hst ⟨v, rfl, m⟩)
  · rw [e]
    refine kasC_bind (kasC_lift (wpAny_rule ?_))
    refine kasC_bind (kasC_mono (Q := fun b st' s' => SI st0 st' ∧ s = s' ∧ GP O ky x y (n + 1) b.1 b.2.1 b.2.2.1 b.2.2.2.1) (kasC_range (loop_wp (fun jj b st' => SI st0 st' ∧ kindOf st' = κ ∧ b.1 = none ∧ OKs O ky x y b.2.1 b.2.2.1 b.2.2.2.1 ∧ n + 1 ≤ b.2.2.1 + b.2.2.2.1) ⟨hst, hs, rfl, ok, l⟩ (fun jj b st' z hj hI => ?_) (fun b st' hI => ?_))) (fun b st' s' hI => ?_))
    · obtain ⟨si, ks, b0, bok, bn⟩ := hI
      have kk : ∀ st2, SI st0 st2 → kindOf st2 = κ := fun st2 h2 => (h2.1.trans si.1.symm).trans ks
      by_cases c : b.2.2.2.2.1 > 1
      · rw [if_pos c]
        refine gl1_wp T M bok bn ks si (fun r' st2 h2 hr' => ⟨rfl, ?_⟩)
        cases r' with
        | done b' => exact ⟨h2, rfl, hr'⟩
        | yield b' =>
          obtain ⟨c0, gc⟩ := hr'
          obtain ⟨ok', l'⟩ := gc.none c0
          exact ⟨h2, kk st2 h2, c0, ok', l'⟩
      · rw [if_neg c]
        refine gl1_wp T M bok bn ks si (fun r' st2 h2 hr' => ⟨rfl, ?_⟩)
        cases r' with
        | done b' => exact ⟨h2, rfl, hr'⟩
        | yield b' =>
          obtain ⟨c0, gc⟩ := hr'
          obtain ⟨ok', l'⟩ := gc.none c0
          exact ⟨h2, kk st2 h2, c0, ok', l'⟩
    · obtain ⟨si, ks, b0, bok, bn⟩ := hI
      exact ⟨si, rfl, .inr ⟨b0, bok, bn⟩⟩
    obtain ⟨si, rfl, gb⟩ := hI
    rcases gb with ⟨v, e2, m⟩ | ⟨e2, ok2, l2⟩
    · rw [e2]
      exact kasC_pure (q _ _ si ⟨v, rfl, m⟩)
    · rw [e2]
      exact kasC_bind (setG_wp fun st2 h2 => kasC_pure (q _ _ (si.trans h2) ⟨rfl, ok2, l2⟩))
theorem mgLo_wp (T : Tells prog w A κ s O ky Mem) {x y : Array Keyed} (M : MP O ky Mem x y) {st : SortSt} (hs : kindOf st = κ) {Q : Array Keyed → SortSt → Shared → Prop} (q : ∀ v st', SI st st' → Mgd O ky x.toList y.toList v.toList → Q v st' s) : kasC (model prog w) A E (mgLo x y) Q st s := by
  rw [mgLo_eq]
  unfold lo0
  have hp := M.pa
  have hq := M.pb
  refine kasC_bind (kasC_lift (wpAny_rule ?_))
  refine kasC_bind (elem_wp (at_some (by omega)) ?_)
  have m1 := (MI.start (O := O) (ky := ky) (la := x.toList) (lb := y.toList)).appB (k := 1) M.sb (fun e he f hf => by
    obtain ⟨a, a1, a2, a3, rfl⟩ := mem_take he
    obtain ⟨b, b1, b2, rfl⟩ := mem_drop hf
    have : a = 0 := by omega
    subst this
    exact KeyOrd.kle_trans (KeyOrd.kle_of_klt M.first) (srt_at M.sa (Nat.zero_le b) b2))
  have e0 : (#[kas_item y 0] : Array Keyed).toList = [] ++ (y.toList.drop 0).take 1 := by rw [take_one (by omega)]; rfl
  rw [← e0, Nat.zero_add] at m1
  by_cases c : (1 == y.size) = true
  · rw [if_pos c]
    have c' : 1 = y.size := by simpa using c
    refine kasC_pure (q _ _ (SI.refl _) ?_)
    rw [rst_list]
    exact m1.doneB M.sa (by simp; omega)
  · rw [if_neg c]
    have c' : ¬ 1 = y.size := by simpa using c
    by_cases d : (0 + 1 == x.size) = true
    · rw [if_pos d]
      have d' : 0 + 1 = x.size := by simpa using d
      refine kasC_pure (q _ _ (SI.refl _) ?_)
      rw [rst2_list]
      exact m1.lastA M.sa M.sb (M.lst d')
    · rw [if_neg d]
      have d' : ¬ 0 + 1 = x.size := by simpa using d
      refine kasC_bind (kasC_get ?_)
      refine kasC_bind (kasC_mono (Q := fun r st' s' => SI st st' ∧ s = s' ∧ ∃ a, r.1 = some a ∧ Mgd O ky x.toList y.toList a.toList) (kasC_range (loop_wp (fun jj r st' => SI st st' ∧ r.1 = none ∧ OKs O ky x y r.2.1 r.2.2.1 r.2.2.2.1 ∧ jj + 1 ≤ r.2.2.1 + r.2.2.2.1) ⟨SI.refl _, rfl, ⟨m1, (show 0 + 1 < x.size by omega), (show 1 < y.size by omega)⟩, by simp⟩ (fun jj r st' z hj hI => ?_) (fun r st' hI => ?_))) (fun r st' s' hI => ?_))
      · obtain ⟨si, r0, rok, rn⟩ := hI
        refine out1_wp T M rok rn (si.1.trans hs) si (fun r' st2 h2 hr' => ⟨rfl, ?_⟩)
        cases r' with
        | done b => exact ⟨h2, rfl, hr'⟩
        | yield b => exact ⟨h2, hr'.1, hr'.2.1, hr'.2.2⟩
      · obtain ⟨si, r0, rok, rn⟩ := hI
        rw [List.length_range'] at rn
        have h1 := rok.i1
        have h2 := rok.j1
        omega
      obtain ⟨si, rfl, a, e, m⟩ := hI
      rw [e]
      exact kasC_pure (q _ _ si m)
end
end MxTim
end
section
set_option Elab.async false
set_option linter.all false
set_option maxRecDepth 100000
set_option maxHeartbeats 4000000
namespace MxTim
open PySem PySem.W PyProof.Rows
section
variable {O : KeyOrd} {ky : Keyed → O.α}
/-- what is out stands behind all that is left -/
structure HI (O : KeyOrd) (ky : Keyed → O.α) (la lb R : List Keyed) (i j : Nat) : Prop where
  p : R.Perm (la.drop i ++ lb.drop j)
  s : Srt O ky R
  a : ∀ x ∈ la.take i, ∀ y ∈ R, le O ky x y
  b : ∀ x ∈ lb.take j, ∀ y ∈ R, le O ky x y
theorem blk_mem {l : List Keyed} {i k : Nat} (h : k ≤ i) : l.take i = l.take k ++ (l.drop k).take (i - k) := by
  have := take_split (l := l) (i := k) (k := i - k)
  rw [show k + (i - k) = i by omega] at this
  exact this
theorem blk_drop {l : List Keyed} {i k : Nat} (h : k ≤ i) : l.drop k = (l.drop k).take (i - k) ++ l.drop i := by
  have := drop_split (l := l) (i := k) (k := i - k)
  rw [show k + (i - k) = i by omega] at this
  exact this
theorem HI.appA {la lb R : List Keyed} {i k j : Nat} (h : HI O ky la lb R i j) (hk : k ≤ i) (sa : Srt O ky la) (hb : ∀ e ∈ (la.drop k).take (i - k), ∀ y ∈ lb.take j, le O ky y e) : HI O ky la lb ((la.drop k).take (i - k) ++ R) k j := by
  have st : Srt O ky (la.take i) := sa.sublist (List.take_sublist _ _)
  rw [blk_mem hk] at st
  obtain ⟨s1, s2, s3⟩ := List.pairwise_append.mp st
  have m1 : ∀ y ∈ (la.drop k).take (i - k), y ∈ la.take i := fun y hy => by rw [blk_mem hk]; exact List.mem_append_right _ hy
  have m2 : ∀ y ∈ la.take k, y ∈ la.take i := fun y hy => by rw [blk_mem hk]; exact List.mem_append_left _ hy
  refine ⟨?_, List.pairwise_append.mpr ⟨s2, h.s, fun x hx y hy => h.a x (m1 x hx) y hy⟩, fun x hx y hy => ?_, fun x hx y hy => ?_⟩
  · refine (h.p.append_left _).trans ?_
    rw [← List.append_assoc, ← blk_drop (l := la) hk]
  · rcases List.mem_append.mp hy with hy | hy
    · exact s3 x hx y hy
    · exact h.a x (m2 x hx) y hy
  · rcases List.mem_append.mp hy with hy | hy
    · exact hb y hy x hx
    · exact h.b x hx y hy
theorem HI.appB {la lb R : List Keyed} {i k j : Nat} (h : HI O ky la lb R i j) (hk : k ≤ j) (sb : Srt O ky lb) (hb : ∀ e ∈ (lb.drop k).take (j - k), ∀ y ∈ la.take i, le O ky y e) : HI O ky la lb ((lb.drop k).take (j - k) ++ R) i k := by
  have st : Srt O ky (lb.take j) := sb.sublist (List.take_sublist _ _)
  rw [blk_mem hk] at st
  obtain ⟨s1, s2, s3⟩ := List.pairwise_append.mp st
  have m1 : ∀ y ∈ (lb.drop k).take (j - k), y ∈ lb.take j := fun y hy => by rw [blk_mem hk]; exact List.mem_append_right _ hy
  have m2 : ∀ y ∈ lb.take k, y ∈ lb.take j := fun y hy => by rw [blk_mem hk]; exact List.mem_append_left _ hy
  refine ⟨?_, List.pairwise_append.mpr ⟨s2, h.s, fun x hx y hy => h.b x (m1 x hx) y hy⟩, fun x hx y hy => ?_, fun x hx y hy => ?_⟩
  · refine (h.p.append_left _).trans ?_
    rw [← List.append_assoc]
    refine (List.Perm.append_right _ List.perm_append_comm).trans ?_
    rw [List.append_assoc, ← blk_drop (l := lb) hk]
  · rcases List.mem_append.mp hy with hy | hy
    · exact hb y hy x hx
    · exact h.a x hx y hy
  · rcases List.mem_append.mp hy with hy | hy
    · exact s3 x hx y hy
    · exact h.b x (m2 x hx) y hy
theorem HI.firstB {la lb R : List Keyed} {i j : Nat} (h : HI O ky la lb R i j) (sa : Srt O ky la) (sb : Srt O ky lb) (hf : ∀ x ∈ lb.take j, ∀ y ∈ la.take i, le O ky x y) : Mgd O ky la lb (lb.take j ++ la.take i ++ R) := by
  refine ⟨?_, ?_⟩
  · refine (h.p.append_left _).trans ?_
    rw [List.append_assoc, ← List.append_assoc (la.take i), List.take_append_drop]
    refine (List.perm_append_comm).trans ?_
    rw [List.append_assoc]
    refine List.Perm.append_left _ ((List.perm_append_comm).trans ?_)
    rw [List.take_append_drop]
  · refine List.pairwise_append.mpr ⟨List.pairwise_append.mpr ⟨sb.sublist (List.take_sublist _ _), sa.sublist (List.take_sublist _ _), hf⟩, h.s, fun x hx y hy => ?_⟩
    rcases List.mem_append.mp hx with hx | hx
    · exact h.b x hx y hy
    · exact h.a x hx y hy
theorem HI.done0 {la lb R : List Keyed} {j : Nat} (h : HI O ky la lb R 0 j) (sa : Srt O ky la) (sb : Srt O ky lb) : Mgd O ky la lb (la.take 0 ++ lb.take j ++ R) := by
  have := h.firstB sa sb (fun x hx y hy => absurd hy (by simp))
  simpa using this
theorem HI.doneB0 {la lb R : List Keyed} {i : Nat} (h : HI O ky la lb R i 0) (sa : Srt O ky la) (sb : Srt O ky lb) : Mgd O ky la lb (la.take i ++ lb.take 0 ++ R) := by
  have := h.firstB sa sb (fun x hx y hy => absurd hx (by simp))
  simpa using this
theorem HI.start {la lb : List Keyed} : HI O ky la lb [] la.length lb.length := ⟨by simp, List.Pairwise.nil, fun x _ y hy => absurd hy (by simp), fun x _ y hy => absurd hy (by simp)⟩
end
def mgHi : Array Keyed → Array Keyed → StateT SortSt Sem (Array Keyed) := sortPriv% PySem.Builtin.mergeHi
abbrev GH := Option (Array Keyed) × Nat × Nat × Array Keyed × Nat × Nat × Nat
abbrev SH := Option (Array Keyed) × Nat × Nat × Array Keyed × Nat × Nat
abbrev OH := Option (Array Keyed) × Nat × Nat × Array Keyed × Nat
def fst1 (x y o : Array Keyed) (i j : Nat) : Array Keyed := x.extract 0 i ++ y.extract 0 j ++ o.reverse
def fst2 (x y o : Array Keyed) (i j : Nat) : Array Keyed := y.extract 0 j ++ x.extract 0 i ++ o.reverse
def hl3 (x y o : Array Keyed) (i j mg ca cb : Nat) : StateT SortSt Sem (ForInStep GH) := do
  let e ← elem' x (i - 1)
  if (i - 1 == 0) = true then pure (.done (some (fst1 x y (o.push e) (i - 1) j), i - 1, j, o.push e, mg, ca, cb))
  else if (decide (ca < 7) && decide (cb < 7)) = true then pure (.done (none, i - 1, j, o.push e, mg, ca, cb))
  else pure (.yield (none, i - 1, j, o.push e, mg, ca, cb))
def hl2 (x y o : Array Keyed) (i j mg ca cb0 : Nat) : StateT SortSt Sem (ForInStep GH) := do
  let e ← elem' y (j - 1)
  if (j - 1 == 1) = true then pure (.done (some (fst2 x y (o.push e) i (j - 1)), i, j - 1, o.push e, mg, ca, cb0))
  else do
    let f ← elem' x (i - 1)
    let r ← gal true f y 0 (j - 1) (j - 1 - 1)
    match r with
    | some k =>
      if j - 1 - k > 0 then
        if (k == 1) = true then pure (.done (some (fst2 x y (o.push e ++ (y.extract k (j - 1)).reverse) i k), i, k, o.push e ++ (y.extract k (j - 1)).reverse, mg, ca, j - 1 - k))
        else if (k == 0) = true then pure (.done (some (fst1 x y (o.push e ++ (y.extract k (j - 1)).reverse) i k), i, k, o.push e ++ (y.extract k (j - 1)).reverse, mg, ca, j - 1 - k))
        else hl3 x y (o.push e ++ (y.extract k (j - 1)).reverse) i k mg ca (j - 1 - k)
      else hl3 x y (o.push e) i (j - 1) mg ca (j - 1 - k)
    | _ => pure (.done (some (fst1 x y (o.push e) i (j - 1)), i, j - 1, o.push e, mg, ca, cb0))
def hl1 (x y o : Array Keyed) (i j mg ca0 cb0 : Nat) : StateT SortSt Sem (ForInStep GH) := do
  setG mg
  let e ← elem' y (j - 1)
  let r ← gal false e x 0 i (i - 1)
  match r with
  | some k =>
    if i - k > 0 then
      if (k == 0) = true then pure (.done (some (fst1 x y (o ++ (x.extract k i).reverse) k j), k, j, o ++ (x.extract k i).reverse, mg, i - k, cb0))
      else hl2 x y (o ++ (x.extract k i).reverse) k j mg (i - k) cb0
    else hl2 x y o i j mg (i - k) cb0
  | _ => pure (.done (some (fst1 x y o i j), i, j, o, mg, ca0, cb0))
def shi (x y : Array Keyed) (mg : Nat) (r : SH) : StateT SortSt Sem (ForInStep SH) := do
  let e ← elem' y (r.2.2.1 - 1)
  let f ← elem' x (r.2.1 - 1)
  let c ← lt' e f
  match c with
  | some xw =>
    if xw = true then do
      let f ← elem' x (r.2.1 - 1)
      if (r.2.1 - 1 == 0) = true then pure (.done (some (fst1 x y (r.2.2.2.1.push f) (r.2.1 - 1) r.2.2.1), r.2.1 - 1, r.2.2.1, r.2.2.2.1.push f, r.2.2.2.2.1 + 1, 0))
      else if r.2.2.2.2.1 + 1 ≥ mg then pure (.done (none, r.2.1 - 1, r.2.2.1, r.2.2.2.1.push f, r.2.2.2.2.1 + 1, 0))
      else pure (.yield (none, r.2.1 - 1, r.2.2.1, r.2.2.2.1.push f, r.2.2.2.2.1 + 1, 0))
    else do
      let e ← elem' y (r.2.2.1 - 1)
      if (r.2.2.1 - 1 == 1) = true then pure (.done (some (fst2 x y (r.2.2.2.1.push e) r.2.1 (r.2.2.1 - 1)), r.2.1, r.2.2.1 - 1, r.2.2.2.1.push e, 0, r.2.2.2.2.2 + 1))
      else if r.2.2.2.2.2 + 1 ≥ mg then pure (.done (none, r.2.1, r.2.2.1 - 1, r.2.2.2.1.push e, 0, r.2.2.2.2.2 + 1))
      else pure (.yield (none, r.2.1, r.2.2.1 - 1, r.2.2.2.1.push e, 0, r.2.2.2.2.2 + 1))
  | _ => pure (.done (some (fst1 x y r.2.2.2.1 r.2.1 r.2.2.1), r.2.1, r.2.2.1, r.2.2.2.1, r.2.2.2.2.1, r.2.2.2.2.2))
def out2 (x y : Array Keyed) (r : OH) : StateT SortSt Sem (ForInStep OH) := do
  let a ← forIn [:x.size + y.size] ((none, r.2.1, r.2.2.1, r.2.2.2.1, 0, 0) : SH) fun _ a => shi x y r.2.2.2.2 a
  match a.1 with
  | some v => pure (.done (some v, a.2.1, a.2.2.1, a.2.2.2.1, r.2.2.2.2))
  | none => do
    rule "list.sort.gallop"
    let b ← forIn [:x.size + y.size] ((none, a.2.1, a.2.2.1, a.2.2.2.1, r.2.2.2.2 + 1, a.2.2.2.2.1, a.2.2.2.2.2) : GH) fun _ b =>
      if b.2.2.2.2.1 > 1 then hl1 x y b.2.2.2.1 b.2.1 b.2.2.1 (b.2.2.2.2.1 - 1) b.2.2.2.2.2.1 b.2.2.2.2.2.2 else hl1 x y b.2.2.2.1 b.2.1 b.2.2.1 b.2.2.2.2.1 b.2.2.2.2.2.1 b.2.2.2.2.2.2
    match b.1 with
    | some v => pure (.done (some v, b.2.1, b.2.2.1, b.2.2.2.1, b.2.2.2.2.1))
    | none => do
      setG (b.2.2.2.2.1 + 1)
      pure (.yield (none, b.2.1, b.2.2.1, b.2.2.2.1, b.2.2.2.2.1 + 1))
def hi0 (x y : Array Keyed) : StateT SortSt Sem (Array Keyed) := do
  rule "list.sort.merge-hi"
  let e ← elem' x (x.size - 1)
  if (x.size - 1 == 0) = true then pure (fst1 x y #[e] (x.size - 1) y.size)
  else if (y.size == 1) = true then pure (fst2 x y #[e] (x.size - 1) y.size)
  else do
    let st ← get
    let r ← forIn [:x.size + y.size] ((none, x.size - 1, y.size, #[e], gallopOf st) : OH) fun _ r => out2 x y r
    match r.1 with
    | some a => pure a
    | none => unsupported "internal:list.sort.merge-bound"
theorem mgHi_eq (x y : Array Keyed) : mgHi x y = hi0 x y := by kernel_rfl
end MxTim
end
section
set_option Elab.async false
set_option linter.all false
set_option maxRecDepth 100000
set_option maxHeartbeats 4000000
namespace MxTim
open PySem PySem.W PyProof.Rows
theorem ext_to (x : Array Keyed) (i : Nat) : (x.extract 0 i).toList = x.toList.take i := by
  rw [Array.toList_extract]
  show (x.toList.drop 0).take (i - 0) = _
  simp
theorem ext_blk (x : Array Keyed) {k i : Nat} : (x.extract k i).toList = (x.toList.drop k).take (i - k) := by
  rw [Array.toList_extract]
theorem fst1_list (x y o : Array Keyed) (i j : Nat) : (fst1 x y o i j).toList = x.toList.take i ++ y.toList.take j ++ o.toList.reverse := by
  unfold fst1
  rw [Array.toList_append, Array.toList_append, ext_to, ext_to, Array.toList_reverse]
theorem fst2_list (x y o : Array Keyed) (i j : Nat) : (fst2 x y o i j).toList = y.toList.take j ++ x.toList.take i ++ o.toList.reverse := by
  unfold fst2
  rw [Array.toList_append, Array.toList_append, ext_to, ext_to, Array.toList_reverse]
theorem rev_blk (x o : Array Keyed) (k i : Nat) : (o ++ (x.extract k i).reverse).toList.reverse = (x.toList.drop k).take (i - k) ++ o.toList.reverse := by
  rw [Array.toList_append, Array.toList_reverse, List.reverse_append, List.reverse_reverse, ext_blk]
theorem rev_push {x o : Array Keyed} {i : Nat} (h1 : 1 ≤ i) (h2 : i ≤ x.size) : (o.push (kas_item x (i - 1))).toList.reverse = (x.toList.drop (i - 1)).take (i - (i - 1)) ++ o.toList.reverse := by
  rw [show i - (i - 1) = 1 by omega, take_one (by omega)]
  simp
section
variable {O : KeyOrd} {ky : Keyed → O.α} {Mem : Keyed → Prop}
variable {prog : Program} {w : World} {A : Around} {E : Value → Shared → Prop} {κ : SortKind} {s : Shared}
theorem mem_to {x : Array Keyed} {i : Nat} {e : Keyed} (h : e ∈ x.toList.take i) : ∃ k, k < i ∧ k < x.size ∧ e = kas_item x k := by
  have h' : e ∈ (x.toList.drop 0).take i := by simpa using h
  obtain ⟨k, _, k1, k2, e⟩ := mem_take h'
  exact ⟨k, by omega, k2, e⟩
structure OKh (O : KeyOrd) (ky : Keyed → O.α) (x y o : Array Keyed) (i j : Nat) : Prop where
  m : HI O ky x.toList y.toList o.toList.reverse i j
  i1 : 1 ≤ i
  i2 : i < x.size
  j1 : 2 ≤ j
  j2 : j ≤ y.size
theorem MP.fst {x y : Array Keyed} (h : MP O ky Mem x y) {i : Nat} (hi : i ≤ x.size) : ∀ e ∈ y.toList.take 1, ∀ f ∈ x.toList.take i, le O ky e f := fun e he f hf => by
  obtain ⟨k, k1, k2, rfl⟩ := mem_to he
  obtain ⟨l, l1, l2, rfl⟩ := mem_to hf
  have : k = 0 := by omega
  subst this
  exact KeyOrd.kle_trans (KeyOrd.kle_of_klt h.first) (srt_at h.sa (Nat.zero_le l) l2)
def HP (O : KeyOrd) (ky : Keyed → O.α) (x y : Array Keyed) (n : Nat) (v : Option (Array Keyed)) (o : Array Keyed) (i j : Nat) : Prop := (∃ a, v = some a ∧ Mgd O ky x.toList y.toList a.toList) ∨ (v = none ∧ OKh O ky x y o i j ∧ i + j + n ≤ x.size + y.size)
theorem HP.none {x y : Array Keyed} {n : Nat} {v : Option (Array Keyed)} {o : Array Keyed} {i j : Nat} (h : HP O ky x y n v o i j) (hv : v = none) : OKh O ky x y o i j ∧ i + j + n ≤ x.size + y.size := by
  rcases h with ⟨a, e, _⟩ | ⟨_, h⟩
  · rw [hv] at e; cases e
  · exact h
def HStep (O : KeyOrd) (ky : Keyed → O.α) (x y : Array Keyed) (n : Nat) : ForInStep GH → Prop
  | .done r => HP O ky x y n r.1 r.2.2.2.1 r.2.1 r.2.2.1
  | .yield r => r.1 = none ∧ HP O ky x y n r.1 r.2.2.2.1 r.2.1 r.2.2.1
theorem hl3_wp {x y o : Array Keyed} (M : MP O ky Mem x y) {i j mg ca cb n : Nat} (h : HI O ky x.toList y.toList o.toList.reverse i j) (hi : 1 ≤ i) (hi2 : i < x.size) (hj : 2 ≤ j) (hj2 : j ≤ y.size) (hk : ∀ l, l < j → le O ky (kas_item y l) (kas_item x (i - 1))) (hn : i - 1 + j + n ≤ x.size + y.size) {st : SortSt} {Q : ForInStep GH → SortSt → Shared → Prop}
    (q : ∀ r, HStep O ky x y n r → Q r st s) : kasC (model prog w) A E (hl3 x y o i j mg ca cb) Q st s := by
  unfold hl3
  refine kasC_bind (elem_wp (at_some (by omega)) ?_)
  have m1 := h.appA (k := i - 1) (by omega) M.sa (fun e he f hf => by
    obtain ⟨a, a1, a2, a3, rfl⟩ := mem_take he
    obtain ⟨b, b1, b2, rfl⟩ := mem_to hf
    have : a = i - 1 := by omega
    subst this
    exact hk b b1)
  rw [← rev_push (x := x) hi (by omega)] at m1
  by_cases c : (i - 1 == 0) = true
  · rw [if_pos c]
    have c' : i - 1 = 0 := by simpa using c
    refine kasC_pure (q _ (.inl ⟨_, rfl, ?_⟩))
    rw [fst1_list]
    rw [c'] at m1 ⊢
    exact m1.done0 M.sa M.sb
  · rw [if_neg c]
    have c' : ¬ i - 1 = 0 := by simpa using c
    have g : HP O ky x y n none (o.push (kas_item x (i - 1))) (i - 1) j := .inr ⟨rfl, ⟨m1, by omega, by omega, hj, hj2⟩, by omega⟩
    by_cases d : (decide (ca < 7) && decide (cb < 7)) = true
    · rw [if_pos d]; exact kasC_pure (q _ g)
    · rw [if_neg d]; exact kasC_pure (q _ ⟨rfl, g⟩)
theorem hl2_wp (T : Tells prog w A κ s O ky Mem) {x y o : Array Keyed} (M : MP O ky Mem x y) {i j mg ca cb n : Nat} (h : HI O ky x.toList y.toList o.toList.reverse i j) (hi : 1 ≤ i) (hi2 : i < x.size) (hj : 2 ≤ j) (hj2 : j ≤ y.size) (hk : ∀ l, l < i → le O ky (kas_item x l) (kas_item y (j - 1))) (hn : i + (j - 1) + n ≤ x.size + y.size) {st : SortSt} (hs : kindOf st = κ)
    {Q : ForInStep GH → SortSt → Shared → Prop} (q : ∀ r, HStep O ky x y n r → Q r st s) : kasC (model prog w) A E (hl2 x y o i j mg ca cb) Q st s := by
  unfold hl2
  refine kasC_bind (elem_wp (at_some (by omega)) ?_)
  have m1 := h.appB (k := j - 1) (by omega) M.sb (fun e he f hf => by
    obtain ⟨a, a1, a2, a3, rfl⟩ := mem_take he
    obtain ⟨b, b1, b2, rfl⟩ := mem_to hf
    have : a = j - 1 := by omega
    subst this
    exact hk b b1)
  rw [← rev_push (x := y) (by omega) hj2] at m1
  by_cases c : (j - 1 == 1) = true
  · rw [if_pos c]
    have c' : j - 1 = 1 := by simpa using c
    refine kasC_pure (q _ (.inl ⟨_, rfl, ?_⟩))
    rw [fst2_list]
    rw [c'] at m1 ⊢
    exact m1.firstB M.sa M.sb (M.fst (by omega))
  · rw [if_neg c]
    have c' : ¬ j - 1 = 1 := by simpa using c
    refine kasC_bind (elem_wp (at_some (by omega)) (kasC_bind ?_))
    refine gal_wp T (fun t => kas_item y t) (fun t ht => by rw [Nat.zero_add]; exact at_some (by omega)) (fun t ht => M.mb _ (by omega)) (M.ma (i - 1) (by omega)) (by omega) (fun a b hab hb hbb => ?_) hs (fun k hk1 hlt hge => ?_)
    · unfold bey at hbb ⊢
      rw [if_pos rfl] at hbb ⊢
      have := srt_at M.sb hab (by omega)
      exact KeyOrd.klt_of_kle_of_klt this hbb
    · have lo : ∀ t, t < k → le O ky (kas_item y t) (kas_item x (i - 1)) := fun t ht => by
        have z := hlt t ht
        unfold bey at z
        rw [if_pos rfl] at z
        exact KeyOrd.kle_of_klt z
      have up : ∀ t, k ≤ t → t < j - 1 → le O ky (kas_item x (i - 1)) (kas_item y t) := fun t h1 h2 => by
        have z := hge t h1 h2
        unfold bey at z
        rw [if_pos rfl] at z
        exact z
      dsimp only
      by_cases k0 : j - 1 - k > 0
      · rw [if_pos k0]
        have m2 := m1.appB (k := k) (by omega) M.sb (fun e he f hf => by
          obtain ⟨a, a1, a2, a3, rfl⟩ := mem_take he
          obtain ⟨b, b1, b2, rfl⟩ := mem_to hf
          exact KeyOrd.kle_trans (srt_at M.sa (show b ≤ i - 1 by omega) (by omega)) (up a a1 (by omega)))
        rw [← rev_blk] at m2
        by_cases d : (k == 1) = true
        · rw [if_pos d]
          have d' : k = 1 := by simpa using d
          subst d'
          refine kasC_pure (q _ (.inl ⟨_, rfl, ?_⟩))
          rw [fst2_list]
          exact m2.firstB M.sa M.sb (M.fst (by omega))
        · rw [if_neg d]
          have d' : ¬ k = 1 := by simpa using d
          by_cases e : (k == 0) = true
          · rw [if_pos e]
            have e' : k = 0 := by simpa using e
            subst e'
            refine kasC_pure (q _ (.inl ⟨_, rfl, ?_⟩))
            rw [fst1_list]
            exact m2.doneB0 M.sa M.sb
          · rw [if_neg e]
            have e' : ¬ k = 0 := by simpa using e
            exact hl3_wp M m2 hi hi2 (by omega) (by omega) lo (by omega) q
      · rw [if_neg k0]
        exact hl3_wp M m1 hi hi2 (by omega) (by omega) (fun l hl => lo l (by omega)) (by omega) q
theorem hl1_wp (T : Tells prog w A κ s O ky Mem) {x y o : Array Keyed} (M : MP O ky Mem x y) {i j mg ca cb n : Nat} (h : OKh O ky x y o i j) (hn : i + j + n ≤ x.size + y.size) {st0 st : SortSt} (hs : kindOf st = κ) (hst : SI st0 st)
    {Q : ForInStep GH → SortSt → Shared → Prop} (q : ∀ r st', SI st0 st' → HStep O ky x y n r → Q r st' s) : kasC (model prog w) A E (hl1 x y o i j mg ca cb) Q st s := by
  unfold hl1
  have hi := h.i1
  have hi2 := h.i2
  have hj := h.j1
  have hj2 := h.j2
  refine kasC_bind (setG_wp fun st1 h1 => ?_)
  have hs1 : kindOf st1 = κ := h1.1.trans hs
  have q' := fun r => q r st1 (hst.trans h1)
  refine kasC_bind (elem_wp (at_some (by omega)) (kasC_bind ?_))
  refine gal_wp T (fun t => kas_item x t) (fun t ht => by rw [Nat.zero_add]; exact at_some (by omega)) (fun t ht => M.ma _ (by omega)) (M.mb (j - 1) (by omega)) (by omega) (fun a b hab hb hbb => ?_) hs1 (fun k hk1 hlt hge => ?_)
  · unfold bey at hbb ⊢
    rw [if_neg (by simp)] at hbb ⊢
    have := srt_at M.sa hab (by omega)
    cases z : O.blt (ky (kas_item y (j - 1))) (ky (kas_item x a)) with
    | false => rfl
    | true =>
      have z2 : O.blt (ky (kas_item y (j - 1))) (ky (kas_item x b)) = true := KeyOrd.klt_of_klt_of_kle z this
      have hbb' : (!O.blt (ky (kas_item y (j - 1))) (ky (kas_item x b))) = true := hbb
      rw [z2] at hbb'
      cases hbb'
  · have lo : ∀ t, t < k → le O ky (kas_item x t) (kas_item y (j - 1)) := fun t ht => by
      have z := hlt t ht
      unfold bey at z
      rw [if_neg (by simp)] at z
      have z2 : (!O.blt (ky (kas_item y (j - 1))) (ky (kas_item x t))) = true := z
      show O.blt (ky (kas_item y (j - 1))) (ky (kas_item x t)) = false
      simpa using z2
    have up : ∀ t, k ≤ t → t < i → le O ky (kas_item y (j - 1)) (kas_item x t) := fun t h1 h2 => by
      have z := hge t h1 h2
      unfold bey at z
      rw [if_neg (by simp)] at z
      have z2 : (!O.blt (ky (kas_item y (j - 1))) (ky (kas_item x t))) = false := z
      have z3 : O.blt (ky (kas_item y (j - 1))) (ky (kas_item x t)) = true := by simpa using z2
      exact KeyOrd.kle_of_klt z3
    dsimp only
    by_cases k0 : i - k > 0
    · rw [if_pos k0]
      have m2 := h.m.appA (k := k) (by omega) M.sa (fun e he f hf => by
        obtain ⟨a, a1, a2, a3, rfl⟩ := mem_take he
        obtain ⟨b, b1, b2, rfl⟩ := mem_to hf
        exact KeyOrd.kle_trans (srt_at M.sb (show b ≤ j - 1 by omega) (by omega)) (up a a1 (by omega)))
      rw [← rev_blk] at m2
      by_cases e : (k == 0) = true
      · rw [if_pos e]
        have e' : k = 0 := by simpa using e
        subst e'
        refine kasC_pure (q' _ (.inl ⟨_, rfl, ?_⟩))
        rw [fst1_list]
        exact m2.done0 M.sa M.sb
      · rw [if_neg e]
        have e' : ¬ k = 0 := by simpa using e
        exact hl2_wp T M m2 (by omega) (by omega) hj hj2 lo (by omega) hs1 q'
    · rw [if_neg k0]
      exact hl2_wp T M h.m hi hi2 hj hj2 (fun l hl => lo l (by omega)) (by omega) hs1 q'
def HSS (O : KeyOrd) (ky : Keyed → O.α) (x y : Array Keyed) (n : Nat) : ForInStep SH → Prop
  | .done r => HP O ky x y n r.1 r.2.2.2.1 r.2.1 r.2.2.1
  | .yield r => r.1 = none ∧ HP O ky x y n r.1 r.2.2.2.1 r.2.1 r.2.2.1
theorem shi_wp (T : Tells prog w A κ s O ky Mem) {x y : Array Keyed} (M : MP O ky Mem x y) {mg : Nat} {r : SH} (h : OKh O ky x y r.2.2.2.1 r.2.1 r.2.2.1) {n : Nat} (hn : r.2.1 + r.2.2.1 + n ≤ x.size + y.size + 1) {st : SortSt} (hs : kindOf st = κ)
    {Q : ForInStep SH → SortSt → Shared → Prop} (q : ∀ r', HSS O ky x y n r' → Q r' st s) : kasC (model prog w) A E (shi x y mg r) Q st s := by
  obtain ⟨v, i, j, o, ca, cb⟩ := r
  have hi : 1 ≤ i := h.i1
  have hi2 : i < x.size := h.i2
  have hj : 2 ≤ j := h.j1
  have hj2 : j ≤ y.size := h.j2
  have hm : HI O ky x.toList y.toList o.toList.reverse i j := h.m
  dsimp only at hn
  unfold shi
  dsimp only
  refine kasC_bind (elem_wp (at_some (by omega)) (kasC_bind (elem_wp (at_some (by omega)) (kasC_bind (lt_wp T (M.mb (j - 1) (by omega)) (M.ma (i - 1) (by omega)) hs ?_)))))
  dsimp only
  cases c : O.blt (ky (kas_item y (j - 1))) (ky (kas_item x (i - 1))) with
  | true =>
    rw [if_pos rfl]
    refine kasC_bind (elem_wp (at_some (by omega)) ?_)
    have m1 := hm.appA (k := i - 1) (by omega) M.sa (fun e he f hf => by
      obtain ⟨a, a1, a2, a3, rfl⟩ := mem_take he
      obtain ⟨b, b1, b2, rfl⟩ := mem_to hf
      have : a = i - 1 := by omega
      subst this
      exact KeyOrd.kle_trans (srt_at M.sb (show b ≤ j - 1 by omega) (by omega)) (KeyOrd.kle_of_klt c))
    rw [← rev_push (x := x) hi (by omega)] at m1
    by_cases d : (i - 1 == 0) = true
    · rw [if_pos d]
      have d' : i - 1 = 0 := by simpa using d
      refine kasC_pure (q _ (.inl ⟨_, rfl, ?_⟩))
      rw [fst1_list]
      rw [d'] at m1 ⊢
      exact m1.done0 M.sa M.sb
    · rw [if_neg d]
      have d' : ¬ i - 1 = 0 := by simpa using d
      have g : HP O ky x y n none (o.push (kas_item x (i - 1))) (i - 1) j := .inr ⟨rfl, ⟨m1, by omega, by omega, hj, hj2⟩, by omega⟩
      by_cases e : ca + 1 ≥ mg
      · rw [if_pos e]; exact kasC_pure (q _ g)
      · rw [if_neg e]; exact kasC_pure (q _ ⟨rfl, g⟩)
  | false =>
    rw [if_neg (by simp)]
    refine kasC_bind (elem_wp (at_some (by omega)) ?_)
    have m1 := hm.appB (k := j - 1) (by omega) M.sb (fun e he f hf => by
      obtain ⟨a, a1, a2, a3, rfl⟩ := mem_take he
      obtain ⟨b, b1, b2, rfl⟩ := mem_to hf
      have : a = j - 1 := by omega
      subst this
      exact KeyOrd.kle_trans (srt_at M.sa (show b ≤ i - 1 by omega) (by omega)) c)
    rw [← rev_push (x := y) (by omega) hj2] at m1
    by_cases d : (j - 1 == 1) = true
    · rw [if_pos d]
      have d' : j - 1 = 1 := by simpa using d
      refine kasC_pure (q _ (.inl ⟨_, rfl, ?_⟩))
      rw [fst2_list]
      rw [d'] at m1 ⊢
      exact m1.firstB M.sa M.sb (M.fst (by omega))
    · rw [if_neg d]
      have d' : ¬ j - 1 = 1 := by simpa using d
      have g : HP O ky x y n none (o.push (kas_item y (j - 1))) i (j - 1) := .inr ⟨rfl, ⟨m1, hi, hi2, by omega, by omega⟩, by omega⟩
      by_cases e : cb + 1 ≥ mg
      · rw [if_pos e]; exact kasC_pure (q _ g)
      · rw [if_neg e]; exact kasC_pure (q _ ⟨rfl, g⟩)
def HOS (O : KeyOrd) (ky : Keyed → O.α) (x y : Array Keyed) (n : Nat) : ForInStep OH → Prop
  | .done r => ∃ a, r.1 = some a ∧ Mgd O ky x.toList y.toList a.toList
  | .yield r => r.1 = none ∧ OKh O ky x y r.2.2.2.1 r.2.1 r.2.2.1 ∧ r.2.1 + r.2.2.1 + n ≤ x.size + y.size
theorem out2_wp (T : Tells prog w A κ s O ky Mem) {x y : Array Keyed} (M : MP O ky Mem x y) {r : OH} (h : OKh O ky x y r.2.2.2.1 r.2.1 r.2.2.1) {n : Nat} (hn : r.2.1 + r.2.2.1 + n ≤ x.size + y.size) {st0 st : SortSt} (hs : kindOf st = κ) (hst : SI st0 st)
    {Q : ForInStep OH → SortSt → Shared → Prop} (q : ∀ r' st', SI st0 st' → HOS O ky x y (n + 1) r' → Q r' st' s) : kasC (model prog w) A E (out2 x y r) Q st s := by
  unfold out2
  have hp := M.pa
  refine kasC_bind (kasC_mono (Q := fun a st' s' => st = st' ∧ s = s' ∧ HP O ky x y (n + 1) a.1 a.2.2.2.1 a.2.1 a.2.2.1) (kasC_range (loop_wp (fun jj a st' => st = st' ∧ a.1 = none ∧ OKh O ky x y a.2.2.2.1 a.2.1 a.2.2.1 ∧ a.2.1 + a.2.2.1 + n + jj ≤ x.size + y.size) ⟨rfl, rfl, h, by simpa using hn⟩ (fun jj a st' z hj hI => ?_) (fun a st' hI => ?_))) (fun a st' s' hI => ?_))
  · obtain ⟨rfl, a0, aok, an⟩ := hI
    refine shi_wp T M aok (n := n + jj + 1) (by omega) hs (fun r' hr' => ⟨rfl, ?_⟩)
    cases r' with
    | done b =>
      refine ⟨rfl, rfl, ?_⟩
      rcases hr' with ⟨v, e, m⟩ | ⟨e, ok, l⟩
      · exact .inl ⟨v, e, m⟩
      · exact .inr ⟨e, ok, by omega⟩
    | yield b =>
      obtain ⟨b0, gb⟩ := hr'
      obtain ⟨ok, l⟩ := gb.none b0
      exact ⟨rfl, b0, ok, by omega⟩
  · obtain ⟨rfl, a0, aok, an⟩ := hI
    rw [List.length_range'] at an
    exact ⟨rfl, rfl, .inr ⟨a0, aok, by omega⟩⟩
  obtain ⟨rfl, rfl, ga⟩ := hI
  rcases ga with ⟨v, e, m⟩ | ⟨e, ok, l⟩
  · rw [e]
    exact kasC_pure (q _ _ hst ⟨v, rfl, m⟩)
  · rw [e]
    refine kasC_bind (kasC_lift (wpAny_rule ?_))
    refine kasC_bind (kasC_mono (Q := fun b st' s' => SI st0 st' ∧ s = s' ∧ HP O ky x y (n + 1) b.1 b.2.2.2.1 b.2.1 b.2.2.1) (kasC_range (loop_wp (fun jj b st' => SI st0 st' ∧ kindOf st' = κ ∧ b.1 = none ∧ OKh O ky x y b.2.2.2.1 b.2.1 b.2.2.1 ∧ b.2.1 + b.2.2.1 + (n + 1) ≤ x.size + y.size) ⟨hst, hs, rfl, ok, l⟩ (fun jj b st' z hj hI => ?_) (fun b st' hI => ?_))) (fun b st' s' hI => ?_))
    · obtain ⟨si, ks, b0, bok, bn⟩ := hI
      have kk : ∀ st2, SI st0 st2 → kindOf st2 = κ := fun st2 h2 => (h2.1.trans si.1.symm).trans ks
      by_cases c : b.2.2.2.2.1 > 1
      · rw [if_pos c]
        refine hl1_wp T M bok bn ks si (fun r' st2 h2 hr' => ⟨rfl, ?_⟩)
        cases r' with
        | done b' => exact ⟨h2, rfl, hr'⟩
        | yield b' =>
          obtain ⟨c0, gc⟩ := hr'
          obtain ⟨ok', l'⟩ := gc.none c0
          exact ⟨h2, kk st2 h2, c0, ok', l'⟩
      · rw [if_neg c]
        refine hl1_wp T M bok bn ks si (fun r' st2 h2 hr' => ⟨rfl, ?_⟩)
        cases r' with
        | done b' => exact ⟨h2, rfl, hr'⟩
        | yield b' =>
          obtain ⟨c0, gc⟩ := hr'
          obtain ⟨ok', l'⟩ := gc.none c0
          exact ⟨h2, kk st2 h2, c0, ok', l'⟩
    · obtain ⟨si, ks, b0, bok, bn⟩ := hI
      exact ⟨si, rfl, .inr ⟨b0, bok, bn⟩⟩
    obtain ⟨si, rfl, gb⟩ := hI
    rcases gb with ⟨v, e2, m⟩ | ⟨e2, ok2, l2⟩
    · rw [e2]
      exact kasC_pure (q _ _ si ⟨v, rfl, m⟩)
    · rw [e2]
      exact kasC_bind (setG_wp fun st2 h2 => kasC_pure (q _ _ (si.trans h2) ⟨rfl, ok2, l2⟩))
theorem mgHi_wp (T : Tells prog w A κ s O ky Mem) {x y : Array Keyed} (M : MP O ky Mem x y) {st : SortSt} (hs : kindOf st = κ) {Q : Array Keyed → SortSt → Shared → Prop} (q : ∀ v st', SI st st' → Mgd O ky x.toList y.toList v.toList → Q v st' s) : kasC (model prog w) A E (mgHi x y) Q st s := by
  rw [mgHi_eq]
  unfold hi0
  have hp := M.pa
  have hq := M.pb
  refine kasC_bind (kasC_lift (wpAny_rule ?_))
  refine kasC_bind (elem_wp (at_some (by omega)) ?_)
  have m0 := HI.start (O := O) (ky := ky) (la := x.toList) (lb := y.toList)
  have lx : x.toList.length = x.size := by simp
  have ly : y.toList.length = y.size := by simp
  rw [lx, ly] at m0
  have m1 := m0.appA (k := x.size - 1) (by omega) M.sa (fun e he f hf => by
    obtain ⟨a, a1, a2, a3, rfl⟩ := mem_take he
    obtain ⟨b, b1, b2, rfl⟩ := mem_to hf
    have : a = x.size - 1 := by omega
    subst this
    exact KeyOrd.kle_of_klt (M.last b b2))
  have e0 : (#[kas_item x (x.size - 1)] : Array Keyed).toList.reverse = (x.toList.drop (x.size - 1)).take (x.size - (x.size - 1)) ++ [] := by rw [show x.size - (x.size - 1) = 1 by omega, take_one (by omega)]; rfl
  rw [← e0] at m1
  by_cases c : (x.size - 1 == 0) = true
  · rw [if_pos c]
    have c' : x.size - 1 = 0 := by simpa using c
    refine kasC_pure (q _ _ (SI.refl _) ?_)
    rw [fst1_list]
    rw [c'] at m1 ⊢
    exact m1.done0 M.sa M.sb
  · rw [if_neg c]
    have c' : ¬ x.size - 1 = 0 := by simpa using c
    by_cases d : (y.size == 1) = true
    · rw [if_pos d]
      have d' : y.size = 1 := by simpa using d
      refine kasC_pure (q _ _ (SI.refl _) ?_)
      rw [fst2_list]
      rw [d'] at m1 ⊢
      exact m1.firstB M.sa M.sb (M.fst (by omega))
    · rw [if_neg d]
      have d' : ¬ y.size = 1 := by simpa using d
      refine kasC_bind (kasC_get ?_)
      refine kasC_bind (kasC_mono (Q := fun r st' s' => SI st st' ∧ s = s' ∧ ∃ a, r.1 = some a ∧ Mgd O ky x.toList y.toList a.toList) (kasC_range (loop_wp (fun jj r st' => SI st st' ∧ r.1 = none ∧ OKh O ky x y r.2.2.2.1 r.2.1 r.2.2.1 ∧ r.2.1 + r.2.2.1 + (jj + 1) ≤ x.size + y.size) ⟨SI.refl _, rfl, ⟨m1, (show 1 ≤ x.size - 1 by omega), (show x.size - 1 < x.size by omega), (show 2 ≤ y.size by omega), Nat.le_refl _⟩, (show x.size - 1 + y.size + (0 + 1) ≤ x.size + y.size by omega)⟩ (fun jj r st' z hj hI => ?_) (fun r st' hI => ?_))) (fun r st' s' hI => ?_))
      · obtain ⟨si, r0, rok, rn⟩ := hI
        refine out2_wp T M rok rn (si.1.trans hs) si (fun r' st2 h2 hr' => ⟨rfl, ?_⟩)
        cases r' with
        | done b => exact ⟨h2, rfl, hr'⟩
        | yield b => exact ⟨h2, hr'.1, hr'.2.1, hr'.2.2⟩
      · obtain ⟨si, r0, rok, rn⟩ := hI
        rw [List.length_range'] at rn
        have h1 := rok.i1
        have h2 := rok.j1
        omega
      obtain ⟨si, rfl, a, e, m⟩ := hI
      rw [e]
      exact kasC_pure (q _ _ si m)
end
end MxTim
end
section
set_option Elab.async false
set_option linter.all false
set_option maxRecDepth 100000
set_option maxHeartbeats 4000000
namespace MxTim
open PySem PySem.W PyProof.Rows
def mAt : Nat → StateT SortSt Sem Bool := sortPriv% PySem.Builtin.mergeAt
def back (M : Array Keyed) (p : Nat) (a : Array Keyed) : Array Keyed := M.toList.zipIdx.foldl (fun b (q, j) => b.setIfInBounds (p + j) q) a
theorem mAt_eq (i : Nat) : mAt i = (do
  let t ← get
  let (some (p, n, pw), some (q, m, _)) := ((pendingOf t)[i]?, (pendingOf t)[i + 1]?) | unsupported "internal:list.sort.pending"
  set (SortSt.mk' (kindOf t) (arrOf t) (((pendingOf t).setIfInBounds i (p, n + m, pw)).eraseIdxIfInBounds (i + 1)) (gallopOf t) (failedOf t))
  let some k ← gal false (← elem' (arrOf t) q) (arrOf t) p n 0 | return false
  let (p, n) := (p + k, n - k)
  if n == 0 then return true
  let some m ← gal true (← elem' (arrOf t) (p + n - 1)) (arrOf t) q m (m - 1) | return false
  if m == 0 then return true
  let x := (arrOf t).extract p q
  let y := (arrOf t).extract q (q + m)
  let M ← if n ≤ m then mgLo x y else mgHi x y
  modify fun t => SortSt.mk' (kindOf t) (back M p (arrOf t)) (pendingOf t) (gallopOf t) (failedOf t)
  return (failedOf (← get)).isNone) := by kernel_rfl
theorem back_list : ∀ (M : List Keyed) (p c : Nat) (a : Array Keyed), p + c + M.length ≤ a.size → ((M.zipIdx c).foldl (fun b (q : Keyed × Nat) => b.setIfInBounds (p + q.2) q.1) a).toList = a.toList.take (p + c) ++ M ++ a.toList.drop (p + c + M.length)
  | [], p, c, a, h => by simp
  | e :: M, p, c, a, h => by
    rw [List.zipIdx_cons, List.foldl_cons]
    simp only [List.length_cons] at h
    have ih := back_list M p (c + 1) (a.setIfInBounds (p + c) e) (by rw [Array.size_setIfInBounds]; omega)
    rw [ih]
    have hs : (a.setIfInBounds (p + c) e).toList = a.toList.take (p + c) ++ [e] ++ a.toList.drop (p + c + 1) := by
      rw [Array.toList_setIfInBounds]
      rw [List.set_eq_take_append_cons_drop]
      rw [if_pos (by simp; omega)]
      simp
    have hl : (a.toList.take (p + c) ++ [e]).length = p + c + 1 := by simp; omega
    rw [hs]
    have e1 : (a.toList.take (p + c) ++ [e] ++ a.toList.drop (p + c + 1)).take (p + (c + 1)) = a.toList.take (p + c) ++ [e] := by
      rw [show p + (c + 1) = (a.toList.take (p + c) ++ [e]).length by omega, List.take_left]
    have e2 : (a.toList.take (p + c) ++ [e] ++ a.toList.drop (p + c + 1)).drop (p + (c + 1) + M.length) = a.toList.drop (p + c + (e :: M).length) := by
      rw [show p + (c + 1) + M.length = (a.toList.take (p + c) ++ [e]).length + M.length by omega, List.drop_append, List.drop_of_length_le (Nat.le_add_right _ _), List.nil_append, Nat.add_sub_cancel_left, List.drop_drop]
      congr 1
      simp only [List.length_cons]
      omega
    rw [e1, e2]
    simp
end MxTim
end
section
set_option Elab.async false
set_option linter.all false
set_option maxRecDepth 100000
set_option maxHeartbeats 4000000
namespace MxTim
open PySem PySem.W PyProof.Rows
section
variable {O : KeyOrd} {ky : Keyed → O.α} {Mem : Keyed → Prop}
variable {prog : Program} {w : World} {A : Around} {E : Value → Shared → Prop} {κ : SortKind} {s : Shared}
theorem kasC_set {t st : SortSt} {Q : PUnit → SortSt → Shared → Prop} (h : Q ⟨⟩ t s) : kasC (model prog w) A E (set t : StateT SortSt Sem PUnit) Q st s := by
  unfold kasC
  rw [StateT.run_set]
  exact wpAny_pure h
theorem er (n1 n2 pw z : Nat) : ((#[(0, n1, pw), (n1, n2, z)] : Array (Nat × Nat × Nat)).setIfInBounds 0 (0, n1 + n2, pw)).eraseIdxIfInBounds (0 + 1) = #[(0, n1 + n2, pw)] := by
  simp [Array.eraseIdxIfInBounds]
theorem mAt_wp (T : Tells prog w A κ s O ky Mem) {a : Array Keyed} {n1 n2 pw z g : Nat} (hsz : a.size = n1 + n2) (h1 : 1 ≤ n1) (h2 : 1 ≤ n2) (hm : ∀ i, i < a.size → Mem (kas_item a i)) (sA : ∀ i j, i ≤ j → j < n1 → le O ky (kas_item a i) (kas_item a j)) (sB : ∀ i j, n1 ≤ i → i ≤ j → j < n1 + n2 → le O ky (kas_item a i) (kas_item a j))
    {Q : Bool → SortSt → Shared → Prop} (q : ∀ st' : SortSt, kindOf st' = κ → pendingOf st' = #[(0, n1 + n2, pw)] → failedOf st' = none → (arrOf st').toList.Perm a.toList → Srt O ky (arrOf st').toList → Q true st' s) :
    kasC (model prog w) A E (mAt 0) Q (SortSt.mk' κ a #[(0, n1, pw), (n1, n2, z)] g none) s := by
  rw [mAt_eq]
  refine kasC_bind (kasC_get ?_)
  dsimp only
  have e0 : (pendingOf (SortSt.mk' κ a #[(0, n1, pw), (n1, n2, z)] g none))[0]? = some (0, n1, pw) := rfl
  have e1 : (pendingOf (SortSt.mk' κ a #[(0, n1, pw), (n1, n2, z)] g none))[0 + 1]? = some (n1, n2, z) := rfl
  rw [e0, e1]
  dsimp only
  refine kasC_bind (kasC_set ?_)
  refine kasC_bind (elem_wp (at_some (x := a) (by omega)) (kasC_bind ?_))
  refine gal_wp T (fun t => kas_item a t) (fun t ht => by rw [Nat.zero_add]; exact at_some (x := a) (by omega)) (fun t ht => hm _ (by omega)) (hm n1 (by omega)) (by omega) (fun i j hij hj hb => ?_) rfl (fun k hk1 hlt hge => ?_)
  · unfold bey at hb ⊢
    rw [if_neg (by simp)] at hb ⊢
    have := sA i j hij hj
    cases zz : O.blt (ky (kas_item a n1)) (ky (kas_item a i)) with
    | false => rfl
    | true =>
      have z2 : O.blt (ky (kas_item a n1)) (ky (kas_item a j)) = true := KeyOrd.klt_of_klt_of_kle zz this
      have hb' : (!O.blt (ky (kas_item a n1)) (ky (kas_item a j))) = true := hb
      rw [z2] at hb'
      cases hb'
  have lo : ∀ t, t < k → le O ky (kas_item a t) (kas_item a n1) := fun t ht => by
    have zz := hlt t ht
    unfold bey at zz
    rw [if_neg (by simp)] at zz
    have z2 : (!O.blt (ky (kas_item a n1)) (ky (kas_item a t))) = true := zz
    show O.blt (ky (kas_item a n1)) (ky (kas_item a t)) = false
    simpa using z2
  have up : ∀ t, k ≤ t → t < n1 → O.blt (ky (kas_item a n1)) (ky (kas_item a t)) = true := fun t h1 h2 => by
    have zz := hge t h1 h2
    unfold bey at zz
    rw [if_neg (by simp)] at zz
    have z2 : (!O.blt (ky (kas_item a n1)) (ky (kas_item a t))) = false := zz
    simpa using z2
  have srt_of : ∀ b : Array Keyed, (∀ i j, i < j → j < b.size → le O ky (kas_item b i) (kas_item b j)) → Srt O ky b.toList := fun b hb => by
    refine List.pairwise_iff_getElem.mpr fun i j hi hj hij => ?_
    have e : ∀ k, (h : k < b.size) → kas_item b k = b.toList[k]'(by simpa using h) := fun k h => by unfold kas_item; simp [Array.getD, h]
    rw [← e i (by simpa using hi), ← e j (by simpa using hj)]
    exact hb i j hij (by simpa using hj)
  dsimp only
  by_cases c : (n1 - k == 0) = true
  · rw [if_pos c]
    have c' : n1 - k = 0 := by simpa using c
    refine kasC_pure (q _ rfl (er n1 n2 pw z) rfl (List.Perm.refl _) (srt_of a fun i j hij hj => ?_))
    by_cases ci : j < n1
    · exact sA i j (by omega) ci
    · by_cases cj : i < n1
      · exact KeyOrd.kle_trans (lo i (by omega)) (sB n1 j (Nat.le_refl _) (by omega) (by omega))
      · exact sB i j (by omega) (by omega) (by omega)
  · rw [if_neg c]
    have c' : ¬ n1 - k = 0 := by simpa using c
    refine kasC_bind (elem_wp (at_some (x := a) (show 0 + k + (n1 - k) - 1 < a.size by omega)) (kasC_bind ?_))
    have el : 0 + k + (n1 - k) - 1 = n1 - 1 := by omega
    refine gal_wp T (fun t => kas_item a (n1 + t)) (fun t ht => at_some (x := a) (by omega)) (fun t ht => hm _ (by omega)) (hm _ (by omega)) (by omega) (fun i j hij hj hb => ?_) rfl (fun m hm1 hmlt hmge => ?_)
    · unfold bey at hb ⊢
      rw [if_pos rfl] at hb ⊢
      exact KeyOrd.klt_of_kle_of_klt (sB (n1 + i) (n1 + j) (by omega) (by omega) (by omega)) hb
    have blo : ∀ t, n1 ≤ t → t < n1 + m → O.blt (ky (kas_item a t)) (ky (kas_item a (n1 - 1))) = true := fun t h1 h2 => by
      have zz := hmlt (t - n1) (by omega)
      unfold bey at zz
      rw [if_pos rfl, el] at zz
      have z2 : O.blt (ky (kas_item a (n1 + (t - n1)))) (ky (kas_item a (n1 - 1))) = true := zz
      rw [show n1 + (t - n1) = t by omega] at z2
      exact z2
    have bup : ∀ t, n1 + m ≤ t → t < n1 + n2 → le O ky (kas_item a (n1 - 1)) (kas_item a t) := fun t h1 h2 => by
      have zz := hmge (t - n1) (by omega) (by omega)
      unfold bey at zz
      rw [if_pos rfl, el] at zz
      have z2 : O.blt (ky (kas_item a (n1 + (t - n1)))) (ky (kas_item a (n1 - 1))) = false := zz
      rw [show n1 + (t - n1) = t by omega] at z2
      exact z2
    have m0 : m ≠ 0 := fun e => by
      have z1 := bup n1 (by omega) (by omega)
      have z2 := up (n1 - 1) (by omega) (by omega)
      exact KeyOrd.not_klt_of_kle z1 z2
    dsimp only
    rw [if_neg (by simpa using m0)]
    have gx : ∀ t, t < n1 - k → kas_item (a.extract (0 + k) n1) t = kas_item a (k + t) := fun t ht => by
      unfold kas_item
      simp [Array.getD, show t < n1 - k by omega, show k + t < a.size by omega, show min n1 a.size = n1 by omega]
    have gy : ∀ t, t < m → kas_item (a.extract n1 (n1 + m)) t = kas_item a (n1 + t) := fun t ht => by
      unfold kas_item
      simp [Array.getD, show n1 + t < a.size by omega, show min (n1 + m) a.size = n1 + m by omega, ht]
    have sx : (a.extract (0 + k) n1).size = n1 - k := by simp; omega
    have sy : (a.extract n1 (n1 + m)).size = m := by simp; omega
    have MM : MP O ky Mem (a.extract (0 + k) n1) (a.extract n1 (n1 + m)) := by
      refine ⟨srt_of _ fun i j hij hj => ?_, srt_of _ fun i j hij hj => ?_, fun i hi => ?_, fun i hi => ?_, by omega, by omega, ?_, fun j hj => ?_⟩
      · rw [gx i (by omega), gx j (by omega)]; exact sA _ _ (by omega) (by omega)
      · rw [gy i (by omega), gy j (by omega)]; exact sB _ _ (by omega) (by omega) (by omega)
      · rw [gx i (by omega)]; exact hm _ (by omega)
      · rw [gy i (by omega)]; exact hm _ (by omega)
      · rw [gx 0 (by omega), gy 0 (by omega)]; exact up k (Nat.le_refl _) (by omega)
      · rw [sx, gx (n1 - k - 1) (by omega), gy j (by omega), show k + (n1 - k - 1) = n1 - 1 by omega]; exact blo _ (by omega) (by omega)
    have lx : (a.extract (0 + k) n1).toList = (a.toList.drop k).take (n1 - k) := by rw [Nat.zero_add]; exact ext_blk a
    have ly : (a.extract n1 (n1 + m)).toList = (a.toList.drop n1).take m := ext_some a n1 m
    have fin : ∀ (v : Array Keyed) (st' : SortSt), kindOf st' = κ → arrOf st' = a → pendingOf st' = #[(0, n1 + n2, pw)] → failedOf st' = none → Mgd O ky (a.extract (0 + k) n1).toList (a.extract n1 (n1 + m)).toList v.toList →
        kasC (model prog w) A E (do
          modify fun t => SortSt.mk' (kindOf t) (back v (0 + k) (arrOf t)) (pendingOf t) (gallopOf t) (failedOf t)
          let t ← get
          pure (failedOf t).isNone) Q st' s := fun v st' k1 k2 k3 k4 hv => by
      refine kasC_bind (kasC_modify (kasC_bind (kasC_get (kasC_pure ?_))))
      obtain ⟨vp, vs⟩ := hv
      have vl : v.toList.length = n1 - k + m := by
        rw [vp.length_eq, List.length_append]
        simp only [Array.length_toList]
        omega
      have bl : (back v (0 + k) a).toList = a.toList.take k ++ v.toList ++ a.toList.drop (n1 + m) := by
        have := back_list v.toList k 0 a (by omega)
        unfold back
        rw [Nat.zero_add]
        refine Eq.trans ?_ (this.trans ?_)
        · rfl
        · rw [Nat.add_zero, vl, show k + (n1 - k + m) = n1 + m by omega]
      have spl : a.toList = a.toList.take k ++ ((a.toList.drop k).take (n1 - k) ++ (a.toList.drop n1).take m) ++ a.toList.drop (n1 + m) := by
        rw [List.append_assoc, List.append_assoc, ← drop_split (l := a.toList) (i := n1) (k := m), ← blk_drop (l := a.toList) (i := n1) (k := k) (by omega), List.take_append_drop]
      have pm : (back v (0 + k) a).toList.Perm a.toList := by
        rw [bl]
        conv => rhs; rw [spl]
        rw [lx, ly] at vp
        exact ((List.Perm.refl _).append vp).append (List.Perm.refl _)
      have memv : ∀ e ∈ v.toList, (∃ t, k ≤ t ∧ t < n1 ∧ e = kas_item a t) ∨ (∃ t, n1 ≤ t ∧ t < n1 + m ∧ e = kas_item a t) := fun e he => by
        rw [lx, ly] at vp
        rcases List.mem_append.mp (vp.mem_iff.mp he) with he | he
        · obtain ⟨t, t1, t2, t3, rfl⟩ := mem_take he
          exact .inl ⟨t, t1, by omega, rfl⟩
        · obtain ⟨t, t1, t2, t3, rfl⟩ := mem_take he
          exact .inr ⟨t, t1, by omega, rfl⟩
      have ss : Srt O ky (back v (0 + k) a).toList := by
        rw [bl]
        have sa1 : Srt O ky (a.toList.take k) := by
          have : Srt O ky (a.extract 0 k).toList := srt_of _ fun i j hij hj => by
            have hs : (a.extract 0 k).size = k := by simp; omega
            have g0 : ∀ t, t < k → kas_item (a.extract 0 k) t = kas_item a t := fun t ht => by
              unfold kas_item
              simp [Array.getD, show t < a.size by omega, show min k a.size = k by omega, ht]
            rw [g0 i (by omega), g0 j (by omega)]
            exact sA i j (by omega) (by omega)
          rw [ext_to] at this
          exact this
        have sb2 : Srt O ky (a.toList.drop (n1 + m)) := by
          have : Srt O ky (a.extract (n1 + m) a.size).toList := srt_of _ fun i j hij hj => by
            have hs : (a.extract (n1 + m) a.size).size = a.size - (n1 + m) := by simp
            have g0 : ∀ t, t < a.size - (n1 + m) → kas_item (a.extract (n1 + m) a.size) t = kas_item a (n1 + m + t) := fun t ht => by
              unfold kas_item
              simp [Array.getD, show n1 + m + t < a.size by omega, ht]
            rw [g0 i (by omega), g0 j (by omega)]
            exact sB _ _ (by omega) (by omega) (by omega)
          rw [ext_all] at this
          exact this
        refine List.pairwise_append.mpr ⟨List.pairwise_append.mpr ⟨sa1, vs, fun e he f hf => ?_⟩, sb2, fun e he f hf => ?_⟩
        · obtain ⟨t, t1, t2, rfl⟩ := mem_to he
          rcases memv f hf with ⟨u, u1, u2, rfl⟩ | ⟨u, u1, u2, rfl⟩
          · exact sA t u (by omega) u2
          · exact KeyOrd.kle_trans (lo t t1) (sB n1 u (Nat.le_refl _) u1 (by omega))
        · obtain ⟨u, u1, u2, rfl⟩ := mem_drop hf
          rcases List.mem_append.mp he with he | he
          · obtain ⟨t, t1, t2, rfl⟩ := mem_to he
            exact KeyOrd.kle_trans (lo t t1) (sB n1 u (Nat.le_refl _) (by omega) (by omega))
          · rcases memv e he with ⟨t, t1, t2, rfl⟩ | ⟨t, t1, t2, rfl⟩
            · exact KeyOrd.kle_trans (sA t (n1 - 1) (by omega) (by omega)) (bup u u1 (by omega))
            · exact sB t u t1 (by omega) (by omega)
      have qq := q (SortSt.mk' (kindOf st') (back v (0 + k) (arrOf st')) (pendingOf st') (gallopOf st') (failedOf st')) k1 k3 k4 (by rw [k2]; exact pm) (by rw [k2]; exact ss)
      have e : (failedOf st').isNone = true := by rw [k4]; rfl
      show Q (failedOf st').isNone _ s
      rw [e]
      exact qq
    by_cases d : n1 - k ≤ m
    · rw [if_pos d]
      refine kasC_bind (mgLo_wp T MM rfl fun v st' si hv => ?_)
      exact fin v st' si.1 si.2.1 (si.2.2.1.trans (er n1 n2 pw z)) si.2.2.2 hv
    · rw [if_neg d]
      refine kasC_bind (mgHi_wp T MM rfl fun v st' si hv => ?_)
      exact fin v st' si.1 si.2.1 (si.2.2.1.trans (er n1 n2 pw z)) si.2.2.2 hv
end
end MxTim
end
section
set_option Elab.async false
set_option linter.all false
set_option maxRecDepth 100000
set_option maxHeartbeats 4000000
namespace MxTim
open PySem PySem.W PyProof.Rows
def aL (lo n m : Nat) : StateT SortSt Sem AscSt :=
  forIn [n:m] ((none, n) : AscSt) fun _ r => do
    let x ← ltAt' (lo + r.2) (lo + r.2 - 1)
    match x with
    | some c => if c = true then pure (.done (none, r.2)) else pure (.yield (none, r.2 + 1))
    | _ => pure (.done (some none, r.2))
def t3 (lo n m : Nat) : StateT SortSt Sem (Option Nat) := do
  reverseSlice' lo (lo + n)
  let r ← aL lo n m
  match r.1 with
  | some v => pure v
  | none => pure (some r.2)
def dL (lo n m : Nat) : StateT SortSt Sem DescSt :=
  forIn [n:m] ((none, n, 0) : DescSt) fun _ r => do
    let x ← ltAt' (lo + r.2.1) (lo + r.2.1 - 1)
    match x with
    | some c =>
      if c = true then
        if r.2.2 > 0 then do
          reverseSlice' (lo + r.2.1 - (r.2.2 + 1)) (lo + r.2.1)
          pure (.yield (none, r.2.1 + 1, 0))
        else pure (.yield (none, r.2.1 + 1, 0))
      else do
        let y ← ltAt' (lo + r.2.1 - 1) (lo + r.2.1)
        match y with
        | some d => if d = true then pure (.done (none, r.2.1, r.2.2)) else pure (.yield (none, r.2.1 + 1, r.2.2 + 1))
        | _ => pure (.done (some none, r.2.1, r.2.2))
    | _ => pure (.done (some none, r.2.1, r.2.2))
def dP (lo n m : Nat) : StateT SortSt Sem (Option Nat) := do
  rule "list.sort.descending-run"
  let r ← dL lo (n + 1) m
  match r.1 with
  | some v => pure v
  | none =>
    if r.2.2 > 0 then do
      reverseSlice' (lo + r.2.1 - (r.2.2 + 1)) (lo + r.2.1)
      t3 lo r.2.1 m
    else t3 lo r.2.1 m
def cR (lo m : Nat) : StateT SortSt Sem (Option Nat) := do
  let r ← aL lo 1 m
  match r.1 with
  | some v => pure v
  | none =>
    if (r.2 == m) = true then pure (some r.2)
    else if r.2 > 1 then do
      let x ← ltAt' lo (lo + r.2 - 1)
      match x with
      | some c => if c = true then pure (some r.2) else do
          reverseSlice' lo (lo + r.2)
          dP lo r.2 m
      | _ => pure none
    else dP lo r.2 m
theorem cR_eq (lo m : Nat) : countRun' lo m = cR lo m := by kernel_rfl
def pL (lo k : Nat) : StateT SortSt Sem (Option Bool × Nat × Nat) :=
  forIn [:k] ((none, 0, k) : Option Bool × Nat × Nat) fun _ r =>
    if r.2.1 ≥ r.2.2 then pure (.done (none, r.2.1, r.2.2)) else do
      let x ← ltAt' (lo + k) (lo + (r.2.1 + r.2.2) / 2)
      match x with
      | some c => if c = true then pure (.yield (none, r.2.1, (r.2.1 + r.2.2) / 2)) else pure (.yield (none, (r.2.1 + r.2.2) / 2 + 1, r.2.2))
      | _ => pure (.done (some false, r.2.1, r.2.2))
def bS (lo n ok : Nat) : StateT SortSt Sem Bool := do
  let r ← forIn [max ok 1:n] ((none, ()) : Option Bool × Unit) fun k _ => do
    let r ← pL lo k
    match r.1 with
    | some v => pure (.done (some v, ()))
    | none => do
      moveDown' (lo + k) (lo + r.2.1)
      pure (.yield (none, ()))
  match r.1 with
  | some v => pure v
  | none => pure true
theorem bS_eq (lo n ok : Nat) : binarySort' lo n ok = bS lo n ok := by kernel_rfl
section
variable {O : KeyOrd} {ky : Keyed → O.α} {Mem : Keyed → Prop}
variable {prog : Program} {w : World} {A : Around} {E : Value → Shared → Prop} {κ : SortKind} {s : Shared}
theorem rloop_wp {β : Type} {a b : Nat} {b0 : β} {f : Nat → β → StateT SortSt Sem (ForInStep β)} {Q : β → SortSt → Shared → Prop} (Inv : Nat → β → SortSt → Prop) {st0 : SortSt} (h0 : Inv a b0 st0)
    (step : ∀ x c st, a ≤ x → x < b → Inv x c st → kasC (model prog w) A E (f x c) (fun r st' s' => s' = s ∧ match r with | .done b' => Q b' st' s | .yield b' => Inv (x + 1) b' st') st s)
    (fin : ∀ c st, Inv (max a b) c st → Q c st s) : kasC (model prog w) A E (forIn [a:b] b0 f) Q st0 s := by
  have go : ∀ (n x : Nat) (c : β) (st : SortSt), x + n = max a b → a ≤ x → Inv x c st → kasC (model prog w) A E (forIn (List.range' x n) c f) Q st s := by
    intro n
    induction n with
    | zero =>
      intro x c st hx hax hI
      have e : x = max a b := by omega
      subst e
      exact kasC_nil (fin c st hI)
    | succ n ih =>
      intro x c st hx hax hI
      rw [List.range'_succ]
      refine kasC_cons (wpAny_mono (step x c st hax (by omega) hI) (fun r s' h' => ?_) fun _ _ e => e)
      obtain ⟨r, st'⟩ := r
      obtain ⟨rfl, h'⟩ := h'
      cases r with
      | done b' => exact h'
      | yield b' => exact ih (x + 1) b' st' (by omega) (by omega) h'
  exact kasC_range (go (b - a) a b0 st0 (by omega) (Nat.le_refl _) h0)
/-- a sort at work on what lies from lo on -/
structure Bs (κ : SortKind) (P : Array (Nat × Nat × Nat)) (lo : Nat) (b : Array Keyed) (st : SortSt) : Prop where
  k : kindOf st = κ
  f : failedOf st = none
  p : pendingOf st = P
  pm : (arrOf st).toList.Perm b.toList
  lw : ∀ i, i < lo → kas_item (arrOf st) i = kas_item b i
variable {P : Array (Nat × Nat × Nat)} {lo : Nat} {b : Array Keyed}
theorem Bs.size {st : SortSt} (h : Bs κ P lo b st) : (arrOf st).size = b.size := by
  have := h.pm.length_eq
  simpa using this
theorem Bs.mem {st : SortSt} (h : Bs κ P lo b st) (hb : ∀ x ∈ b.toList, Mem x) {i : Nat} (hi : i < b.size) : Mem (kas_item (arrOf st) i) := by
  have hi' : i < (arrOf st).size := by rw [h.size]; exact hi
  refine hb _ (h.pm.mem_iff.mp ?_)
  have e : kas_item (arrOf st) i = (arrOf st)[i] := by unfold kas_item; simp [Array.getD, hi']
  rw [e]
  simp
theorem item_of {p q : Array Keyed} {i j : Nat} (h : p[i]? = q[j]?) : kas_item p i = kas_item q j := by
  unfold kas_item
  rw [Array.getD_eq_getD_getElem?, Array.getD_eq_getD_getElem?, h]
theorem item_rev {a : Array Keyed} {i j : Nat} (hj : j ≤ a.size) (k : Nat) : kas_item (mirror a i j ((j - i) / 2)) k = if i ≤ k ∧ k < j then kas_item a (i + j - 1 - k) else kas_item a k := by
  have e := getElem?_mirror_all (i := i) hj k
  by_cases h1 : i ≤ k ∧ k < j
  · rw [if_pos h1] at e ⊢; exact item_of e
  · rw [if_neg h1] at e ⊢; exact item_of e
theorem item_bub {a : Array Keyed} {src d : Nat} (hs : src < a.size) (hd : d ≤ src) (k : Nat) :
    kas_item (bubble a src d) k = if k = src - d then kas_item a src else if src - d < k ∧ k ≤ src then kas_item a (k - 1) else kas_item a k := by
  have e := getElem?_bubble hs d hd k
  by_cases h1 : k = src - d
  · rw [if_pos h1] at e ⊢; exact item_of e
  · rw [if_neg h1] at e ⊢
    by_cases h2 : src - d < k ∧ k ≤ src
    · rw [if_pos h2] at e ⊢; exact item_of e
    · rw [if_neg h2] at e ⊢; exact item_of e
theorem Bs.rev {st : SortSt} (h : Bs κ P lo b st) {i j : Nat} (hi : lo ≤ i) (hj : j ≤ b.size) : Bs κ P lo b (setArr st (mirror (arrOf st) i j ((j - i) / 2))) :=
  ⟨h.k, h.f, h.p, (Array.perm_iff_toList_perm.mp (mirror_perm _ _ _ _)).trans h.pm, fun k hk => by
    have := item_rev (a := arrOf st) (i := i) (j := j) (by rw [h.size]; exact hj) k
    rw [if_neg (by omega)] at this
    exact this.trans (h.lw k hk)⟩
theorem Bs.bub {st : SortSt} (h : Bs κ P lo b st) {c d : Nat} (hs : c < b.size) (hd : lo + d ≤ c) : Bs κ P lo b (setArr st (bubble (arrOf st) c d)) :=
  ⟨h.k, h.f, h.p, (Array.perm_iff_toList_perm.mp (bubble_perm _ _ _)).trans h.pm, fun k hk => by
    have := item_bub (a := arrOf st) (src := c) (d := d) (by rw [h.size]; exact hs) (by omega) k
    rw [if_neg (by omega), if_neg (by omega)] at this
    exact this.trans (h.lw k hk)⟩
theorem ltAt_wp (T : Tells prog w A κ s O ky Mem) (hb : ∀ x ∈ b.toList, Mem x) {st : SortSt} (h : Bs κ P lo b st) {i j : Nat} (hi : i < b.size) (hj : j < b.size) {Q : Option Bool → SortSt → Shared → Prop}
    (q : Q (some (O.blt (ky (kas_item (arrOf st) i)) (ky (kas_item (arrOf st) j)))) st s) : kasC (model prog w) A E (ltAt' i j) Q st s := by
  rw [ltAt'_eq]
  refine kasC_bind (kasC_get ?_)
  dsimp only
  exact kasC_bind (elem_wp (at_some (by rw [h.size]; exact hi)) (kasC_bind (elem_wp (at_some (by rw [h.size]; exact hj)) (lt_wp T (h.mem hb hi) (h.mem hb hj) h.k q))))
def Up (O : KeyOrd) (ky : Keyed → O.α) (lo : Nat) (a : Array Keyed) (n : Nat) : Prop := ∀ i j, lo ≤ i → i ≤ j → j < lo + n → O.kle (ky (kas_item a i)) (ky (kas_item a j))
def Dn (O : KeyOrd) (ky : Keyed → O.α) (lo : Nat) (a : Array Keyed) (n : Nat) : Prop := ∀ i j, lo ≤ i → i ≤ j → j < lo + n → O.kle (ky (kas_item a j)) (ky (kas_item a i))
def Eqs (O : KeyOrd) (ky : Keyed → O.α) (lo : Nat) (a : Array Keyed) (n q : Nat) : Prop := ∀ k, lo + n - (q + 1) ≤ k → k < lo + n → ky (kas_item a k) = ky (kas_item a (lo + n - 1))
theorem Up.succ {a : Array Keyed} {n : Nat} (h : Up O ky lo a n) (h1 : 1 ≤ n) (h2 : O.kle (ky (kas_item a (lo + n - 1))) (ky (kas_item a (lo + n)))) : Up O ky lo a (n + 1) := fun i j hi hij hj => by
  by_cases e : j = lo + n
  · subst e
    by_cases e2 : i = lo + n
    · subst e2; exact KeyOrd.kle_refl _
    · exact KeyOrd.kle_trans (h i (lo + n - 1) hi (by omega) (by omega)) h2
  · exact h i j hi hij (by omega)
theorem Dn.succ {a : Array Keyed} {n : Nat} (h : Dn O ky lo a n) (h1 : 1 ≤ n) (h2 : O.kle (ky (kas_item a (lo + n))) (ky (kas_item a (lo + n - 1)))) : Dn O ky lo a (n + 1) := fun i j hi hij hj => by
  by_cases e : j = lo + n
  · subst e
    by_cases e2 : i = lo + n
    · subst e2; exact KeyOrd.kle_refl _
    · exact KeyOrd.kle_trans h2 (h i (lo + n - 1) hi (by omega) (by omega))
  · exact h i j hi hij (by omega)
theorem Dn.of {a c : Array Keyed} {n : Nat} (e : ∀ k, ky (kas_item c k) = ky (kas_item a k)) (h : Dn O ky lo a n) : Dn O ky lo c n := fun i j x y z => by rw [e, e]; exact h i j x y z
theorem Up.one (a : Array Keyed) : Up O ky lo a 1 := fun i j x y z => by rw [show i = j by omega]; exact KeyOrd.kle_refl _
theorem Dn.one (a : Array Keyed) : Dn O ky lo a 1 := fun i j x y z => by rw [show i = j by omega]; exact KeyOrd.kle_refl _
theorem eqrev {a : Array Keyed} {i j : Nat} (hj : j ≤ a.size) (he : ∀ k, i ≤ k → k < j → ky (kas_item a k) = ky (kas_item a (j - 1))) (k : Nat) : ky (kas_item (mirror a i j ((j - i) / 2)) k) = ky (kas_item a k) := by
  rw [item_rev hj]
  split
  · rename_i h
    rw [he (i + j - 1 - k) (by omega) (by omega), he k h.1 h.2]
  · rfl
theorem up_rev {a : Array Keyed} {n : Nat} (hn : lo + n ≤ a.size) (h : Dn O ky lo a n) : Up O ky lo (mirror a lo (lo + n) ((lo + n - lo) / 2)) n := fun i j hi hij hj => by
  rw [item_rev hn, item_rev hn, if_pos (by omega), if_pos (by omega)]
  exact h _ _ (by omega) (by omega) (by omega)
theorem aL_wp (T : Tells prog w A κ s O ky Mem) (hb : ∀ x ∈ b.toList, Mem x) {st : SortSt} (h : Bs κ P lo b st) {n m : Nat} (hz : lo + m ≤ b.size) (h1 : 1 ≤ n) (hn : n ≤ m) (hu : Up O ky lo (arrOf st) n) {Q : AscSt → SortSt → Shared → Prop}
    (q : ∀ k, n ≤ k → k ≤ m → Up O ky lo (arrOf st) k → (k < m → O.blt (ky (kas_item (arrOf st) (lo + k))) (ky (kas_item (arrOf st) (lo + k - 1))) = true) → Q (none, k) st s) : kasC (model prog w) A E (aL lo n m) Q st s := by
  unfold aL
  refine rloop_wp (fun x r st' => st = st' ∧ r = (none, x) ∧ Up O ky lo (arrOf st) x) ⟨rfl, rfl, hu⟩ (fun x r st' hx1 hx2 hI => ?_) (fun r st' hI => ?_)
  · obtain ⟨rfl, rfl, hu⟩ := hI
    dsimp only
    refine kasC_bind (ltAt_wp T hb h (by omega) (by omega) ?_)
    dsimp only
    cases c : O.blt (ky (kas_item (arrOf st) (lo + x))) (ky (kas_item (arrOf st) (lo + x - 1))) with
    | true => rw [if_pos rfl]; exact kasC_pure ⟨rfl, q x hx1 (by omega) hu fun _ => c⟩
    | false => rw [if_neg (by simp)]; exact kasC_pure ⟨rfl, rfl, rfl, hu.succ (by omega) c⟩
  · obtain ⟨rfl, rfl, hu⟩ := hI
    rw [show max n m = m by omega] at hu ⊢
    exact q m hn (Nat.le_refl _) hu fun z => absurd z (by omega)
theorem rev_wp {i j : Nat} {st : SortSt} {Q : Unit → SortSt → Shared → Prop} (q : Q () (setArr st (mirror (arrOf st) i j ((j - i) / 2))) s) : kasC (model prog w) A E (reverseSlice' i j) Q st s := by
  rw [reverseSlice'_eq]
  exact kasC_modify q
theorem dL_wp (T : Tells prog w A κ s O ky Mem) (hb : ∀ x ∈ b.toList, Mem x) {st : SortSt} (h : Bs κ P lo b st) {n m : Nat} (hz : lo + m ≤ b.size) (h1 : 1 ≤ n) (hn : n ≤ m) (hd : Dn O ky lo (arrOf st) n) {Q : DescSt → SortSt → Shared → Prop}
    (q : ∀ st' k e, Bs κ P lo b st' → n ≤ k → k ≤ m → e + 1 ≤ k → Dn O ky lo (arrOf st') k → Eqs O ky lo (arrOf st') k e → Q (none, k, e) st' s) : kasC (model prog w) A E (dL lo n m) Q st s := by
  unfold dL
  have one : ∀ (a : Array Keyed) (k : Nat), 1 ≤ k → Eqs O ky lo a k 0 := fun a k hk j x y => by rw [show j = lo + k - 1 by omega]
  refine rloop_wp (fun x r st' => ∃ e, r = (none, x, e) ∧ Bs κ P lo b st' ∧ e + 1 ≤ x ∧ Dn O ky lo (arrOf st') x ∧ Eqs O ky lo (arrOf st') x e) ⟨0, rfl, h, by omega, hd, one _ _ h1⟩ (fun x r st' hx1 hx2 hI => ?_) (fun r st' hI => ?_)
  · obtain ⟨e, rfl, h, he, hd, hq⟩ := hI
    have hsz := h.size
    dsimp only
    refine kasC_bind (ltAt_wp T hb h (by omega) (by omega) ?_)
    dsimp only
    cases c : O.blt (ky (kas_item (arrOf st') (lo + x))) (ky (kas_item (arrOf st') (lo + x - 1))) with
    | true =>
      rw [if_pos rfl]
      have hd' := hd.succ (by omega) (KeyOrd.kle_of_klt c)
      by_cases d : e > 0
      · rw [if_pos d]
        refine kasC_bind (rev_wp (kasC_pure ⟨rfl, 0, rfl, h.rev (by omega) (by omega), by omega, ?_, one _ _ (by omega)⟩))
        exact Dn.of (eqrev (by omega) hq) hd'
      · rw [if_neg d]
        exact kasC_pure ⟨rfl, 0, rfl, h, by omega, hd', one _ _ (by omega)⟩
    | false =>
      rw [if_neg (by simp)]
      refine kasC_bind (ltAt_wp T hb h (by omega) (by omega) ?_)
      dsimp only
      cases d : O.blt (ky (kas_item (arrOf st') (lo + x - 1))) (ky (kas_item (arrOf st') (lo + x))) with
      | true => rw [if_pos rfl]; exact kasC_pure ⟨rfl, q st' x e h hx1 (by omega) he hd hq⟩
      | false =>
        rw [if_neg (by simp)]
        have heq : ky (kas_item (arrOf st') (lo + x)) = ky (kas_item (arrOf st') (lo + x - 1)) := O.total _ _ c d
        refine kasC_pure ⟨rfl, e + 1, rfl, h, by omega, hd.succ (by omega) (by rw [heq]; exact KeyOrd.kle_refl _), fun k k1 k2 => ?_⟩
        rw [show lo + (x + 1) - 1 = lo + x by omega]
        by_cases z : k = lo + x
        · rw [z]
        · rw [hq k (by omega) (by omega), heq]
  · obtain ⟨e, rfl, h, he, hd, hq⟩ := hI
    rw [show max n m = m by omega] at hd hq he ⊢
    exact q st' m e h hn (Nat.le_refl _) he hd hq
theorem t3_wp (T : Tells prog w A κ s O ky Mem) (hb : ∀ x ∈ b.toList, Mem x) {st : SortSt} (h : Bs κ P lo b st) {n m : Nat} (hz : lo + m ≤ b.size) (h1 : 1 ≤ n) (hn : n ≤ m) (hd : Dn O ky lo (arrOf st) n) {Q : Option Nat → SortSt → Shared → Prop}
    (q : ∀ st' k, Bs κ P lo b st' → 1 ≤ k → k ≤ m → Up O ky lo (arrOf st') k → Q (some k) st' s) : kasC (model prog w) A E (t3 lo n m) Q st s := by
  unfold t3
  have hsz := h.size
  refine kasC_bind (rev_wp (kasC_bind (aL_wp T hb (h.rev (Nat.le_refl _) (by omega)) hz h1 hn (up_rev (by omega) hd) fun k k1 k2 ku _ => ?_)))
  exact kasC_pure (q _ k (h.rev (Nat.le_refl _) (by omega)) (by omega) k2 ku)
theorem dP_wp (T : Tells prog w A κ s O ky Mem) (hb : ∀ x ∈ b.toList, Mem x) {st : SortSt} (h : Bs κ P lo b st) {n m : Nat} (hz : lo + m ≤ b.size) (h1 : 1 ≤ n) (hn : n + 1 ≤ m) (hd : Dn O ky lo (arrOf st) (n + 1)) {Q : Option Nat → SortSt → Shared → Prop}
    (q : ∀ st' k, Bs κ P lo b st' → 1 ≤ k → k ≤ m → Up O ky lo (arrOf st') k → Q (some k) st' s) : kasC (model prog w) A E (dP lo n m) Q st s := by
  unfold dP
  refine kasC_bind (kasC_lift (wpAny_rule ?_))
  refine kasC_bind (dL_wp T hb h hz (by omega) hn hd fun st' k e h' k1 k2 ke kd kq => ?_)
  dsimp only
  have hsz := h'.size
  by_cases d : e > 0
  · rw [if_pos d]
    exact kasC_bind (rev_wp (t3_wp T hb (h'.rev (by omega) (by omega)) hz (by omega) k2 (Dn.of (eqrev (by omega) kq) kd) q))
  · rw [if_neg d]
    exact t3_wp T hb h' hz (by omega) k2 kd q
theorem cR_wp (T : Tells prog w A κ s O ky Mem) (hb : ∀ x ∈ b.toList, Mem x) {st : SortSt} (h : Bs κ P lo b st) {m : Nat} (hz : lo + m ≤ b.size) (h1 : 1 ≤ m) {Q : Option Nat → SortSt → Shared → Prop}
    (q : ∀ st' k, Bs κ P lo b st' → 1 ≤ k → k ≤ m → Up O ky lo (arrOf st') k → Q (some k) st' s) : kasC (model prog w) A E (countRun' lo m) Q st s := by
  rw [cR_eq]
  unfold cR
  have hsz := h.size
  refine kasC_bind (aL_wp T hb h hz (Nat.le_refl _) h1 (Up.one _) fun n n1 n2 nu nl => ?_)
  dsimp only
  by_cases e : (n == m) = true
  · rw [if_pos e]
    exact kasC_pure (q _ n h n1 n2 nu)
  · rw [if_neg e]
    have e' : n ≠ m := by simpa using e
    have hlt := nl (by omega)
    by_cases hn : n > 1
    · rw [if_pos hn]
      refine kasC_bind (ltAt_wp T hb h (by omega) (by omega) ?_)
      dsimp only
      cases c : O.blt (ky (kas_item (arrOf st) lo)) (ky (kas_item (arrOf st) (lo + n - 1))) with
      | true => rw [if_pos rfl]; exact kasC_pure (q _ n h n1 n2 nu)
      | false =>
        rw [if_neg (by simp)]
        have all : ∀ k, lo ≤ k → k < lo + n → ky (kas_item (arrOf st) k) = ky (kas_item (arrOf st) (lo + n - 1)) := fun k k1 k2 => by
          refine KeyOrd.kle_antisymm (nu k (lo + n - 1) k1 (by omega) (by omega)) (KeyOrd.kle_trans (show O.kle (ky (kas_item (arrOf st) (lo + n - 1))) (ky (kas_item (arrOf st) lo)) from c) (nu lo k (Nat.le_refl _) k1 k2))
        refine kasC_bind (rev_wp (dP_wp T hb (h.rev (Nat.le_refl _) (by omega)) hz n1 (by omega) (Dn.of (eqrev (by omega) all) (Dn.succ (fun i j hi hij hj => ?_) n1 (KeyOrd.kle_of_klt hlt))) q))
        rw [all i hi (by omega), all j (by omega) hj]
        exact KeyOrd.kle_refl _
    · rw [if_neg hn]
      have e1 : n = 1 := by omega
      subst e1
      exact dP_wp T hb h hz n1 (by omega) (Dn.succ (Dn.one _) n1 (KeyOrd.kle_of_klt hlt)) q
theorem pL_wp (T : Tells prog w A κ s O ky Mem) (hb : ∀ x ∈ b.toList, Mem x) {st : SortSt} (h : Bs κ P lo b st) {k : Nat} (hz : lo + k < b.size) (hu : Up O ky lo (arrOf st) k) {Q : Option Bool × Nat × Nat → SortSt → Shared → Prop}
    (q : ∀ l r, l ≤ k → (∀ i, lo ≤ i → i < lo + l → O.kle (ky (kas_item (arrOf st) i)) (ky (kas_item (arrOf st) (lo + k)))) → (∀ i, lo + l ≤ i → i < lo + k → O.klt (ky (kas_item (arrOf st) (lo + k))) (ky (kas_item (arrOf st) i))) → Q (none, l, r) st s) : kasC (model prog w) A E (pL lo k) Q st s := by
  unfold pL
  refine rloop_wp (fun x c st' => st = st' ∧ ∃ l r, c = (none, l, r) ∧ l ≤ r ∧ r ≤ k ∧ r - l ≤ k - x ∧ (∀ i, lo ≤ i → i < lo + l → O.kle (ky (kas_item (arrOf st) i)) (ky (kas_item (arrOf st) (lo + k)))) ∧ (∀ i, lo + r ≤ i → i < lo + k → O.klt (ky (kas_item (arrOf st) (lo + k))) (ky (kas_item (arrOf st) i))))
    ⟨rfl, 0, k, rfl, by omega, by omega, by omega, fun i a c => absurd a (by omega), fun i a c => absurd a (by omega)⟩ (fun x r st' hx1 hx2 hI => ?_) (fun r st' hI => ?_)
  · obtain ⟨rfl, l, r, rfl, lr, rk, rl, hlo, hhi⟩ := hI
    dsimp only
    by_cases c : l ≥ r
    · rw [if_pos c]
      have e : l = r := by omega
      subst e
      exact kasC_pure ⟨rfl, q l l rk hlo hhi⟩
    · rw [if_neg c]
      refine kasC_bind (ltAt_wp T hb h (by omega) (by omega) ?_)
      dsimp only
      cases d : O.blt (ky (kas_item (arrOf st) (lo + k))) (ky (kas_item (arrOf st) (lo + (l + r) / 2))) with
      | true =>
        rw [if_pos rfl]
        exact kasC_pure ⟨rfl, rfl, l, (l + r) / 2, rfl, by omega, by omega, by omega, hlo, fun i i1 i2 => KeyOrd.klt_of_klt_of_kle d (hu _ _ (by omega) i1 i2)⟩
      | false =>
        rw [if_neg (by simp)]
        exact kasC_pure ⟨rfl, rfl, (l + r) / 2 + 1, r, rfl, by omega, by omega, by omega, fun i i1 i2 => KeyOrd.kle_trans (hu i (lo + (l + r) / 2) i1 (by omega) (by omega)) d, hhi⟩
  · obtain ⟨rfl, l, r, rfl, lr, rk, rl, hlo, hhi⟩ := hI
    have e : l = r := by omega
    subst e
    exact q l l rk hlo hhi
theorem bS_wp (T : Tells prog w A κ s O ky Mem) (hb : ∀ x ∈ b.toList, Mem x) {st : SortSt} (h : Bs κ P lo b st) {n k : Nat} (hz : lo + n ≤ b.size) (h1 : 1 ≤ k) (hk : k ≤ n) (hu : Up O ky lo (arrOf st) k) {Q : Bool → SortSt → Shared → Prop}
    (q : ∀ st', Bs κ P lo b st' → Up O ky lo (arrOf st') n → Q true st' s) : kasC (model prog w) A E (binarySort' lo n k) Q st s := by
  rw [bS_eq]
  unfold bS
  refine kasC_bind (rloop_wp (fun x c st' => c = (none, ()) ∧ Bs κ P lo b st' ∧ Up O ky lo (arrOf st') x) ⟨rfl, h, by rw [show max k 1 = k by omega]; exact hu⟩ (fun x r st' hx1 hx2 hI => ?_) (fun r st' hI => ?_))
  · obtain ⟨rfl, h, hu⟩ := hI
    have hsz := h.size
    refine kasC_bind (pL_wp T hb h (by omega) hu fun l r hl hlo hhi => ?_)
    dsimp only
    rw [moveDown'_eq]
    refine kasC_bind (kasC_modify (kasC_pure ⟨rfl, rfl, h.bub (by omega) (by omega), fun i j hi hij hj => ?_⟩))
    show O.kle (ky (kas_item (bubble (arrOf st') (lo + x) (lo + x - (lo + l))) i)) (ky (kas_item (bubble (arrOf st') (lo + x) (lo + x - (lo + l))) j))
    rw [item_bub (by omega) (by omega), item_bub (by omega) (by omega), show lo + x - (lo + x - (lo + l)) = lo + l by omega]
    repeat' split
    all_goals first
      | (exfalso; omega)
      | exact KeyOrd.kle_refl _
      | exact hlo _ (by omega) (by omega)
      | exact KeyOrd.kle_of_klt (hhi _ (by omega) (by omega))
      | exact hu _ _ (by omega) (by omega) (by omega)
  · obtain ⟨rfl, h, hu⟩ := hI
    rw [show max (max k 1) n = n by omega] at hu
    exact kasC_pure (q _ h hu)
end
end MxTim
end
section
set_option Elab.async false
set_option linter.all false
set_option maxRecDepth 100000
set_option maxHeartbeats 4000000
namespace MxTim
open PySem PySem.W PyProof.Rows
def pwl (size pw : Nat) : StateT SortSt Sem (Option Unit × Unit) :=
  forIn [:size] ((none, ()) : Option Unit × Unit) fun _ _ => do
    let st ← get
    match (if (pendingOf st).size > 1 then (pendingOf st)[(pendingOf st).size - 2]? else none) with
    | some (_, _, older) =>
      if older ≤ pw then pure (.done (none, ())) else do
        let ok ← mAt ((pendingOf st).size - 2)
        if (!ok) = true then pure (.done (some (), ())) else pure (.yield (none, ()))
    | _ => pure (.done (none, ()))
def aft (size lo n : Nat) : StateT SortSt Sem (ForInStep (Option Unit × Nat)) := do
  let st ← get
  match (pendingOf st).back? with
  | some (s1, n1, _) => do
    let r ← pwl size (power' size (2 * s1 + n1) (2 * s1 + n1 + n1 + n) size)
    match r.1 with
    | some v => pure (.done (some v, lo))
    | none => do
      modify fun s => setPending s ((pendingOf s).modify ((pendingOf s).size - 1) fun (st, len, _) => (st, len, power' size (2 * s1 + n1) (2 * s1 + n1 + n1 + n) size))
      modify fun s => setPending s ((pendingOf s).push (lo, n, 0))
      pure (.yield (none, lo + n))
  | _ => do
    modify fun s => setPending s ((pendingOf s).push (lo, n, 0))
    pure (.yield (none, lo + n))
def stp (size mr lo : Nat) : StateT SortSt Sem (ForInStep (Option Unit × Nat)) :=
  if lo ≥ size then pure (.done (none, lo)) else do
    let f ← countRun' lo (size - lo)
    match f with
    | some n =>
      if n < mr then do
        rule "list.sort.binary-insertion"
        let ok ← binarySort' lo (min (size - lo) mr) n
        if (!ok) = true then pure (.done (some (), lo)) else aft size lo (min (size - lo) mr)
      else aft size lo n
    | _ => pure (.done (some (), lo))
def ix (p : Array (Nat × Nat × Nat)) : Nat := if (if p.size - 2 > 0 then p[p.size - 2 - 1]?.map (·.2.1) else none).any (· < (p[p.size - 2 + 1]?.elim 0 (·.2.1))) then p.size - 2 - 1 else p.size - 2
def mrg (size : Nat) : StateT SortSt Sem (Option Unit × Unit) :=
  forIn [:size] ((none, ()) : Option Unit × Unit) fun _ _ => do
    let st ← get
    if (pendingOf st).size ≤ 1 then pure (.done (none, ())) else do
      let ok ← mAt (ix (pendingOf st))
      if (!ok) = true then pure (.done (some (), ())) else pure (.yield (none, ()))
def sR : StateT SortSt Sem Unit := do
  let st ← get
  let r ← forIn [:(arrOf st).size] ((none, 0) : Option Unit × Nat) fun _ r => stp (arrOf st).size (minRun' (arrOf st).size (arrOf st).size 0) r.2
  match r.1 with
  | some v => pure v
  | none => do
    let r ← mrg (arrOf st).size
    match r.1 with
    | some v => pure v
    | none => pure ()
theorem sR_eq : sortRuns' = sR := by kernel_rfl
section
variable {O : KeyOrd} {ky : Keyed → O.α} {Mem : Keyed → Prop}
variable {prog : Program} {w : World} {A : Around} {E : Value → Shared → Prop} {κ : SortKind} {s : Shared} {a : Array Keyed}
theorem ix_two (p q : Nat × Nat × Nat) : ix #[p, q] = 0 := rfl
theorem mr_ok {N : Nat} (h2 : 2 ≤ N) (h : N < 128) : 1 ≤ minRun' N N 0 ∧ N ≤ 2 * minRun' N N 0 := by
  obtain ⟨f, rfl⟩ : ∃ f, N = f + 1 + 1 := ⟨N - 2, by omega⟩
  have e : minRun' (f + 1 + 1) (f + 1 + 1) 0 = if f + 1 + 1 < 64 then f + 1 + 1 + 0 else minRun' (f + 1) ((f + 1 + 1) / 2) (max 0 ((f + 1 + 1) % 2)) := minRun'_succ _ _ _
  have e2 : minRun' (f + 1) ((f + 1 + 1) / 2) (max 0 ((f + 1 + 1) % 2)) = (f + 1 + 1) / 2 + max 0 ((f + 1 + 1) % 2) := by rw [minRun'_succ, if_pos (by omega)]
  rw [e, e2]
  split <;> omega
theorem pwl_wp {size pw : Nat} {x : Nat × Nat × Nat} {st : SortSt} (hp : pendingOf st = #[x]) {Q : Option Unit × Unit → SortSt → Shared → Prop} (q : Q (none, ()) st s) : kasC (model prog w) A E (pwl size pw) Q st s := by
  unfold pwl
  refine rloop_wp (fun _ c st' => st = st' ∧ c = (none, ())) ⟨rfl, rfl⟩ (fun x c st' _ _ hI => ?_) (fun c st' hI => ?_)
  · obtain ⟨rfl, rfl⟩ := hI
    refine kasC_bind (kasC_get ?_)
    have e : (if (pendingOf st).size > 1 then (pendingOf st)[(pendingOf st).size - 2]? else none) = none := by rw [hp]; rfl
    rw [e]
    exact kasC_pure ⟨rfl, q⟩
  · obtain ⟨rfl, rfl⟩ := hI
    exact q
theorem aft_wp0 {size lo n : Nat} {b : Array Keyed} {st : SortSt} (h : Bs κ #[] lo b st) {Q : ForInStep (Option Unit × Nat) → SortSt → Shared → Prop} (q : ∀ st', arrOf st = arrOf st' → Bs κ #[(lo, n, 0)] lo b st' → Q (.yield (none, lo + n)) st' s) : kasC (model prog w) A E (aft size lo n) Q st s := by
  unfold aft
  refine kasC_bind (kasC_get ?_)
  have e : (pendingOf st).back? = none := by rw [h.p]; rfl
  rw [e]
  refine kasC_bind (kasC_modify (kasC_pure (q _ rfl ⟨h.k, h.f, ?_, h.pm, h.lw⟩)))
  show (pendingOf st).push (lo, n, 0) = _
  rw [h.p]
  rfl
theorem mod1 (x : Nat × Nat × Nat) (f : Nat × Nat × Nat → Nat × Nat × Nat) : (#[x] : Array _).modify ((#[x] : Array (Nat × Nat × Nat)).size - 1) f = #[f x] := by
  apply Array.ext
  · simp
  · intro i h1 h2
    have : i = 0 := by simpa using h2
    subst this
    simp [Array.getElem_modify]
theorem aft_wp1 {size lo n n1 : Nat} {b : Array Keyed} {st : SortSt} (h : Bs κ #[(0, n1, 0)] lo b st) {Q : ForInStep (Option Unit × Nat) → SortSt → Shared → Prop} (q : ∀ st' pw, arrOf st = arrOf st' → Bs κ #[(0, n1, pw), (lo, n, 0)] lo b st' → Q (.yield (none, lo + n)) st' s) : kasC (model prog w) A E (aft size lo n) Q st s := by
  unfold aft
  refine kasC_bind (kasC_get ?_)
  have e : (pendingOf st).back? = some (0, n1, 0) := by rw [h.p]; rfl
  rw [e]
  dsimp only
  refine kasC_bind (pwl_wp h.p ?_)
  dsimp only
  refine kasC_bind (kasC_modify (kasC_bind (kasC_modify (kasC_pure (q _ (power' size (2 * 0 + n1) (2 * 0 + n1 + n1 + n) size) rfl ⟨h.k, h.f, ?_, h.pm, h.lw⟩)))))
  show ((pendingOf st).modify ((pendingOf st).size - 1) _).push (lo, n, 0) = _
  rw [h.p, mod1]
  rfl
theorem stp_wp1 (T : Tells prog w A κ s O ky Mem) (hb : ∀ x ∈ a.toList, Mem x) {mr : Nat} {st : SortSt} (h : Bs κ #[] 0 a st) (h1 : 1 ≤ a.size) (hm : 1 ≤ mr) {Q : ForInStep (Option Unit × Nat) → SortSt → Shared → Prop}
    (q : ∀ st' n, 1 ≤ n → n ≤ a.size → (n = a.size ∨ mr ≤ n) → Bs κ #[(0, n, 0)] 0 a st' → Up O ky 0 (arrOf st') n → Q (.yield (none, n)) st' s) : kasC (model prog w) A E (stp a.size mr 0) Q st s := by
  unfold stp
  rw [if_neg (by omega)]
  refine kasC_bind (cR_wp T hb h (by omega) (by omega) fun st' k h' k1 k2 ku => ?_)
  dsimp only
  by_cases c : k < mr
  · rw [if_pos c]
    refine kasC_bind (kasC_lift (wpAny_rule ?_))
    refine kasC_bind (bS_wp T hb h' (n := min (a.size - 0) mr) (by omega) k1 (by omega) ku fun st2 h2 u2 => ?_)
    rw [if_neg (by simp)]
    refine aft_wp0 h2 fun st3 e3 h3 => ?_
    rw [Nat.zero_add]
    exact q st3 _ (by omega) (by omega) (by omega) h3 (by rw [← e3]; exact u2)
  · rw [if_neg c]
    refine aft_wp0 h' fun st3 e3 h3 => ?_
    rw [Nat.zero_add]
    exact q st3 _ (by omega) (by omega) (by omega) h3 (by rw [← e3]; exact ku)
theorem stp_wp2 (T : Tells prog w A κ s O ky Mem) (hb : ∀ x ∈ a.toList, Mem x) {mr n1 : Nat} {st : SortSt} (h : Bs κ #[(0, n1, 0)] 0 a st) (h1 : n1 < a.size) (hn : 1 ≤ n1) (hm : mr ≤ n1) (h2 : a.size ≤ 2 * mr) (hu : Up O ky 0 (arrOf st) n1) {Q : ForInStep (Option Unit × Nat) → SortSt → Shared → Prop}
    (q : ∀ st' pw, Bs κ #[(0, n1, pw), (n1, a.size - n1, 0)] 0 a st' → Up O ky 0 (arrOf st') n1 → Up O ky n1 (arrOf st') (a.size - n1) → Q (.yield (none, n1 + (a.size - n1))) st' s) : kasC (model prog w) A E (stp a.size mr n1) Q st s := by
  unfold stp
  rw [if_neg (by omega)]
  have hsz := h.size
  have h0 : Bs κ #[(0, n1, 0)] n1 (arrOf st) st := ⟨h.k, h.f, h.p, List.Perm.refl _, fun _ _ => rfl⟩
  have hb' : ∀ x ∈ (arrOf st).toList, Mem x := fun x hx => hb x (h.pm.mem_iff.mp hx)
  have up0 : ∀ {P : Array (Nat × Nat × Nat)} {st' : SortSt}, Bs κ P n1 (arrOf st) st' → Up O ky 0 (arrOf st') n1 := fun h' i j hi hij hj => by
    rw [h'.lw i (by omega), h'.lw j (by omega)]
    exact hu i j hi hij hj
  have toA : ∀ {P : Array (Nat × Nat × Nat)} {st' : SortSt}, Bs κ P n1 (arrOf st) st' → Bs κ P 0 a st' := fun h' => ⟨h'.k, h'.f, h'.p, h'.pm.trans h.pm, fun i hi => absurd hi (by omega)⟩
  refine kasC_bind (cR_wp T hb' h0 (by omega) (by omega) fun st' k h' k1 k2 ku => ?_)
  dsimp only
  by_cases c : k < mr
  · rw [if_pos c]
    refine kasC_bind (kasC_lift (wpAny_rule ?_))
    refine kasC_bind (bS_wp T hb' h' (n := min (a.size - n1) mr) (by omega) k1 (by omega) ku fun st2 h2 u2 => ?_)
    rw [if_neg (by simp)]
    refine aft_wp1 h2 fun st3 pw e3 h3 => ?_
    have e : min (a.size - n1) mr = a.size - n1 := by omega
    rw [e] at u2 h3 ⊢
    exact q st3 pw (toA h3) (up0 h3) (by rw [← e3]; exact u2)
  · rw [if_neg c]
    refine aft_wp1 h' fun st3 pw e3 h3 => ?_
    have e : k = a.size - n1 := by omega
    rw [e] at ku h3 ⊢
    exact q st3 pw (toA h3) (up0 h3) (by rw [← e3]; exact ku)
theorem Up.srt {b : Array Keyed} {n : Nat} (hn : b.size = n) (h : Up O ky 0 b n) : Srt O ky b.toList := by
  refine List.pairwise_iff_getElem.mpr fun i j hi hj hij => ?_
  have e : ∀ k, (h : k < b.size) → kas_item b k = b.toList[k]'(by simpa using h) := fun k h => by unfold kas_item; simp [Array.getD, h]
  have hj' : j < b.size := by simpa using hj
  rw [← e i (by omega), ← e j hj']
  exact h i j (by omega) (by omega) (by omega)
def Gd (O : KeyOrd) (ky : Keyed → O.α) (a : Array Keyed) (st : SortSt) : Prop := failedOf st = none ∧ (pendingOf st).size ≤ 1 ∧ (arrOf st).toList.Perm a.toList ∧ Srt O ky (arrOf st).toList
def Two (O : KeyOrd) (ky : Keyed → O.α) (κ : SortKind) (a : Array Keyed) (st : SortSt) : Prop := ∃ n1 n2 pw, n1 + n2 = a.size ∧ 1 ≤ n1 ∧ 1 ≤ n2 ∧ Bs κ #[(0, n1, pw), (n1, n2, 0)] 0 a st ∧ Up O ky 0 (arrOf st) n1 ∧ Up O ky n1 (arrOf st) n2
theorem two_wp (T : Tells prog w A κ s O ky Mem) (hb : ∀ x ∈ a.toList, Mem x) {st : SortSt} (h : Two O ky κ a st) {Q : Bool → SortSt → Shared → Prop} (q : ∀ st', Gd O ky a st' → Q true st' s) : kasC (model prog w) A E (mAt (ix (pendingOf st))) Q st s := by
  obtain ⟨n1, n2, pw, hn, p1, p2, h, u1, u2⟩ := h
  have hsz := h.size
  rw [h.p, ix_two]
  have est : st = SortSt.mk' κ (arrOf st) #[(0, n1, pw), (n1, n2, 0)] (gallopOf st) none := by
    have e : st = SortSt.mk' (kindOf st) (arrOf st) (pendingOf st) (gallopOf st) (failedOf st) := rfl
    rw [h.k, h.p, h.f] at e
    exact e
  have z := mAt_wp (E := E) T (a := arrOf st) (n1 := n1) (n2 := n2) (pw := pw) (z := 0) (g := gallopOf st) (by omega) p1 p2 (fun i hi => h.mem hb (by omega)) (fun i j hij hj => u1 i j (by omega) hij (by omega)) (fun i j hi hij hj => u2 i j hi hij hj) (Q := Q)
    (fun st' k1 k2 k3 k4 k5 => q st' ⟨k3, by rw [k2]; exact Nat.le_refl _, k4.trans h.pm, k5⟩)
  rw [← est] at z
  exact z
theorem mrg_wp (T : Tells prog w A κ s O ky Mem) (hb : ∀ x ∈ a.toList, Mem x) {N : Nat} (hN : 1 ≤ N) {st : SortSt} (h : Two O ky κ a st ∨ Gd O ky a st) {Q : Option Unit × Unit → SortSt → Shared → Prop} (q : ∀ st', Gd O ky a st' → Q (none, ()) st' s) : kasC (model prog w) A E (mrg N) Q st s := by
  unfold mrg
  refine rloop_wp (fun x c st' => c = (none, ()) ∧ ((x = 0 ∧ Two O ky κ a st') ∨ Gd O ky a st')) ⟨rfl, h.imp (fun z => ⟨rfl, z⟩) id⟩ (fun x c st' _ hx hI => ?_) (fun c st' hI => ?_)
  · obtain ⟨rfl, ⟨rfl, h⟩ | h⟩ := hI
    · refine kasC_bind (kasC_get ?_)
      have hp : ¬ (pendingOf st').size ≤ 1 := by
        obtain ⟨n1, n2, pw, _, _, _, h, _⟩ := h
        rw [h.p]
        exact Nat.lt_irrefl 1
      rw [if_neg hp]
      refine kasC_bind (two_wp T hb h fun st2 g => ?_)
      rw [if_neg (by simp)]
      exact kasC_pure ⟨rfl, rfl, .inr g⟩
    · refine kasC_bind (kasC_get ?_)
      rw [if_pos h.2.1]
      exact kasC_pure ⟨rfl, q _ h⟩
  · obtain ⟨rfl, ⟨h0, h⟩ | h⟩ := hI
    · omega
    · exact q _ h
theorem sR_wp (T : Tells prog w A κ s O ky Mem) (hb : ∀ x ∈ a.toList, Mem x) (h2 : 2 ≤ a.size) (h128 : a.size < 128) {g : Nat} {Q : Unit → SortSt → Shared → Prop}
    (q : ∀ st' : SortSt, failedOf st' = none → (arrOf st').toList.Perm a.toList → Srt O ky (arrOf st').toList → Q () st' s) : kasC (model prog w) A E sortRuns' Q (SortSt.mk' κ a #[] g none) s := by
  rw [sR_eq]
  unfold sR
  refine kasC_bind (kasC_get ?_)
  obtain ⟨mr1, mr2⟩ := mr_ok h2 h128
  show kasC _ _ _ (do
    let r ← forIn [:a.size] ((none, 0) : Option Unit × Nat) fun _ r => stp a.size (minRun' a.size a.size 0) r.2
    match r.1 with
    | some v => pure v
    | none => do
      let r ← mrg a.size
      match r.1 with
      | some v => pure v
      | none => pure ()) _ _ _
  generalize minRun' a.size a.size 0 = mr at mr1 mr2 ⊢
  refine kasC_bind (kasC_mono (Q := fun r st' s' => s = s' ∧ r.1 = none ∧ (Two O ky κ a st' ∨ Gd O ky a st')) (rloop_wp (fun x c st' => (x = 0 ∧ c = (none, 0) ∧ Bs κ #[] 0 a st') ∨
      (x = 1 ∧ ∃ n1, c = (none, n1) ∧ 1 ≤ n1 ∧ n1 ≤ a.size ∧ (n1 = a.size ∨ mr ≤ n1) ∧ Bs κ #[(0, n1, 0)] 0 a st' ∧ Up O ky 0 (arrOf st') n1) ∨
      (2 ≤ x ∧ c = (none, a.size) ∧ Two O ky κ a st')) (.inl ⟨rfl, rfl, rfl, rfl, rfl, List.Perm.refl _, fun _ _ => rfl⟩) (fun x c st' _ hx hI => ?_) (fun c st' hI => ?_)) (fun r st' s' hI => ?_))
  · rcases hI with ⟨rfl, rfl, h⟩ | ⟨rfl, n1, rfl, p1, p2, p3, h, hu⟩ | ⟨x2, rfl, h⟩
    · exact stp_wp1 T hb h (by omega) mr1 fun st2 n q1 q2 q3 q4 q5 => ⟨rfl, .inr (.inl ⟨rfl, n, rfl, q1, q2, q3, q4, q5⟩)⟩
    · by_cases c : n1 = a.size
      · unfold stp
        rw [if_pos (by show n1 ≥ a.size; omega)]
        refine kasC_pure ⟨rfl, rfl, rfl, .inr ⟨h.f, by rw [h.p]; exact Nat.le_refl _, h.pm, Up.srt (h.size.trans c.symm) hu⟩⟩
      · refine stp_wp2 T hb h (by omega) p1 (by omega) mr2 hu fun st2 pw q1 q2 q3 => ⟨rfl, .inr (.inr ⟨Nat.le_refl _, ?_, n1, a.size - n1, pw, by omega, p1, by omega, q1, q2, q3⟩)⟩
        rw [show n1 + (a.size - n1) = a.size by omega]
    · unfold stp
      rw [if_pos (Nat.le_refl _)]
      exact kasC_pure ⟨rfl, rfl, rfl, .inl h⟩
  · rcases hI with ⟨z, _⟩ | ⟨z, _⟩ | ⟨x2, rfl, h⟩
    · omega
    · omega
    · exact ⟨rfl, rfl, .inl h⟩
  · obtain ⟨rfl, e, h⟩ := hI
    obtain ⟨r1, r2⟩ := r
    cases e
    exact kasC_bind (mrg_wp T hb (by omega) h fun st2 g => kasC_pure (q st2 g.1 g.2.2.1 g.2.2.2))
end
end MxTim
end
section
set_option Elab.async false
set_option linter.all false
set_option maxRecDepth 100000
set_option maxHeartbeats 4000000
namespace L2
open PySem PySem.Spec PyProof.Rows

/-! ### the loop of a list comprehension with one clause -/
theorem compLoop_go {prog : Program} {w : World} {A : Around} {R : Result → Shared → Prop} {s : Shared} {elt target iter : Expr} {ifs : List Expr} {scope : Scope} {pos : Pos} {it acc : Value} {env : Env} (I : Nat → Shared → Prop)
    (turn : ∀ n s, I n s → wpAny (model prog w) A (pyNext it) (fun r s₁ => match r with
      | none => R (.ok .next) s₁
      | some v => wpAny (model prog w) A (letOwnedTupleGo target it v) (fun _ s₁' => wpAny (model prog w) A (assign target env v) (fun _ s₂ =>
          wpAny (model prog w) A (forIn ifs true fun c r => if r = true then do let ok ← isTrue c env (eval c env); pure (ForInStep.yield ok) else pure (ForInStep.yield r)) (fun ok s₃ =>
            if ok = true then wpAny (model prog w) A (eval elt env) (fun x s₄ =>
              wpAny (model prog w) A (call (.builtin "list.append") [acc, x]) (fun _ s₅ => ∃ m, m < n ∧ I m s₅) (fun _ _ => False) s₄) (fun _ _ => False) s₃
            else ∃ m, m < n ∧ I m s₃) (fun _ _ => False) s₂) (fun _ _ => False) s₁') (fun _ _ => False) s₁) (fun _ _ => False) s)
    (n : Nat) (h : I n s) : codeAny (model prog w) A (.compLoop (.ListComp elt [⟨target, iter, ifs, 0⟩] scope pos) 0 it acc env) R s := by
  refine codeAny_loop rfl I (fun n s hI => ?_) n h
  show wpAny _ A ((compTurn (.ListComp elt [⟨target, iter, ifs, 0⟩] scope pos) 0 it acc env).onRaise (fun x => do noteFrame x env; theTreesLotGoes x)) _ _ s
  refine wpAny_noted ?_
  rw [compTurn_list]
  refine wpAny_bind (wpAny_standAt (wpAny_bind (wpAny_mono (turn n s hI) (fun r s₁ h₁ => ?_) fun _ _ h' => h'.elim)))
  cases r with
  | none => exact wpAny_pure h₁
  | some v =>
    refine wpAny_bind (wpAny_mono h₁ (fun _ s₁' h₁' => ?_) fun _ _ h' => h'.elim)
    refine wpAny_bind (wpAny_mono h₁' (fun _ s₂ h₂ => wpAny_bind (wpAny_mono h₂ (fun ok s₃ h₃ => ?_) fun _ _ h' => h'.elim)) fun _ _ h' => h'.elim)
    cases ok with
    | false => exact wpAny_pure ⟨rfl, h₃⟩
    | true =>
      exact wpAny_bind (wpAny_bind (wpAny_mono h₃ (fun x s₄ h₄ => wpAny_bind (wpAny_mono h₄ (fun _ s₅ h₅ => wpAny_pure (wpAny_pure ⟨rfl, h₅⟩)) fun _ _ h' => h'.elim)) fun _ _ h' => h'.elim))

/-! ### the closure of a comprehension's block -/
def clGo (env : Env) : List (Str × NameKind) → List (Str × Addr) → List (Str × Addr)
  | [], cs => cs
  | (n, k) :: r, cs => clGo env r (if k == .free then (n, (env.cells.lookup n).getD 0) :: cs else cs)
def clOf (scope : Scope) (env : Env) : List (Str × Addr) := clGo env scope.names []
theorem forIn_clGo {env : Env} : ∀ (l : List (Str × NameKind)) (cs : List (Str × Addr)), (∀ y ∈ l, y.2 = .free → ∃ c, env.cells.lookup y.1 = some c) →
    (forIn l cs (fun x r => do
      if x.2 == NameKind.free then do let a ← cellOf env x.1; pure (ForInStep.yield ((x.1, a) :: r)) else pure (ForInStep.yield r)) : Sem (List (Str × Addr))) = pure (clGo env l cs)
  | [], cs, _ => rfl
  | (n, k) :: r, cs, h => by
    rw [List.forIn_cons]
    have ih := fun cs => forIn_clGo r cs fun y hy => h y (List.mem_cons_of_mem _ hy)
    cases hk : (k == NameKind.free) with
    | false =>
      simp only [hk, Bool.false_eq_true, if_false, clGo, pure_bind]
      exact ih cs
    | true =>
      obtain ⟨c, hc⟩ := h (n, k) List.mem_cons_self (by simpa using hk)
      have hc' : env.cells.lookup n = some c := hc
      have e : cellOf env n = pure c := by unfold cellOf; rw [hc']
      simp only [hk, if_true, clGo, e, pure_bind, hc', Option.getD_some]
      exact ih _
theorem closureFor_cl {scope : Scope} {env : Env} (h : ∀ y ∈ scope.names, y.2 = .free → ∃ c, env.cells.lookup y.1 = some c) : closureFor scope env = pure (clOf scope env) := by
  have q := forIn_clGo (env := env) scope.names [] h
  unfold closureFor clOf
  rw [← q]
  simp only [bind_pure]
end L2
end
section
set_option Elab.async false
set_option linter.all false
set_option maxRecDepth 100000
set_option maxHeartbeats 4000000
namespace L2
open PySem PySem.Spec PyProof.Rows
theorem clGo_lookup {env : Env} {x : Str} {c : Addr} : ∀ (l : List (Str × NameKind)) (cs : List (Str × Addr)), (∀ y ∈ l, y.2 = .free → ∃ c, env.cells.lookup y.1 = some c) →
    (∀ c, cs.lookup x = some c → env.cells.lookup x = some c) → (clGo env l cs).lookup x = some c → env.cells.lookup x = some c
  | [], cs, _, h2, h => h2 c h
  | (n, k) :: r, cs, h1, h2, h => by
    refine clGo_lookup r _ (fun y hy => h1 y (List.mem_cons_of_mem _ hy)) (fun c' hc' => ?_) h
    by_cases hk : (k == NameKind.free) = true
    · rw [if_pos hk] at hc'
      rw [List.lookup_cons] at hc'
      by_cases hx : (x == n) = true
      · rw [hx] at hc'
        have hx' : x = n := by simpa using hx
        subst hx'
        obtain ⟨c₁, e⟩ := h1 (x, k) List.mem_cons_self (by simpa using hk)
        have e' : env.cells.lookup x = some c₁ := e
        rw [e'] at hc' ⊢
        simpa using hc'
      · rw [Bool.not_eq_true] at hx
        rw [hx] at hc'
        exact h2 c' hc'
    · rw [if_neg hk] at hc'
      exact h2 c' hc'
theorem clGo_has {env : Env} {x : Str} : ∀ (l : List (Str × NameKind)) (cs : List (Str × Addr)), (((x, NameKind.free) ∈ l) ∨ ∃ c, cs.lookup x = some c) → ∃ c, (clGo env l cs).lookup x = some c
  | [], cs, h => by
    rcases h with h | h
    · cases h
    · exact h
  | (n, k) :: r, cs, h => by
    refine clGo_has r _ ?_
    by_cases hk : (k == NameKind.free) = true
    · rw [if_pos hk]
      by_cases hx : (x == n) = true
      · exact .inr ⟨_, by rw [List.lookup_cons, hx]⟩
      · rw [Bool.not_eq_true] at hx
        rcases h with h | h
        · rcases List.mem_cons.mp h with e | h
          · injection e with e1 e2
            subst e1
            simp at hx
          · exact .inl h
        · exact .inr (by obtain ⟨c, e⟩ := h; exact ⟨c, by rw [List.lookup_cons, hx]; exact e⟩)
    · rw [if_neg hk]
      rcases h with h | h
      · rcases List.mem_cons.mp h with e | h
        · injection e with e1 e2
          subst e2
          exact absurd rfl hk
        · exact .inl h
      · exact .inr h
theorem lookup_relabel {env : Env} {x : Str} : ∀ {names : List (Str × NameKind)} {k : NameKind}, names.lookup x = some k →
    (names.map fun (n, k) => if (k == NameKind.free && env.scope.kind == .function && env.kindOf n == some .cell) then (n, NameKind.cell) else (n, k)).lookup x =
      some (if (k == NameKind.free && env.scope.kind == .function && env.kindOf x == some .cell) then NameKind.cell else k)
  | [], _, h => by simp at h
  | (n, k') :: r, k, h => by
    have ih := @lookup_relabel env x r k
    show List.lookup x ((if (k' == NameKind.free && env.scope.kind == .function && env.kindOf n == some .cell) = true then (n, NameKind.cell) else (n, k')) :: _) = _
    cases hx : x == n with
    | true =>
      have hx' : x = n := by simpa using hx
      subst hx'
      simp only [List.lookup_cons, hx] at h
      cases h
      by_cases hc : (k' == NameKind.free && env.scope.kind == .function && env.kindOf x == some .cell) = true
      · simp only [hc, if_true, List.lookup_cons, hx]
      · rw [if_neg hc, if_neg hc]; simp only [List.lookup_cons, hx]
    | false =>
      simp only [List.lookup_cons, hx] at h
      by_cases hc : (k' == NameKind.free && env.scope.kind == .function && env.kindOf n == some .cell) = true
      · rw [if_pos hc]; simp only [List.lookup_cons, hx]; exact ih h
      · rw [if_neg hc]; simp only [List.lookup_cons, hx]; exact ih h
theorem lookup_relabel_none {env : Env} {x : Str} : ∀ {names : List (Str × NameKind)}, names.lookup x = none →
    (names.map fun (n, k) => if (k == NameKind.free && env.scope.kind == .function && env.kindOf n == some .cell) then (n, NameKind.cell) else (n, k)).lookup x = none
  | [], h => rfl
  | (n, k') :: r, h => by
    show List.lookup x ((if (k' == NameKind.free && env.scope.kind == .function && env.kindOf n == some .cell) = true then (n, NameKind.cell) else (n, k')) :: _) = _
    cases hx : x == n with
    | true => simp only [List.lookup_cons, hx] at h; cases h
    | false =>
      simp only [List.lookup_cons, hx] at h
      by_cases hc : (k' == NameKind.free && env.scope.kind == .function && env.kindOf n == some .cell) = true
      · rw [if_pos hc]; simp only [List.lookup_cons, hx]; exact lookup_relabel_none h
      · rw [if_neg hc]; simp only [List.lookup_cons, hx]; exact lookup_relabel_none h

/-! ### the block -/
/-- the context of a comprehension's block: the names N', its own dict at C, entered at s, H, walking the iterator whose records are fp -/
def cxB (X : Cx) (scope : Scope) (N' : List Str) (C : Addr) (s : Shared) (H : Hp) (fp : List Addr) : Cx :=
  { X with N := N', s₀ := s, H₀ := H, env := compEnvC scope (clOf scope X.env) C X.env, outer := X.stack, stack := X.stack, ex := fp, fn := fun _ => false, pn := [], xe := fun _ _ => False }
/-- the block's names at the entry: those that are captured -/
def capSt (cap : List (Option Nat)) (σ : St) : St := cap.map fun o => o.bind fun i => (σ[i]?).join
/-- what a block's table must be: no cells of its own; free names are cells (or free) outside; the captured names are such -/
structure BlkOk (X : Cx) (scope : Scope) (N' : List Str) (cap : List (Option Nat)) : Prop where
  kind : scope.kind = .function
  nocell : ∀ y ∈ scope.names, y.2 ≠ .cell
  loc : ∀ y ∈ scope.names, y.2 = .local → scope.names.lookup y.1 = some .local
  free : ∀ y ∈ scope.names, y.2 = .free → X.env.scope.names.lookup y.1 = some .cell ∨ X.env.scope.names.lookup y.1 = some .free
  capt : ∀ (j i : Nat), cap[j]? = some (some i) → ∃ x, N'[j]? = some x ∧ X.N[i]? = some x ∧ scope.names.lookup x = some .free
  len : cap.length = N'.length
section
variable {X : Cx} {scope : Scope} {N' : List Str} {cap : List (Option Nat)} {pins : List (Addr × Obj)} {σ : St} {H : Hp} {s : Shared}
theorem BlkOk.frees (B : BlkOk X scope N' cap) (ok : X.Ok) : ∀ y ∈ scope.names, y.2 = .free → ∃ c, X.env.cells.lookup y.1 = some c := fun y hy hf => ok.has y.1 (B.free y hy hf)
theorem BlkOk.up (B : BlkOk X scope N' cap) (ok : X.Ok) {x : Str} {c : Addr} (h : (clOf scope X.env).lookup x = some c) : X.env.cells.lookup x = some c :=
  clGo_lookup scope.names [] (B.frees ok) (fun _ z => by simp at z) h
/-- the block is entered -/
theorem blk_start (B : BlkOk X scope N' cap) (I : Inv X pins σ H s) {fp : List Addr} {h4 : Heap} {tk : Nat} (hf : ∀ b ∈ fp, FpOk X pins H b) (hlt : ∀ b ∈ fp, b < s.heap.objs.size)
    (hns : h4.Ns s.heap.objs.size (fun _ => none)) (hk : ∀ b o, s.heap.get? b = some o → h4.get? b = some o) :
    Inv (cxB X scope N' s.heap.objs.size s H fp) [] (capSt cap σ) H { s with heap := h4, toks := tk } := by
  have ok := I.ok
  have kindOfFree : ∀ x, scope.names.lookup x = some .free → (compEnvC scope (clOf scope X.env) s.heap.objs.size X.env).kindOf x = some .cell ∨ (compEnvC scope (clOf scope X.env) s.heap.objs.size X.env).kindOf x = some .free := fun x hx => by
    have q := lookup_relabel (env := X.env) hx
    by_cases hc : (NameKind.free == NameKind.free && X.env.scope.kind == .function && X.env.kindOf x == some .cell) = true
    · rw [if_pos hc] at q; exact .inl q
    · rw [if_neg hc] at q; exact .inr q
  refine ⟨⟨ok.mod, ?kind, ok.glob, ok.blt, Nat.le_refl _, ?inj, ?has, ?cab, ok.hd, ok.frames, .inl rfl, ?exf, I.bs, Nat.le_trans ok.bsz I.sz, ?noex, ?exfs, I.stack, I.stkFree⟩,
    rfl, I.bare, Un.kept hk, ⟨_, hns, ?loc⟩, ?cell, I.hok.fresh (Nat.le_refl _), ?freeC, ?pin, I.hok.kept hk, ?len⟩
  case kind => exact B.kind
  case inj => exact fun x y c h1 h2 => ok.inj x y c (B.up ok h1) (B.up ok h2)
  case has =>
    intro x hx
    cases hl : scope.names.lookup x with
    | none =>
      have q := lookup_relabel_none (env := X.env) hl
      exact absurd hx (by
        have q' : (compEnvC scope (clOf scope X.env) s.heap.objs.size X.env).kindOf x = none := q
        show ¬ ((compEnvC scope (clOf scope X.env) s.heap.objs.size X.env).kindOf x = some .cell ∨ (compEnvC scope (clOf scope X.env) s.heap.objs.size X.env).kindOf x = some .free)
        rw [q']; simp)
    | some k =>
      have q : (compEnvC scope (clOf scope X.env) s.heap.objs.size X.env).kindOf x = some (if (k == NameKind.free && X.env.scope.kind == .function && X.env.kindOf x == some .cell) then NameKind.cell else k) := lookup_relabel (env := X.env) hl
      have hm := PySem.mem_of_lookup hl
      by_cases hkf : k = .free
      · subst hkf
        exact clGo_has scope.names [] (.inl hm)
      · have hb : (k == NameKind.free) = false := by simpa using hkf
        have hx' : (compEnvC scope (clOf scope X.env) s.heap.objs.size X.env).kindOf x = some .cell ∨ (compEnvC scope (clOf scope X.env) s.heap.objs.size X.env).kindOf x = some .free := hx
        rw [q, hb] at hx'
        simp only [Bool.false_and, Bool.false_eq_true, if_false, Option.some.injEq] at hx'
        rcases hx' with z | z
        · exact absurd z (B.nocell _ hm)
        · exact absurd z hkf
  case cab => intro x c h; cases h
  case exf =>
    intro b hb
    refine ⟨Nat.ne_of_lt (hlt b hb), fun x c e => ?_⟩
    exact (hf b hb).2.2.2.2.1 x c (B.up ok e)
  case noex =>
    intro b o e hb
    rcases (hf b hb).2.2.2.1 with z | z
    · exact ok.noex b o e z
    · exact absurd (Nat.lt_of_lt_of_le (Heap.lt_size (ok.bs b o e).1) z) (Nat.lt_irrefl _)
  case exfs =>
    intro b hb hs
    rcases List.mem_cons.mp (I.stkSub b hs) with z | z
    · exact (hf b hb).2.1 z
    · exact (hf b hb).2.2.1 z
  case loc =>
    intro j x v h1 h2 h3
    have hj : ∃ i, cap[j]? = some (some i) ∧ (σ[i]?).join = some v := by
      unfold capSt at h2
      rw [List.getElem?_map] at h2
      cases hc : cap[j]? with
      | none => rw [hc] at h2; cases h2
      | some o =>
        rw [hc] at h2
        cases o with
        | none => cases h2
        | some i => exact ⟨i, rfl, by simpa using h2⟩
    obtain ⟨i, hc, hv⟩ := hj
    obtain ⟨x', e1, e2, e3⟩ := B.capt j i hc
    have ex : x' = x := by
      have e1' : N'[j]? = some x := h1
      rw [e1'] at e1; injection e1 with e1; exact e1.symm
    subst ex
    have hv' : σ[i]? = some (some v) := by
      cases q : σ[i]? with
      | none => rw [q] at hv; cases hv
      | some o => rw [q] at hv; cases o with
        | none => cases hv
        | some z => simp at hv; rw [hv]
    have hvis := B.free _ (PySem.mem_of_lookup e3) rfl
    obtain ⟨m, hn, hl⟩ := I.loc
    obtain ⟨u, r, l⟩ := hl i x' v e2 hv' (.inr hvis)
    refine ⟨u, r, ?_⟩
    obtain ⟨c, hcl⟩ := clGo_has (env := X.env) scope.names [] (.inl (PySem.mem_of_lookup e3))
    have hcu := B.up ok hcl
    rcases l with ⟨k, _⟩ | ⟨k, c', e, z⟩
    · exfalso
      have k' : X.env.scope.names.lookup x' = some .local := k
      rcases hvis with q | q
      · rw [k'] at q; cases q
      · rw [k'] at q; cases q
    · have ecc : c' = c := by rw [e] at hcu; injection hcu
      subst ecc
      exact .inr ⟨kindOfFree x' e3, c', hcl, by obtain ⟨o, ho, hd⟩ := z; exact ⟨o, hk _ _ ho, hd⟩⟩
  case cell =>
    intro x c e
    obtain ⟨v, o, ho, hd⟩ := I.cell x c (B.up ok e)
    exact ⟨v, o, hk _ _ ho, hd⟩
  case freeC => exact fun x c e => I.freeC x c (B.up ok e)
  case pin => intro p hp; cases hp
  case len => show (capSt cap σ).length = N'.length; unfold capSt; rw [List.length_map]; exact B.len
end
end L2
end
section
set_option Elab.async false
set_option linter.all false
set_option maxRecDepth 100000
set_option maxHeartbeats 4000000
namespace L2
open PySem PySem.Spec PyProof.Rows
/-- the tests of a clause -/
def PTs (X : Cx) (ifs : List Expr) (t : TT) : Prop :=
  ∀ (pins : List (Addr × Obj)) (s : Shared) (σ : St) (H : Hp) (Q : Bool → Hp → Prop), Inv X pins σ H s → t σ H Q →
    wpAny (model X.prog X.w) X.A (forIn ifs true fun c r => if r = true then do let ok ← isTrue c X.env (eval c X.env); pure (ForInStep.yield ok) else pure (ForInStep.yield r)) (TP X pins σ Q) X.xe s
def tYes : TT := fun _ H Q => Q true H
theorem pts_nil {X : Cx} : PTs X [] tYes := fun _ _ _ H _ I h => wpAny_tests_nil ⟨H, I, h⟩
theorem pts_one {X : Cx} {c : Expr} {t : TT} (h : PT X c t) : PTs X [c] t := fun pins s σ H Q I hw => wpAny_tests_one (h pins s σ H Q I hw)
/-- a target stores in own slots alone -/
def Kp (cap : List (Option Nat)) (σ σ2 : St) : Prop := ∀ (j i : Nat), cap[j]? = some (some i) → σ2[j]? = σ[j]?
def GE (cap : List (Option Nat)) (g : TG) : Prop := ∀ σ0 x σ H (Q : St → Hp → Prop), Kp cap σ0 σ → g x σ H Q → g x σ H fun σ2 H2 => Kp cap σ0 σ2 ∧ Q σ2 H2
def GEs (cap : List (Option Nat)) (g : TGs) : Prop := ∀ σ0 x σ H (Q : St → Hp → Prop), Kp cap σ0 σ → g x σ H Q → g x σ H fun σ2 H2 => Kp cap σ0 σ2 ∧ Q σ2 H2
theorem Kp.set {cap : List (Option Nat)} {k : Nat} {σ0 σ : St} {v : Option V} (h : cap[k]? = some none) (q : Kp cap σ0 σ) : Kp cap σ0 (σ.set k v) := fun j i hj => by
  rw [List.getElem?_set_ne (by rintro rfl; rw [h] at hj; cases hj)]
  exact q j i hj
theorem ge_name {cap : List (Option Nat)} {k : Nat} (h : cap[k]? = some none) : GE cap (gName k) := fun σ0 x σ H Q p q => ⟨p.set h, q⟩
theorem ges_nil {cap : List (Option Nat)} : GEs cap gNil := fun σ0 x σ H Q p q => ⟨q.1, p, q.2⟩
theorem ges_cons {cap : List (Option Nat)} {k : Nat} {u : TGs} (h : cap[k]? = some none) (hu : GEs cap u) : GEs cap (gCons (gName k) u) := fun σ0 x σ H Q p q => by
  obtain ⟨v, r, e, q⟩ := q
  exact ⟨v, r, e, hu σ0 r _ H Q (p.set h) q⟩
theorem ge_tup {cap : List (Option Nat)} {K : PySem.W.Frag} {n : Nat} {u : TGs} (hu : GEs cap u) : GE cap (gTup K n u) := fun σ0 x σ H Q p q => by
  obtain ⟨a, xs, e, h1, h2, q⟩ := q
  exact ⟨a, xs, e, h1, h2, hu σ0 xs σ H Q p q⟩
/-- what a comprehension over wi with the target g, the tests tt and the element te is to show: D is the new list, W an invariant by the turn, a measure, the list so far -/
def CompW (J : It) (g : TG) (tt : TT) (te : TE) (σ0 : St) (D : Addr) (F : Hp → Prop) (H1 : Hp) : Prop :=
  ∃ W : Nat → Nat → List V → Hp → Prop, (∃ m, W 0 m [] (upd H1 D (.lst []))) ∧ ∀ i m acc H, W i m acc H →
    (J.stop i H ∧ F H) ∨ (J.go i H ∧ ∀ x H', J.yld i H x H' → g x σ0 H' fun σ2 H2 => tt σ2 H2 fun b H3 => if b = true then te σ2 H3 fun v H4 => ∃ acc', H4 D = some (.lst acc') ∧ acc'.length < sizeLine ∧
      ∃ m', m' < m ∧ W (i + 1) m' (acc' ++ [v]) (upd H4 D (.lst (acc' ++ [v]))) else ∃ m', m' < m ∧ W (i + 1) m' acc H3)
def tComp (cap : List (Option Nat)) (wi : TI) (g : TG) (tt : TT) (te : TE) : TE := fun σ H Q => wi σ H fun J H1 => ∀ D, H1 D = none → CompW J g tt te (capSt cap σ) D (fun H' => Q (.ref D) H') H1
section
variable {X : Cx} {scope : Scope} {N' : List Str} {cap : List (Option Nat)} {elt tg iter : Expr} {ifs : List Expr} {pos : Pos} {wi : TI} {g : TG} {tt : TT} {te : TE}
/-- the block's run: from the iterator on -/
theorem comp_run {pins : List (Addr × Obj)} {σ : St} {H2 : Hp} {s2 : Shared} {it : Addr} {fp : List Addr} {tn : Nat → Heap → Prop} {J : It} {F : Hp → Prop} {RR : Value → Addr → Result → Shared → Prop} (hc : X.calm = true) (B : BlkOk X scope N' cap)
    (hge : GE cap g) (hg : ∀ C s H fp, PG (cxB X scope N' C s H fp) tg g) (ht : ∀ C s H fp, PTs (cxB X scope N' C s H fp) ifs tt) (he : ∀ C s H fp, PE (cxB X scope N' C s H fp) elt te)
    (I2 : Inv X pins σ H2 s2) (T : Turn X.prog X.w X.K tg J fp it tn) (st2 : tn 0 s2.heap) (f2 : ∀ b ∈ fp, FpOk X pins H2 b) (hF : CompW J g tt te (capSt cap σ) s2.heap.objs.size F H2)
    (hRR : ∀ C s' H' m, s2.heap.objs.size < C → Inv X pins σ H' s' → s'.heap.Ns C m → FpOk X pins H' C → F H' → RR (.ref s2.heap.objs.size) C (.ok .next) s') {E : Value → Shared → Prop} :
    wpAny (model X.prog X.w) X.A (newList []) (fun acc s₃ => wpAny (model X.prog X.w) X.A (newFunctionEnv scope X.env.globals (clOf scope X.env) [] X.env.qual none .none (some X.env)) (fun cenv s₄ =>
      codeAny (model X.prog X.w) X.A (.compStart (.ListComp elt [⟨tg, iter, ifs, 0⟩] scope pos) 0 (.ref it) acc { cenv with scope := relabel scope X.env }) (RR acc cenv.locals) s₄) E s₃) E s2 := by
  refine wpAny_newObj_type (wpAny_newFunctionEnv B.nocell (by intro y hy; cases hy) (fun h₁ hns₁ hsb₁ => ?_) B.kind)
  have I3 := I2.lnew (ys := []) (its := []) (t' := s2.toks) .nil (Nat.zero_le _)
  dsimp only at hns₁ hsb₁ ⊢
  have hC : (s2.heap.push { cls := .type "list", data := .seq ([] : List Value).toArray }).objs.size = s2.heap.objs.size + 1 := Heap.size_push ..
  generalize hD : s2.heap.objs.size = D at *
  have hk : ∀ b o, (s2.heap.push { cls := .type "list", data := .seq ([] : List Value).toArray }).get? b = some o → h₁.get? b = some o := fun b o e =>
    hsb₁.extBut b o (Nat.ne_of_lt (Heap.lt_size e)) (Heap.get?_push_of_some _ e)
  have flt : ∀ b ∈ fp, b < D := fun b hb => by
    obtain ⟨o, e, _⟩ := T.obj 0 _ st2 b hb
    rw [← hD]; exact Heap.lt_size e
  have f3 : ∀ b ∈ fp, FpOk X pins (upd H2 D (.lst [])) b := fun b hb => ⟨by rw [upd_ne (Nat.ne_of_lt (flt b hb))]; exact (f2 b hb).1, (f2 b hb).2⟩
  generalize hs3 : ({ s2 with heap := s2.heap.push { cls := .type "list", data := .seq ([] : List Value).toArray }, toks := s2.toks } : Shared) = s3 at I3
  have hs3h : s3.heap = s2.heap.push { cls := .type "list", data := .seq ([] : List Value).toArray } := by rw [← hs3]
  have hCs : s3.heap.objs.size = D + 1 := by rw [hs3h]; exact hC
  have IB := blk_start (tk := s2.toks) B I3 f3 (fun b hb => by rw [hCs]; exact Nat.lt_succ_of_lt (flt b hb)) (h4 := h₁) (by rw [hs3h]; exact hns₁) (by rw [hs3h]; exact hk)
  have e4 : ({ s3 with heap := h₁, toks := s2.toks } : Shared) = { s2 with heap := h₁, toks := s2.toks + ([] : List (Str × Value)).length } := by rw [← hs3]; rfl
  rw [e4] at IB
  rw [hC]
  rw [hCs] at IB
  obtain ⟨W, ⟨m0, w0⟩, turn⟩ := hF
  -- what stays true of the iterator's records
  have stat : ∀ {H' : Hp}, (∀ b ∈ fp, H' b = none) → ∀ b ∈ fp, FpOk (cxB X scope N' (D + 1) s3 (upd H2 D (.lst [])) fp) [] H' b := fun hn b hb =>
    ⟨hn b hb, Nat.ne_of_lt (Nat.lt_succ_of_lt (flt b hb)), fun z => (by
      rcases List.mem_cons.mp (I3.stkSub b z) with q | q
      · exact (f3 b hb).2.1 q
      · exact (f3 b hb).2.2.1 q), .inl hb, fun x c e => (f3 b hb).2.2.2.2.1 x c (B.up I3.ok e), fun p hp => absurd hp (by intro z; cases z)⟩
  have loop : ∀ s' : Shared, s' = { s2 with heap := h₁, toks := s2.toks + ([] : List (Str × Value)).length } → codeAny (model X.prog X.w) X.A (.compLoop (.ListComp elt [⟨tg, iter, ifs, 0⟩] scope pos) 0 (.ref it) (.ref D) (compEnvC scope (clOf scope X.env) (D + 1) X.env))
      (RR (.ref D) (D + 1)) s' := by
    rintro s' rfl
    refine compLoop_go (fun n s' => ∃ i acc H', Inv (cxB X scope N' (D + 1) s3 (upd H2 D (.lst [])) fp) [] (capSt cap σ) H' s' ∧ tn i s'.heap ∧ (∀ b ∈ fp, H' b = none) ∧ W i n acc H') ?_ m0
      ⟨0, [], _, IB, T.keep _ _ _ st2 (fun b hb o e => hk b o (Heap.get?_push_of_some _ e)), fun b hb => (f3 b hb).1, w0⟩
    rintro n s4 ⟨i, acc, H4, I4, st4, fr4, w4⟩
    rcases turn i n acc H4 w4 with ⟨stop, qn⟩ | ⟨go, step⟩
    · refine thn (T.done (cxB X scope N' (D + 1) s3 (upd H2 D (.lst [])) fp) rfl rfl rfl hc i [] s4 _ H4 (fun _ _ => False) I4 (stat fr4) st4 stop) fun r s5 ⟨hr, I5⟩ => ?_
      subst hr
      obtain ⟨m5, hn5, _⟩ := I5.loc
      have un : Un (frs X.stack) fp H2 H4 s2.heap s5.heap := by
        have u1 : Un (frs X.stack) fp H2 (upd H2 D (.lst [])) s2.heap s3.heap := by
          rw [hs3h]
          exact Un.laid (fun b u e => Heap.get?_push_of_some _ e) (by rw [hD]; exact Nat.le_refl _) (by rw [← hD]; exact I2.fresh)
        exact u1.trans I5.base
      have hI : Inv X pins σ H4 s5 := I2.call' (ch := fp) (I5.os.trans (by show s3.os = s2.os; rw [← hs3])) un I5.hok I5.bare fun b hb => ⟨(f2 b hb).2.2.2.1, (f2 b hb).2.1, (f2 b hb).2.2.2.2.1, (f2 b hb).2.2.2.2.2⟩
      exact hRR (D + 1) s5 H4 m5 (Nat.lt_succ_self _) hI hn5 (I2.fpOk (by rw [hD]; exact Nat.le_succ _) I5.free) qn
    · refine thn (T.item (cxB X scope N' (D + 1) s3 (upd H2 D (.lst [])) fp) rfl rfl rfl hc i [] s4 _ H4 (fun _ _ => False) I4 (stat fr4) st4 go) fun r s5 ⟨u, hr, h5⟩ => ?_
      subst hr
      refine thn h5 fun _ s6 ⟨x, H6, I6, r6, y6, st6, fr6⟩ => ?_
      have I6' := I6.pinned (stat fr6) (T.obj _ _ st6)
      have again : ∀ {s7 : Shared} {σ7 : St} {H7 : Hp} {acc7 : List V} {m7 : Nat}, Inv (cxB X scope N' (D + 1) s3 (upd H2 D (.lst [])) fp) ([] ++ pinsAt fp s6.heap) σ7 H7 s7 → Kp cap (capSt cap σ) σ7 → m7 < n → W (i + 1) m7 acc7 H7 →
          ∃ m, m < n ∧ ∃ i acc H', Inv (cxB X scope N' (D + 1) s3 (upd H2 D (.lst [])) fp) [] (capSt cap σ) H' s7 ∧ tn i s7.heap ∧ (∀ b ∈ fp, H' b = none) ∧ W i m acc H' := fun {s7 σ7 H7 acc7 m7} I7 hσ hm w7 => by
        refine ⟨m7, hm, i + 1, acc7, H7, I7.unpinned.weak ?_ (fun j v hj => (by
          have hj' := hj
          unfold capSt at hj'
          rw [List.getElem?_map] at hj'
          cases hc : cap[j]? with
          | none => rw [hc] at hj'; cases hj'
          | some o =>
            cases o with
            | none => rw [hc] at hj'; cases hj'
            | some z => rw [hσ j z hc]; exact hj)), T.keep _ _ _ st6 fun b hb o e => (I7.pin (b, o) (List.mem_append_right _ (List.mem_append_right _ (mem_pinsAt hb e)))).1, fun b hb => ?_, w7⟩
        · rw [I7.len, I4.len]
        · obtain ⟨o, e, d⟩ := T.obj _ _ st6 b hb
          exact (I7.pin (b, o) (List.mem_append_right _ (List.mem_append_right _ (mem_pinsAt hb e)))).2.1
      refine thn (hg _ _ _ _ _ s6 _ H6 x u _ I6' r6 (hge (capSt cap σ) x _ H6 _ (fun _ _ _ => rfl) (step x H6 y6))) fun _ s7 ⟨σ7, H7, I7, kp7, q7⟩ => ?_
      refine thn (ht _ _ _ _ _ s7 σ7 H7 _ I7 q7) fun b s8 ⟨H8, I8, q8⟩ => ?_
      cases b with
      | false =>
        rw [if_neg (by simp)] at q8 ⊢
        obtain ⟨m', hm, w8⟩ := q8
        exact again I8 kp7 hm w8
      | true =>
        rw [if_pos rfl] at q8 ⊢
        refine thn (he _ _ _ _ _ s8 σ7 H8 _ I8 q8) fun y s9 ⟨v, H9, I9, r9, acc', hD9, hz, m', hm, w9⟩ => ?_
        refine thn (mt_append _ s9 σ7 H9 (.ref D) [v] (.ref D) [y] (fun _ H' => H' = upd H9 D (.lst (acc' ++ [v]))) I9 rfl (.cons r9 .nil) ⟨D, acc', v, rfl, rfl, hD9, hz, rfl⟩) fun _ s10 ⟨_, H10, I10, _, e10⟩ => ?_
        subst e10
        exact again I10 kp7 hm w9
  exact codeAny_compStart_list (loop _ rfl) (T.self X.A 0 _ _ _ (T.keep _ _ _ st2 (fun b hb o e => hk b o (Heap.get?_push_of_some _ e))) (loop _ rfl))
end
end L2
end
section
set_option Elab.async false
set_option linter.all false
set_option maxRecDepth 100000
set_option maxHeartbeats 4000000
namespace L2
open PySem PySem.Spec PyProof.Rows
section
variable {X : Cx} {scope : Scope} {N' : List Str} {cap : List (Option Nat)} {elt tg iter : Expr} {ifs : List Expr} {pos : Pos} {wi : TI} {g : TG} {tt : TT} {te : TE}
/-- [elt for tg in iter if ..] -/
theorem pe_comp (hc : X.calm = true) (B : BlkOk X scope N' cap) (hi : PI X tg iter wi) (hge : GE cap g) (hg : ∀ C s H fp, PG (cxB X scope N' C s H fp) tg g) (ht : ∀ C s H fp, PTs (cxB X scope N' C s H fp) ifs tt)
    (he : ∀ C s H fp, PE (cxB X scope N' C s H fp) elt te) (hs : ∀ x, foldedSetIterable iter X.env x = pure x := by intro _; rfl) : PE X (.ListComp elt [⟨tg, iter, ifs, 0⟩] scope pos) (tComp cap wi g tt te) := by
  intro pins s σ H Q I h
  rw [eval_ListComp]
  refine wpAny_comprehension_free (use := none) rfl hs (closureFor_cl (B.frees I.ok)) B.kind B.loc (thn (hi pins s σ H _ I h) fun x s₁ h₁ => thn h₁ fun itv s₂ h₂ => ?_)
  obtain ⟨it, fp, tn, J, H2, e, I2, T, st2, f2, hF⟩ := h₂
  subst e
  refine comp_run (RR := fun acc C => compPost (model X.prog X.w) X.A X.xe none (EP X pins σ Q) acc C) hc B hge hg ht he I2 T st2 f2 (hF _ I2.fresh) fun C s' H' m hC I' hn fC q => ?_
  refine ⟨m, hn, fun h' hsb => ⟨.ref _, H', I'.turned (t' := s'.toks) (fun b o hb e => (hsb.2 b hb).trans e) fC.1 fC.2.1 fC.2.2.2.1 fC.2.2.2.2.1 fC.2.2.2.2.2, rfl, q⟩⟩
/-- name = [elt for tg in iter if ..] -/
theorem ps_setComp {i : Nat} {x : Str} {pos' spos : Pos} (hc : X.calm = true) (hN : X.N.Nodup) (hi' : X.N[i]? = some x) (hx : X.env.kindOf x = some .local) (B : BlkOk X scope N' cap) (hi : PI X tg iter wi) (hge : GE cap g) (hg : ∀ C s H fp, PG (cxB X scope N' C s H fp) tg g) (ht : ∀ C s H fp, PTs (cxB X scope N' C s H fp) ifs tt)
    (he : ∀ C s H fp, PE (cxB X scope N' C s H fp) elt te) (hs : ∀ x, foldedSetIterable iter X.env x = pure x := by intro _; rfl)
    (hsw : swapsWith (.ListComp elt [⟨tg, iter, ifs, 0⟩] scope pos) (some (.Name x pos')) spos.line X.env = pure true := by rfl) :
    PS X (.Assign [.Name x pos'] (.ListComp elt [⟨tg, iter, ifs, 0⟩] scope pos) spos) (tAsg (tComp cap wi g tt te) (gName i)) := by
  intro pins s σ H D I h
  rw [exec_Assign_Name_used _ _ _ _ hsw]
  refine wpAny_bind (wpAny_standAt (wpAny_bind ?_))
  show wpAny _ X.A (do let _ ← comprehension (.ListComp elt [⟨tg, iter, ifs, 0⟩] scope pos) scope X.env _ (newList []) false (eval iter X.env) (some (assign (.Name x pos') X.env))) _ _ s
  refine wpAny_bind (wpAny_mono (wpAny_comprehension_free (use := some (assign (.Name x pos') X.env)) (Q := fun _ s' => SP X pins D .next s') rfl hs (closureFor_cl (B.frees I.ok)) B.kind B.loc (thn (hi pins s σ H _ I h) fun x s₁ h₁ => thn h₁ fun itv s₂ h₂ => ?_))
    (fun _ s' hq => wpAny_pure (wpAny_pure hq)) fun _ _ e => e)
  obtain ⟨it, fp, tn, J, H2, e, I2, T, st2, f2, hF⟩ := h₂
  subst e
  refine comp_run (RR := fun acc C => compPost (model X.prog X.w) X.A X.xe (some (assign (.Name _ pos') X.env)) (fun _ s' => SP X pins D .next s') acc C) hc B hge hg ht he I2 T st2 f2 (hF _ I2.fresh) fun C s' H' m hC I' hn fC q => ?_
  show wpAny _ X.A (assign (.Name _ pos') X.env (.ref _)) _ _ _
  refine wpAny_assign_Name (store_ok2 (v := .ref _) I' hN hi' (.inl hx) rfl (fun s3 I3 hsb => ?_) (.inr hx))
  obtain ⟨a, sb, ha⟩ := hsb
  have hCa : C ≠ a := by
    rcases ha with rfl | ha
    · exact fC.2.1
    · exact Ne.symm (fC.2.2.2.2.1 _ a ha)
  refine ⟨m, hn.sameBut sb hCa, fun h' hsb' => ?_⟩
  exact ⟨_, H', I3.turned (t' := s3.toks) (fun b o hb e => (hsb'.2 b hb).trans e) fC.1 fC.2.1 fC.2.2.2.1 fC.2.2.2.2.1 fC.2.2.2.2.2, q⟩
end
end L2
end
section
set_option Elab.async false
set_option linter.all false
set_option maxRecDepth 100000
set_option maxHeartbeats 4000000
namespace Mx
open PySem PySem.W PySem.Spec PyProof.Rows L2 PySem.SeqAt
/-! ### texts -/
section
variable {X : Cx}
def rSlS : V → Option Int → Option Int → Hp → VK → Prop := fun x lo hi H Q => ∃ z, x = .str z ∧ z.length ≤ sizeLine ∧ Q (.str (PySem.Txt.slice z lo hi)) H
theorem sl_str : SlR X rSlS := by
  intro pins s σ H x v vl vu lo hi sl Q I rx hs pl pu h
  obtain ⟨z, rfl, hz, q⟩ := h
  obtain ⟨t, rfl⟩ := rx
  refine ⟨"str", _, PySem.F.slot_str_getitem.lookup, typeIs_str _ _ _, ?_⟩
  have fin : ∀ (t' : Tok) (k : Nat), EP X pins σ Q (.str (PySem.Txt.slice z lo hi) t') { s with toks := k } := fun t' k => ⟨.str _, H, I.tok k, ⟨t', rfl⟩, q⟩
  have hlen := Nat.le_trans (PySem.Txt.slice_le z lo hi) hz
  obtain ⟨o, ho, hc, hd⟩ := hs
  cases pl with
  | none =>
    cases pu with
    | none => exact wpAny_getItem_str_slice (l := none) (u := none) (st := none) ⟨o, ho, hc, hd⟩ rfl (post_val_or_str ⟨hlen, fin⟩)
    | int j tj => exact wpAny_getItem_str_slice (l := none) (u := some (j, tj)) (st := none) ⟨o, ho, hc, hd⟩ rfl (post_val_or_str ⟨hlen, fin⟩)
  | int i ti =>
    cases pu with
    | none => exact wpAny_getItem_str_slice (l := some (i, ti)) (u := none) (st := none) ⟨o, ho, hc, hd⟩ rfl (post_val_or_str ⟨hlen, fin⟩)
    | int j tj => exact wpAny_getItem_str_slice (l := some (i, ti)) (u := some (j, tj)) (st := none) ⟨o, ho, hc, hd⟩ rfl (post_val_or_str ⟨hlen, fin⟩)
theorem strsAre_of : ∀ {ys : List Str} {us : List Value}, Vals (ys.map V.str) us → StrsAre us ys
  | [], us, r => by cases r; exact .nil
  | y :: ys, us, r => by
    cases r with
    | cons r rr =>
      obtain ⟨t, rfl⟩ := r
      exact .cons y t (strsAre_of rr)
/-- sep.join(a list of texts) -/
def rJoin (K : PySem.W.Frag) : V → List V → Hp → VK → Prop := fun x xs H Q => ∃ z l ys, x = .str z ∧ xs = [.ref l] ∧ SqL K H l (ys.map V.str) ∧ (ys.map (·.length)).sum + ys.length * z.length ≤ 16777216 ∧ Q (.str (PySem.Txt.join z ys)) H
theorem mt_join : MtR X "str.join" (rJoin X.K) := by
  intro pins s σ H x xs v us Q I rx rv h
  obtain ⟨z, l, ys, rfl, rfl, hq, hz, q⟩ := h
  obtain ⟨t, rfl⟩ := rx
  obtain ⟨u, rfl, ru⟩ := rv.one
  cases ru
  obtain ⟨its, r, pl, _⟩ := I.list hq
  exact join_list pl.isList (strsAre_of (by simpa using r)) hz fun t' k => ⟨.str _, H, I.tok k, ⟨t', rfl⟩, q⟩
/-! ### f-strings of texts -/
def tFmt (te : TE) : TE := fun σ H Q => te σ H fun x H1 => ∃ z, x = .str z ∧ z.length ≤ sizeLine ∧ Q (.str z) H1
theorem pe_fmt {e : Expr} {te : TE} {pos : Pos} (he : PE X e te) : PE X (.FormattedValue e (-1) none pos) (tFmt te) := by
  intro pins s σ H Q I h
  refine FormattedValue_plain (thn (he pins s σ H _ I h) fun v s1 ⟨x, H1, I1, r1, z, hx, hz, q⟩ => ?_)
  subst hx
  obtain ⟨t, rfl⟩ := r1
  exact formatField_str (fun t' tk => ⟨.str z, H1, I1.tok tk, ⟨t', rfl⟩, q⟩) hz
/-- the parts, one after another, onto what is there -/
abbrev TJ := Str → L2.St → Hp → VK → Prop
def PJ (X : Cx) (es : List Expr) (t : TJ) : Prop :=
  ∀ (out : Str) (pins : List (Addr × Obj)) (s : Shared) (σ : L2.St) (H : Hp) (Q : VK), Inv X pins σ H s → t out σ H Q → wpAny (model X.prog X.w) X.A (joinParts out (evalEach es X.env)) (EP X pins σ Q) X.xe s
def jNil : TJ := fun out _ H Q => out.length ≤ sizeLine ∧ Q (.str out) H
def jCons (te : TE) (t : TJ) : TJ := fun out σ H Q => te σ H fun x H1 => ∃ z, x = .str z ∧ (out ++ z).length ≤ sizeLine ∧ t (out ++ z) σ H1 Q
theorem pj_nil : PJ X [] jNil := fun out pins s σ H Q I h => joinParts_nil ⟨.str out, H, I.tok _, ⟨_, rfl⟩, h.2⟩ h.1
theorem pj_cons {e : Expr} {es : List Expr} {te : TE} {t : TJ} (he : PE X e te) (ht : PJ X es t) (hs : evalEach (e :: es) X.env = eval e X.env :: evalEach es X.env := by rfl) : PJ X (e :: es) (jCons te t) := by
  intro out pins s σ H Q I h
  rw [hs]
  refine joinParts_cons (thn (he pins s σ H _ I h) fun v s1 ⟨x, H1, I1, r1, z, hx, hz, q⟩ => ?_)
  subst hx
  obtain ⟨t', rfl⟩ := r1
  exact ⟨hz, ht _ pins s1 σ H1 Q I1 q⟩
def tJoined (t : TJ) : TE := fun σ H Q => t Str.empty σ H Q
theorem pe_joined {e1 e2 : Expr} {es : List Expr} {t : TJ} {pos : Pos} (h : PJ X (e1 :: e2 :: es) t) : PE X (.JoinedStr (e1 :: e2 :: es) pos) (tJoined t) := by
  intro pins s σ H Q I hw
  exact JoinedStr_many (h Str.empty pins s σ H Q I hw)
/-! ### isinstance -/
def rIsi (K : PySem.W.Frag) : List V → Hp → VK → Prop := fun xs H Q => ∃ x T t b, xs = [x, .ty T] ∧ TyOf K H x t ∧ PySem.W.kitOne K t (.type T) = some b ∧ Q (.bl b) H
theorem call_isi : CallR X (.builtin "isinstance") (rIsi X.K) := by
  intro pins s σ H xs us Q I r h
  obtain ⟨x, T, t, b, rfl, ty, hk, q⟩ := h
  obtain ⟨u, v, rfl, r1, r2⟩ := r.two
  cases r2
  exact isinst_ok I r1 ty hk fun tk => ⟨.bl b, H, I.tok tk, rfl, q⟩
/-! ### == and != of data -/
theorem rc_data {P : Program} {w : World} {H : Hp} {s : Shared} (hok : HOk P w H s.heap) {n : Nat} {A : Around} {ds es : List D} {a b : Addr} {xs ys : List V} (hd : D.deps ds ≤ n) (hu : A.units + n + 1 < cLine) (h1 : H a = some (.tup xs)) (d1 : DVs H xs ds) (h2 : H b = some (.tup ys)) (d2 : DVs H ys es) :
    ∃ its its2 : List Value, s.heap.IsTuple a its.toArray ∧ s.heap.IsTuple b its2.toArray ∧ its.toArray.size = ds.length ∧ its2.toArray.size = es.length ∧ ∀ j (h1 : j < its.toArray.size) (h2 : j < its2.toArray.size), EqAt A.in1 s its.toArray[j] its2.toArray[j] (eAt ds es j) := by
  obtain ⟨its, r1, t1⟩ := tup_at hok h1
  obtain ⟨its2, r2, t2⟩ := tup_at hok h2
  have l1 : its.toArray.size = ds.length := by rw [List.size_toArray, ← r1.length, d1.length]
  have l2 : its2.toArray.size = es.length := by rw [List.size_toArray, ← r2.length, d2.length]
  refine ⟨its, its2, t1, t2, l1, l2, fun j g1 g2 => ?_⟩
  have h1' : j < xs.length := by rw [d1.length, ← l1]; exact g1
  have h2' : j < ys.length := by rw [d2.length, ← l2]; exact g2
  obtain ⟨d, k1, k2⟩ := d1.get (i := j) (x := xs[j]) (by simp [h1'])
  obtain ⟨e, m1, m2⟩ := d2.get (i := j) (x := ys[j]) (by simp [h2'])
  obtain ⟨u, hu1, ru⟩ := r1.get (i := j) (x := xs[j]) (by simp [h1'])
  obtain ⟨v, hv1, rv⟩ := r2.get (i := j) (x := ys[j]) (by simp [h2'])
  have eu : its.toArray[j] = u := by simp only [List.getElem_toArray]; exact (List.getElem?_eq_some_iff.mp hu1).2
  have ev : its2.toArray[j] = v := by simp only [List.getElem_toArray]; exact (List.getElem?_eq_some_iff.mp hv1).2
  rw [eu, ev, show eAt ds es j = D.eqb d e by unfold eAt; rw [k1, m1]]
  exact eq_data hok n d e xs[j] ys[j] u v A.in1 (Nat.le_trans (dep_mem k1) hd) (by show A.units + 1 + n < cLine; omega) k2 m2 ru rv
def rEqD : R2 := fun x y H Q => ∃ ds es, DV H x (.tup ds) ∧ DV H y (.tup es) ∧ D.deps ds ≤ 100 ∧ Q (.bl (decide (ds = es))) H
def rNeD : R2 := fun x y H Q => ∃ ds es, DV H x (.tup ds) ∧ DV H y (.tup es) ∧ D.deps ds ≤ 100 ∧ Q (.bl (!decide (ds = es))) H
theorem op_eqD (hu : X.A.units + 150 < cLine) : OpR X (compareOp .Eq) rEqD := by
  intro pins s σ H x y v u Q I rx ry h
  obtain ⟨ds, es, h1, h2, hd, q⟩ := h
  obtain ⟨a, xs, e1, f1, g1⟩ := h1.tup_inv
  obtain ⟨b, ys, e2, f2, g2⟩ := h2.tup_inv
  subst e1 e2
  cases rx
  cases ry
  obtain ⟨its, its2, t1, t2, l1, l2, ee⟩ := rc_data (A := X.A) I.hok hd (by omega) f1 g1 f2 g2
  refine eq_tupleAt t1 t2 (by omega) ee ?_
  have z := all_eqs ds es
  rw [← l1, ← l2, D.eqs_dec] at z
  rw [z]
  exact ⟨.bl _, H, I, rfl, q⟩
theorem op_neD (hu : X.A.units + 150 < cLine) : OpR X (compareOp .NotEq) rNeD := by
  intro pins s σ H x y v u Q I rx ry h
  obtain ⟨ds, es, h1, h2, hd, q⟩ := h
  obtain ⟨a, xs, e1, f1, g1⟩ := h1.tup_inv
  obtain ⟨b, ys, e2, f2, g2⟩ := h2.tup_inv
  subst e1 e2
  cases rx
  cases ry
  obtain ⟨its, its2, t1, t2, l1, l2, ee⟩ := rc_data (A := X.A) I.hok hd (by omega) f1 g1 f2 g2
  have key := RcNeAt.tuples (A := X.A) t1 t2 (by omega) ee X.prog X.w X.xe (EP X pins σ Q)
  have z := all_eqs ds es
  rw [← l1, ← l2, D.eqs_dec] at z
  rw [z] at key
  exact key ⟨.bl _, H, I, rfl, q⟩
end
end Mx
end
section
set_option Elab.async false
set_option linter.all false
set_option maxRecDepth 100000
set_option maxHeartbeats 4000000
namespace Mx
open PySem PySem.W PySem.Spec PyProof.Rows L2
/-- two lists, item by item: at each turn a new pair -/
def Itz (l1 l2 : Addr) : It where
  go := fun i H => ∃ xs ys x y, H l1 = some (.lst xs) ∧ H l2 = some (.lst ys) ∧ xs[i]? = some x ∧ ys[i]? = some y
  yld := fun i H v H' => ∃ p x y, v = .ref p ∧ H p = none ∧ H' = upd H p (.tup [x, y]) ∧ ∀ xs ys, H l1 = some (.lst xs) → H l2 = some (.lst ys) → xs[i]? = some x ∧ ys[i]? = some y
  stop := fun i H => ∃ xs ys, H l1 = some (.lst xs) ∧ H l2 = some (.lst ys) ∧ (xs.length ≤ i ∨ ys.length ≤ i)
structure ZipAp (z TI TO i1 i2 : Addr) : Prop where
  TIz : TI ≠ z
  TOz : TO ≠ z
  i1z : i1 ≠ z
  i2z : i2 ≠ z
  TITO : TI ≠ TO
  TIi1 : TI ≠ i1
  TIi2 : TI ≠ i2
  TOi1 : TO ≠ i1
  TOi2 : TO ≠ i2
  i12 : i1 ≠ i2
def zTn (z TI TO i1 i2 l1 l2 : Addr) (i : Nat) (h : Heap) : Prop := IsZip h z TI TO .none ∧ IsPair h TI (.ref i1) (.ref i2) ∧ (∃ a b, IsPair h TO a b) ∧ h.IsListIter i1 l1 i ∧ h.IsListIter i2 l2 i
theorem turn_zip {P : Program} {w : World} {K : PySem.W.Frag} {es : List Expr} {k : Nat} {tp : Pos} {z TI TO i1 i2 l1 l2 : Addr} (ap : ZipAp z TI TO i1 i2) :
    Turn P w K (.Tuple es k tp) (Itz l1 l2) [z, TI, TO, i1, i2] z (zTn z TI TO i1 i2 l1 l2) where
  mem := by simp
  obj := fun i h st b hb => by
    obtain ⟨s1, s2, ⟨a, b', s3⟩, s4, s5⟩ := st
    simp only [List.mem_cons, List.not_mem_nil, or_false] at hb
    rcases hb with rfl | rfl | rfl | rfl | rfl
    · exact ⟨_, s1, fun v q => by cases q⟩
    · exact ⟨_, s2, fun v q => by cases q⟩
    · exact ⟨_, s3, fun v q => by cases q⟩
    · obtain ⟨o, e, c, d⟩ := s4; exact ⟨o, e, fun v q => by rw [d] at q; cases q⟩
    · obtain ⟨o, e, c, d⟩ := s5; exact ⟨o, e, fun v q => by rw [d] at q; cases q⟩
  keep := fun i h h' st kk => by
    obtain ⟨s1, s2, ⟨a, b', s3⟩, s4, s5⟩ := st
    exact ⟨kk z (by simp) _ s1, kk TI (by simp) _ s2, ⟨a, b', kk TO (by simp) _ s3⟩, s4.at fun o e => kk i1 (by simp) o e, s5.at fun o e => kk i2 (by simp) o e⟩
  item := by
    intro X hP hw hK hc i pins s σ H E I hf st hg
    subst hP hw hK
    obtain ⟨xs, ys, x, y, hl1, hl2, hx, hy⟩ := hg
    obtain ⟨s1, s2, ⟨a, b', s3⟩, s4, s5⟩ := st
    obtain ⟨its1, r1, p1, _⟩ := I.list (.inl (.inl hl1))
    obtain ⟨its2, r2, p2, _⟩ := I.list (.inl (.inl hl2))
    obtain ⟨u1, hu1, ru1⟩ := r1.get hx
    obtain ⟨u2, hu2, ru2⟩ := r2.get hy
    have ne : ∀ {l : Addr} {zs : List V}, H l = some (.lst zs) → ∀ b ∈ [z, TI, TO, i1, i2], l ≠ b := fun {l zs} hl b hb e => by
      subst e
      rw [(hf l hb).1] at hl
      cases hl
    have D : ZipApart z TI TO i1 i2 l1 l2 := ⟨ap.TIz, ap.TOz, ap.i1z, ap.i2z, ap.TITO, ap.TIi1, ap.TIi2, ap.TOi1, ap.TOi2, ap.i12, ne hl1 z (by simp), ne hl1 TO (by simp), ne hl1 i1 (by simp), ne hl1 i2 (by simp), ne hl2 z (by simp), ne hl2 TO (by simp), ne hl2 i1 (by simp), ne hl2 i2 (by simp)⟩
    refine wpAny_pyNext_zip_item D s1 s2 s3 s4 s5 p1.isList p2.isList (by simpa using hu1) (by simpa using hu2) fun h' a1 a2 a3 a4 a5 a6 a7 => ⟨_, rfl, ?_⟩
    refine wpAny_letOwnedTupleGo_zip (s := { s with heap := h' }) a1 fun h2 b1 b2 => ?_
    have hTz : s.heap.objs.size ≠ z := fun e => by
      have := Heap.lt_size s1
      rw [← e] at this
      exact Nat.lt_irrefl _ this
    have hTI2 : IsPair h2 TI (.ref i1) (.ref i2) := (b2.2 TI ap.TIz).trans (a7 TI _ ap.TIz ap.TITO ap.TIi1 ap.TIi2 s2)
    have hP2 : h2.get? s.heap.objs.size = some { cls := .type "tuple", data := .seq #[u1, u2] } := (b2.2 _ hTz).trans a5
    have kk : ∀ b o, b ∉ [z, TI, TO, i1, i2] → s.heap.get? b = some o → h2.get? b = some o := fun b o hb e => by
      simp only [List.mem_cons, List.not_mem_nil, or_false, not_or] at hb
      exact (b2.2 b hb.1).trans (a7 b o hb.1 hb.2.2.1 hb.2.2.2.1 hb.2.2.2.2 e)
    have lt : ∀ {b : Addr} {o : Obj}, s.heap.get? b = some o → b ≠ s.heap.objs.size := fun e => Nat.ne_of_lt (Heap.lt_size e)
    have nfp : ∀ b u, H b = some u → b ∉ [z, TI, TO, i1, i2] := fun b u e hb => by rw [(hf b hb).1] at e; cases e
    have hTn : H s.heap.objs.size = none := I.fresh
    have I2 : Inv X pins σ (upd H s.heap.objs.size (.tup [x, y])) { s with heap := h2, toks := s.toks } := by
      refine I.step (g' := s.gens) (d' := s.drawn) (ch := [z, TI, TO, i1, i2]) (fun b hb => ⟨(hf b hb).2.2.2.1, (hf b hb).2.1, (hf b hb).2.2.2.2.1, (hf b hb).2.2.2.2.2⟩) (fun b o _ _ hb e _ => kk b o hb e) (fun b o _ _ hb e _ => ⟨o.slots, kk b o hb e⟩)
        (fun b o hb e n => by rw [upd_ne (lt e)]; exact n) (fun b o hb e => ⟨o, kk b o hb e⟩) (fun b zs e => by rw [upd_ne (ne_of_none e hTn)]; exact e) (fun b o u e => by rw [upd_ne (ne_of_none e hTn)]; exact e)
        (fun b ps e => ⟨#[], by rw [upd_ne (ne_of_none e hTn), e]; simp⟩) (fun m hm => ?_) (fun b u e => ?_) I.bare
      · obtain ⟨o, es', ep, ho, rr⟩ := hm
        exact ⟨o, es', ep, kk _ o (fun hb => (hf _ hb).2.1 rfl) ho, rr⟩
      · by_cases hb : b = s.heap.objs.size
        · subst hb
          rw [upd_same] at e
          cases e
          exact ⟨by show 2 ≤ sizeLine; decide, [u1, u2], .cons ru1 (.cons ru2 .nil), _, hP2, rfl, 0, rfl⟩
        · rw [upd_ne hb] at e
          refine (I.hok b u e).stay (fun c v hc q => kk c v ?_ q) (fun c q => by rw [upd_ne (ne_of_none q hTn)]; exact q) fun c zs q => by rw [upd_ne (ne_of_none q hTn)]; exact q
          rcases hc with rfl | hc
          · exact nfp c u e
          · exact nfp c _ hc
    refine ⟨.ref s.heap.objs.size, _, I2, rfl, ⟨s.heap.objs.size, x, y, rfl, hTn, rfl, fun xs' ys' q1 q2 => ?_⟩, ⟨b1, hTI2, ⟨u1, u2, (b2.2 TO ap.TOz).trans a2⟩, a3.at fun o e => (b2.2 i1 ap.i1z).trans e, a4.at fun o e => (b2.2 i2 ap.i2z).trans e⟩, fun b hb => ?_⟩
    · rw [hl1] at q1; cases q1
      rw [hl2] at q2; cases q2
      exact ⟨hx, hy⟩
    · rw [upd_ne (fun e => ?_)]
      · exact (hf b hb).1
      · have q : ∃ o, s.heap.get? b = some o := by
          simp only [List.mem_cons, List.not_mem_nil, or_false] at hb
          rcases hb with rfl | rfl | rfl | rfl | rfl
          · exact ⟨_, s1⟩
          · exact ⟨_, s2⟩
          · exact ⟨_, s3⟩
          · obtain ⟨o, e, _⟩ := s4; exact ⟨o, e⟩
          · obtain ⟨o, e, _⟩ := s5; exact ⟨o, e⟩
        obtain ⟨o, q⟩ := q
        exact lt q e
  done := by
    intro X hP hw hK hc i pins s σ H E I hf st hg
    subst hP hw hK
    obtain ⟨xs, ys, hl1, hl2, hend⟩ := hg
    obtain ⟨s1, s2, ⟨a, b', s3⟩, s4, s5⟩ := st
    obtain ⟨its1, r1, p1, _⟩ := I.list (.inl (.inl hl1))
    obtain ⟨its2, r2, p2, _⟩ := I.list (.inl (.inl hl2))
    have ne : ∀ {l : Addr} {zs : List V}, H l = some (.lst zs) → ∀ b ∈ [z, TI, TO, i1, i2], l ≠ b := fun {l zs} hl b hb e => by
      subst e
      rw [(hf l hb).1] at hl
      cases hl
    have D : ZipApart z TI TO i1 i2 l1 l2 := ⟨ap.TIz, ap.TOz, ap.i1z, ap.i2z, ap.TITO, ap.TIi1, ap.TIi2, ap.TOi1, ap.TOi2, ap.i12, ne hl1 z (by simp), ne hl1 TO (by simp), ne hl1 i1 (by simp), ne hl1 i2 (by simp), ne hl2 z (by simp), ne hl2 TO (by simp), ne hl2 i1 (by simp), ne hl2 i2 (by simp)⟩
    have e1 := r1.length
    have e2 := r2.length
    refine wpAny_pyNext_zip_end (I.ok.hd hc) D s1 s2 s3 s4 s5 p1.isList p2.isList (by simp; omega) fun h' kk => ⟨rfl, ?_⟩
    have nfp : ∀ b u, H b = some u → b ∉ [z, TI, TO, i1, i2] := fun b u e hb => by rw [(hf b hb).1] at e; cases e
    have kk' : ∀ b o, b ∉ [z, TI, TO, i1, i2] → s.heap.get? b = some o → h'.get? b = some o := fun b o hb e => by
      simp only [List.mem_cons, List.not_mem_nil, or_false, not_or] at hb
      exact kk b o hb.1 hb.2.2.1 hb.2.2.2.1 hb.2.2.2.2 e
    have kTI : ∀ b ∈ [z, TI, TO, i1, i2], ∀ o, b = TI → s.heap.get? b = some o → h'.get? b = some o := fun b _ o e q => by subst e; exact kk b o ap.TIz ap.TITO ap.TIi1 ap.TIi2 q
    refine I.step (g' := s.gens) (d' := s.drawn) (t' := s.toks) (h' := h') (ch := [z, TI, TO, i1, i2]) (fun b hb => ⟨(hf b hb).2.2.2.1, (hf b hb).2.1, (hf b hb).2.2.2.2.1, (hf b hb).2.2.2.2.2⟩) (fun b o _ _ hb e _ => kk' b o hb e) (fun b o _ _ hb e _ => ⟨o.slots, kk' b o hb e⟩)
      (fun b o hb e n => n) (fun b o hb e => ⟨o, kk' b o hb e⟩) (fun b zs e => e) (fun b o u e => e) (fun b ps e => ⟨#[], by rw [e]; simp⟩) (fun m hm => ?_) (fun b u e => ?_) I.bare
    · obtain ⟨o, es', ep, ho, rr⟩ := hm
      exact ⟨o, es', ep, kk' _ o (fun hb => (hf _ hb).2.1 rfl) ho, rr⟩
    · refine (I.hok b u e).stay (fun c v hc q => kk' c v ?_ q) (fun c q => q) fun c zs q => q
      rcases hc with rfl | hc
      · exact nfp c u e
      · exact nfp c _ hc
  self := fun _ _ _ _ _ st h => wpAny_pyIter_zip st.1 h
def iZip (ta : TA) : TI := fun σ H R => ta σ H fun vs H1 => ∃ l1 l2 xs ys, vs = [.ref l1, .ref l2] ∧ H1 l1 = some (.lst xs) ∧ H1 l2 = some (.lst ys) ∧ R (Itz l1 l2) H1
theorem pi_zip {X : Cx} {es : List Expr} {k : Nat} {tp : Pos} {a b : Expr} {ta : TA} {p pos : Pos} (hg : Gl X "zip") (hm : X.mg "zip" = none) (ha : PA X [a, b] ta) (hs : starEach [a, b] X.env = [(false, eval a X.env), (false, eval b X.env)] := by rfl) (hs2 : starEach [b] X.env = [(false, eval b X.env)] := by rfl) :
    PI X (.Tuple es k tp) (.Call (.Name "zip" p) [a, b] [] pos) (iZip ta) := by
  intro pins s σ H R I h
  refine Call_ (ld_blt I hg hm boot_zip (PyProof.Rows.callWith_type1 (thn (ha pos pins s σ H _ I h) fun us s1 ⟨vs, H1, I1, r1, q1⟩ => ?_) (by rw [hs, hs2]) (by rw [hs2]; rfl)))
  obtain ⟨l1, l2, xs, ys, e, e1, e2, q⟩ := q1
  subst e
  obtain ⟨u, v, rfl, ru, rv⟩ := r1.two
  cases ru
  cases rv
  obtain ⟨its1, _, p1, _⟩ := I1.list (.inl (.inl e1))
  obtain ⟨its2, _, p2, _⟩ := I1.list (.inl (.inl e2))
  refine call_zip_2 p1.isList p2.isList fun h' g1 g2 g3 g4 g5 g6 kk => ?_
  refine wpAny_pyIter_zip (s := { s1 with heap := h' }) g1 ?_
  have I2 : Inv X pins σ H1 { s1 with heap := h' } := I1.kept (t' := s1.toks) kk
  refine ⟨s1.heap.objs.size + 4, [s1.heap.objs.size + 4, s1.heap.objs.size + 2, s1.heap.objs.size + 3, s1.heap.objs.size, s1.heap.objs.size + 1], _, _, H1, rfl, I2, turn_zip (l1 := l1) (l2 := l2) ⟨?_, ?_, ?_, ?_, ?_, ?_, ?_, ?_, ?_, ?_⟩, ⟨g1, g2, ⟨_, _, g3⟩, g4, g5⟩, fun b hb => ?_, q⟩
  iterate 10 (first | (apply Nat.ne_of_lt; omega) | (apply Nat.ne_of_gt; omega))
  have hge : s1.heap.objs.size ≤ b := by
    simp only [List.mem_cons, List.not_mem_nil, or_false] at hb
    rcases hb with h | h | h | h | h <;> (rw [h]; first | exact Nat.le_add_right _ _ | exact Nat.le_refl _)
  exact I1.fpOk hge (I1.hok.fresh hge)
end Mx
end
section
set_option Elab.async false
set_option linter.all false
set_option maxRecDepth 100000
set_option maxHeartbeats 4000000
namespace Mx
open PySem PySem.W PySem.Spec PyProof.Rows L2
theorem same_new {H : Hp} {p : Addr} (h : H p = none) (o : HO) : Same H (upd H p o) := fun b u q => by rw [upd_ne (ne_of_none q h)]; exact q
theorem same_tups {H H' : Hp} (h : Same H H') : Tups H H' := fun a xs q => h a _ q
/-- what stood ahead stays when a younger list changes -/
theorem same_upd {H1 H : Hp} {D : Addr} {o : HO} (h : Same H1 H) (hD : H1 D = none) : Same H1 (upd H D o) := fun b u q => by rw [upd_ne (ne_of_none q hD)]; exact h b u q
theorem tups_upd {H : Hp} {D : Addr} {xs ys : List V} (hD : H D = some (.lst xs)) : Tups H (upd H D (.lst ys)) := fun b zs q => by
  by_cases e : b = D
  · subst e; rw [hD] at q; cases q
  · rw [upd_ne e]; exact q
theorem at0 {α : Type} {x : α} {r : List α} : atI (x :: r) 0 = some x := atI_nat (j := 0) rfl
theorem at1 {α : Type} {x y : α} {r : List α} : atI (x :: y :: r) 1 = some y := atI_nat (j := 1) rfl
theorem at2 {α : Type} {x y z : α} {r : List α} : atI (x :: y :: z :: r) 2 = some z := atI_nat (j := 2) rfl
theorem ite_f {b : Bool} {A B : Prop} (h : b = false) (x : B) : if b = true then A else B := by rw [h]; exact iteF x
theorem ite_t {b : Bool} {A B : Prop} (h : b = true) (x : A) : if b = true then A else B := by rw [h]; exact iteT x
def blkB (names on : List (Str × NameKind)) (N' Nn : List Str) (cap : List (Option Nat)) : Bool :=
  names.all (fun y => y.2 != .cell && (y.2 != .local || names.lookup y.1 == some .local) && (y.2 != .free || (on.lookup y.1 == some .cell || on.lookup y.1 == some .free))) &&
  (cap.length == N'.length) && (List.range cap.length).all (fun j => match cap[j]? with
    | some (some i) => (match N'[j]? with
      | some x => Nn[i]? == some x && names.lookup x == some .free
      | none => false)
    | _ => true)
theorem blk_of {X : Cx} {scope : Scope} {N' : List Str} {cap : List (Option Nat)} (on : List (Str × NameKind)) (Nn : List Str) (h : X.env.scope.names = on) (hN : X.N = Nn) (hk : scope.kind = .function) (hb : blkB scope.names on N' Nn cap = true) : BlkOk X scope N' cap := by
  unfold blkB at hb
  rw [Bool.and_eq_true, Bool.and_eq_true] at hb
  obtain ⟨⟨h1, h2⟩, h3⟩ := hb
  rw [List.all_eq_true] at h1 h3
  refine ⟨hk, fun y hy e => ?_, fun y hy e => ?_, fun y hy e => ?_, fun j i hj => ?_, by simpa using h2⟩
  · have := h1 y hy
    rw [e] at this
    simp at this
  · have := h1 y hy
    rw [e] at this
    simp at this
    exact this
  · have := h1 y hy
    rw [e] at this
    simp at this
    rw [h]
    exact this
  · have hlt : j < cap.length := by
      have := (List.getElem?_eq_some_iff.mp hj).1
      exact this
    have := h3 j (List.mem_range.mpr hlt)
    rw [hj] at this
    simp only at this
    cases hx : N'[j]? with
    | none => rw [hx] at this; cases this
    | some x =>
      rw [hx] at this
      simp only [Bool.and_eq_true] at this
      refine ⟨x, rfl, ?_, ?_⟩
      · rw [hN]; exact eq_of_beq this.1
      · exact eq_of_beq this.2
section
variable {K : PySem.W.Frag} {g : TG} {tt : TT} {te : TE} {σ0 : L2.St} {D : Addr} {F : Hp → Prop} {H1 : Hp}
/-- a comprehension that makes data, in n turns: the heap grows, at each turn the list has one more item or none; E i: what it holds behind i turns -/
theorem comp_inv {J : It} {n : Nat} (hD : H1 D = none) (E : Nat → List Mx.D) (hE : E 0 = []) (hn : n < sizeLine) (go : ∀ i H, i < n → Same H1 H → J.go i H) (stop : ∀ H, Same H1 H → J.stop n H)
    (hs : ∀ i x H H', i < n → Same H1 H → J.yld i H x H' → Same H H' ∧ ∀ (N : V → Hp → Prop) (M : Hp → Prop), (∀ v H4 e, Same H' H4 → DV H4 v e → E (i + 1) = E i ++ [e] → N v H4) → (∀ H3, Same H' H3 → E (i + 1) = E i → M H3) →
      g x σ0 H' fun σ2 H2 => tt σ2 H2 fun b H3 => if b = true then te σ2 H3 N else M H3)
    (hd : ∀ H acc, Same H1 H → H D = some (.lst acc) → DVs H acc (E n) → F H) : CompW J g tt te σ0 D F H1 := by
  refine ⟨fun i m acc H => m = n - i ∧ i ≤ n ∧ Same H1 H ∧ H D = some (.lst acc) ∧ DVs H acc (E i) ∧ acc.length ≤ i, ⟨n, by simp, Nat.zero_le _, same_new hD _, upd_same, by rw [hE]; exact DVs.nil, Nat.le_refl _⟩, ?_⟩
  rintro i m acc H ⟨rfl, hi, hS, hDa, hdv, hla⟩
  by_cases hlt : i < n
  · refine .inr ⟨go i H hlt hS, fun x H' y => ?_⟩
    obtain ⟨s1, st⟩ := hs i x H H' hlt hS y
    refine st _ _ (fun v H4 e s4 he e4 => ?_) (fun H3 s3 e3 => ?_)
    · have s14 := s1.trans s4
      have hD4 := s14 _ _ hDa
      refine ⟨acc, hD4, by omega, n - (i + 1), by omega, rfl, hlt, same_upd (hS.trans s14) hD, upd_same, ?_, by simp; omega⟩
      rw [e4]
      exact (DVs.append (hdv.mono (same_tups s14)) (DVs.cons he DVs.nil)).mono (tups_upd hD4)
    · have s13 := s1.trans s3
      exact ⟨n - (i + 1), by omega, rfl, hlt, hS.trans s13, s13 _ _ hDa, by rw [e3]; exact hdv.mono (same_tups s13), by omega⟩
  · have e : i = n := by omega
    subst e
    exact .inl ⟨stop H hS, hd H acc hS hDa hdv⟩
theorem comp_tup {a : Addr} {xs : List V} (ha : H1 a = some (.tup xs)) (hD : H1 D = none) (E : Nat → List Mx.D) (hE : E 0 = []) (hn : xs.length < sizeLine)
    (hs : ∀ i x H, xs[i]? = some x → Same H1 H → ∀ (N : V → Hp → Prop) (M : Hp → Prop), (∀ v H4 e, Same H H4 → DV H4 v e → E (i + 1) = E i ++ [e] → N v H4) → (∀ H3, Same H H3 → E (i + 1) = E i → M H3) →
      g x σ0 H fun σ2 H2 => tt σ2 H2 fun b H3 => if b = true then te σ2 H3 N else M H3)
    (hd : ∀ H acc, Same H1 H → H D = some (.lst acc) → DVs H acc (E xs.length) → F H) : CompW (Itt K a) g tt te σ0 D F H1 :=
  comp_inv hD E hE hn (fun i H hi s => ⟨xs, xs[i], SqT.of (s _ _ ha), by simp [hi]⟩) (fun H s => ⟨xs, SqT.of (s _ _ ha), Nat.le_refl _⟩)
    (fun i x H H' hi s y => by
      obtain ⟨rfl, y⟩ := y
      exact ⟨Same.refl _, hs i x _ (y xs (SqT.of (s _ _ ha))) s⟩) hd
theorem comp_list {a : Addr} {xs : List V} (ha : H1 a = some (.lst xs)) (hD : H1 D = none) (E : Nat → List Mx.D) (hE : E 0 = []) (hn : xs.length < sizeLine)
    (hs : ∀ i x H, xs[i]? = some x → Same H1 H → ∀ (N : V → Hp → Prop) (M : Hp → Prop), (∀ v H4 e, Same H H4 → DV H4 v e → E (i + 1) = E i ++ [e] → N v H4) → (∀ H3, Same H H3 → E (i + 1) = E i → M H3) →
      g x σ0 H fun σ2 H2 => tt σ2 H2 fun b H3 => if b = true then te σ2 H3 N else M H3)
    (hd : ∀ H acc, Same H1 H → H D = some (.lst acc) → DVs H acc (E xs.length) → F H) : CompW (Itl K a) g tt te σ0 D F H1 :=
  comp_inv hD E hE hn (fun i H hi s => ⟨xs, xs[i], SqL.of (s _ _ ha), by simp [hi]⟩) (fun H s => ⟨xs, SqL.of (s _ _ ha), Nat.le_refl _⟩)
    (fun i x H H' hi s y => by
      obtain ⟨rfl, y⟩ := y
      exact ⟨Same.refl _, hs i x _ (y xs (SqL.of (s _ _ ha))) s⟩) hd
theorem comp_range {lo : Int} {n : Nat} (hD : H1 D = none) (E : Nat → List Mx.D) (hE : E 0 = []) (hn : n < sizeLine)
    (hs : ∀ i H, i < n → Same H1 H → ∀ (N : V → Hp → Prop) (M : Hp → Prop), (∀ v H4 e, Same H H4 → DV H4 v e → E (i + 1) = E i ++ [e] → N v H4) → (∀ H3, Same H H3 → E (i + 1) = E i → M H3) →
      g (.int (lo + i)) σ0 H fun σ2 H2 => tt σ2 H2 fun b H3 => if b = true then te σ2 H3 N else M H3)
    (hd : ∀ H acc, Same H1 H → H D = some (.lst acc) → DVs H acc (E n) → F H) : CompW (Itr lo n) g tt te σ0 D F H1 :=
  comp_inv hD E hE hn (fun i H hi s => hi) (fun H s => Nat.le_refl _)
    (fun i x H H' hi s y => by
      obtain ⟨rfl, rfl⟩ := y
      exact ⟨Same.refl _, hs i _ hi s⟩) hd
theorem comp_zip {l1 l2 : Addr} {xs ys : List V} (h1 : H1 l1 = some (.lst xs)) (h2 : H1 l2 = some (.lst ys)) (hl : xs.length = ys.length) (hD : H1 D = none) (E : Nat → List Mx.D) (hE : E 0 = []) (hn : xs.length < sizeLine)
    (hs : ∀ i p x y H, xs[i]? = some x → ys[i]? = some y → Same H1 H → H p = some (.tup [x, y]) → ∀ (N : V → Hp → Prop) (M : Hp → Prop), (∀ v H4 e, Same H H4 → DV H4 v e → E (i + 1) = E i ++ [e] → N v H4) → (∀ H3, Same H H3 → E (i + 1) = E i → M H3) →
      g (.ref p) σ0 H fun σ2 H2 => tt σ2 H2 fun b H3 => if b = true then te σ2 H3 N else M H3)
    (hd : ∀ H acc, Same H1 H → H D = some (.lst acc) → DVs H acc (E xs.length) → F H) : CompW (Itz l1 l2) g tt te σ0 D F H1 :=
  comp_inv hD E hE hn (fun i H hi s => ⟨xs, ys, xs[i], ys[i]'(by omega), s _ _ h1, s _ _ h2, by simp [hi], by simp⟩) (fun H s => ⟨xs, ys, s _ _ h1, s _ _ h2, .inl (Nat.le_refl _)⟩)
    (fun i v H H' hi s yy => by
      obtain ⟨p, x, y, rfl, hp, rfl, q⟩ := yy
      obtain ⟨q1, q2⟩ := q xs ys (s _ _ h1) (s _ _ h2)
      exact ⟨same_new hp _, hs i p x y _ q1 q2 (s.trans (same_new hp _)) upd_same⟩) hd
end
end Mx
end
section
set_option Elab.async false
set_option linter.all false
set_option maxRecDepth 100000
set_option maxHeartbeats 4000000
/-! expressions that make data: what they give, wherever the heap has grown to -/
namespace Mx
open PySem PySem.W PySem.Spec PyProof.Rows L2
/-- the expression gives a datum for which p holds; nothing that stood is changed -/
def DatP (te : TE) (σ : L2.St) (H : Hp) (p : D → Prop) : Prop := ∀ H1 Q, Same H H1 → (∀ v d H2, Same H1 H2 → DV H2 v d → p d → Q v H2) → te σ H1 Q
def DatsP (ta : TA) (σ : L2.St) (H : Hp) (p : List D → Prop) : Prop := ∀ H1 Q, Same H H1 → (∀ vs ds H2, Same H1 H2 → DVs H2 vs ds → p ds → Q vs H2) → ta σ H1 Q
/-- the expression gives a list of data -/
def LDatP (te : TE) (σ : L2.St) (H : Hp) (p : List D → Prop) : Prop := ∀ H1 Q, Same H H1 → (∀ l vs ds H2, Same H1 H2 → H2 l = some (.lst vs) → DVs H2 vs ds → p ds → Q (.ref l) H2) → te σ H1 Q
section
variable {te tb : TE} {ta : TA} {σ : L2.St} {H H' : Hp} {p p' : D → Prop} {P P' : List D → Prop} {K : PySem.W.Frag}
theorem DatP.mono (h : DatP te σ H p) (s : Same H H') : DatP te σ H' p := fun H1 Q s1 q => h H1 Q (s.trans s1) q
theorem LDatP.mono (h : LDatP te σ H P) (s : Same H H') : LDatP te σ H' P := fun H1 Q s1 q => h H1 Q (s.trans s1) q
theorem DatP.imp (h : DatP te σ H p) (i : ∀ d, p d → p' d) : DatP te σ H p' := fun H1 Q s1 q => h H1 Q s1 fun v d H2 s2 hd hp => q v d H2 s2 hd (i d hp)
theorem DatsP.imp (h : DatsP ta σ H P) (i : ∀ d, P d → P' d) : DatsP ta σ H P' := fun H1 Q s1 q => h H1 Q s1 fun v d H2 s2 hd hp => q v d H2 s2 hd (i d hp)
theorem LDatP.imp (h : LDatP te σ H P) (i : ∀ d, P d → P' d) : LDatP te σ H P' := fun H1 Q s1 q => h H1 Q s1 fun l v d H2 s2 hl hd hp => q l v d H2 s2 hl hd (i d hp)
theorem dat_var {i : Nat} {v : V} {d : D} (hv : σ[i]? = some (some v)) (hd : DV H v d) (hp : p d) : DatP (tVar i) σ H p := fun H1 Q s q => ⟨v, hv, q v d H1 (Same.refl _) (hd.mono (same_tups s)) hp⟩
theorem ldat_var {i : Nat} {l : Addr} {vs : List V} {ds : List D} (hv : σ[i]? = some (some (.ref l))) (hl : H l = some (.lst vs)) (hd : DVs H vs ds) (hp : P ds) : LDatP (tVar i) σ H P := fun H1 Q s q => ⟨_, hv, q l vs ds H1 (Same.refl _) (s _ _ hl) (hd.mono (same_tups s)) hp⟩
theorem dat_str {x : Str} (hp : p (.str x)) : DatP (tC (.str x)) σ H p := fun H1 Q s q => q _ _ H1 (Same.refl _) DV.str hp
theorem dat_int {x : Int} (hp : p (.int x)) : DatP (tC (.int x)) σ H p := fun H1 Q s q => q _ _ H1 (Same.refl _) DV.int hp
theorem dats_nil (hp : P []) : DatsP tNil σ H P := fun H1 Q s q => q _ _ H1 (Same.refl _) DVs.nil hp
theorem dats_cons (h : DatP te σ H p) (t : DatsP ta σ H P) (i : ∀ d ds, p d → P ds → P' (d :: ds)) : DatsP (tCons te ta) σ H P' := fun H1 Q s q =>
  h H1 _ s fun v d H2 s2 hd hp => t H2 _ (s.trans s2) fun vs ds H3 s3 hds hps => q _ _ H3 (s2.trans s3) (DVs.cons (hd.mono (same_tups s3)) hds) (i d ds hp hps)
theorem dat_tup (h : DatsP ta σ H P) (hl : ∀ ds, P ds → ds.length ≤ sizeLine) (i : ∀ ds, P ds → p (.tup ds)) : DatP (tTup ta) σ H p := fun H1 Q s q =>
  h H1 _ s fun vs ds H2 s2 hd hp => ⟨by rw [hd.length]; exact hl ds hp, fun a ha => q _ _ _ (s2.trans (same_new ha _)) (DV.tup upd_same (hd.mono (same_tups (same_new ha _)))) (i ds hp)⟩
theorem ldat_lst (h : DatsP ta σ H P) (hl : ∀ ds, P ds → ds.length ≤ sizeLine) : LDatP (tLst ta) σ H P := fun H1 Q s q =>
  h H1 _ s fun vs ds H2 s2 hd hp => ⟨by rw [hd.length]; exact hl ds hp, fun a ha => q a vs ds _ (s2.trans (same_new ha _)) upd_same (hd.mono (same_tups (same_new ha _))) hp⟩
theorem dat_ix {i : Nat} {k : Int} {l : Addr} {vs : List V} {v : V} {d : D} (hv : σ[i]? = some (some (.ref l))) (hl : H l = some (.lst vs)) (hk : atI vs k = some v) (hd : DV H v d) (hp : p d) : DatP (tOp (rIxL K) (tVar i) (tC (.int k))) σ H p := fun H1 Q s q =>
  ⟨_, hv, l, vs, k, v, rfl, rfl, SqL.of (s _ _ hl), hk, q v d H1 (Same.refl _) (hd.mono (same_tups s)) hp⟩
theorem ldat_cat (ha : LDatP te σ H P) (hb : LDatP tb σ H P') {P2 : List D → Prop} (hl : ∀ a b, P a → P' b → a.length + b.length ≤ sizeLine) (i : ∀ a b, P a → P' b → P2 (a ++ b)) : LDatP (tOp rCat te tb) σ H P2 := fun H1 Q s q =>
  ha H1 _ s fun l vs ds H2 s2 hl2 hd2 hp2 => hb H2 _ (s.trans s2) fun m ws es H3 s3 hl3 hd3 hp3 => ⟨l, m, vs, ws, rfl, rfl, s3 _ _ hl2, hl3, by rw [hd2.length, hd3.length]; exact hl _ _ hp2 hp3, fun a ha =>
    q a _ _ _ ((s2.trans s3).trans (same_new ha _)) upd_same ((DVs.append (hd2.mono (same_tups s3)) hd3).mono (same_tups (same_new ha _))) (i _ _ hp2 hp3)⟩
/-- tuple(a list) -/
theorem dat_tuple (h : LDatP te σ H P) (i : ∀ ds, P ds → p (.tup ds)) : DatP (tCB (fun xs H Q => ∃ p ys, xs = [.ref p] ∧ ((SqL K H p ys ∧ ∀ l, H l = none → Q (.ref l) (upd H l (.tup ys))) ∨ (SqT K H p ys ∧ Q (.ref p) H))) (tCons te tNil)) σ H p := fun H1 Q s q =>
  h H1 _ s fun l vs ds H2 s2 hl hd hp => ⟨l, vs, rfl, .inl ⟨SqL.of hl, fun a ha => q _ _ _ (s2.trans (same_new ha _)) (DV.tup upd_same (hd.mono (same_tups (same_new ha _)))) (i ds hp)⟩⟩
/-- what sorted asks of data -/
def CanSort (ds : List D) : Prop := ds.length < 64 ∧ D.deps ds ≤ 100 ∧ (∃ b, ∀ d ∈ ds, Firsts b d) ∧ ∀ d ∈ ds, ∀ e ∈ ds, D.like d e
theorem ldat_sortedL (h : LDatP te σ H P) (hc : ∀ ds, P ds → CanSort ds) (i : ∀ ds es, P ds → SortedOf ds es → P' es) : LDatP (tCB (rSorted K) (tCons te tNil)) σ H P' := fun H1 Q s q =>
  h H1 _ s fun l vs ds H2 s2 hl hd hp => by
    obtain ⟨c1, c2, ⟨b, c3⟩, c4⟩ := hc ds hp
    refine ⟨l, vs, ds, b, rfl, .inl (SqL.of hl), hd, by rw [hd.length]; exact c1, c2, c3, c4, fun m zs es hm hz hs => ?_⟩
    exact q m zs es _ (s2.trans (same_new hm _)) upd_same (hz.mono (same_tups (same_new hm _))) (i ds es hp hs)
theorem ldat_sortedT (h : DatP te σ H p) (hc : ∀ d, p d → ∃ ds, d = .tup ds ∧ CanSort ds ∧ ∀ es, SortedOf ds es → P' es) : LDatP (tCB (rSorted K) (tCons te tNil)) σ H P' := fun H1 Q s q =>
  h H1 _ s fun v d H2 s2 hd hp => by
    obtain ⟨ds, rfl, ⟨c1, c2, ⟨b, c3⟩, c4⟩, c5⟩ := hc d hp
    obtain ⟨l, vs, rfl, hl, hd⟩ := hd.tup_inv
    refine ⟨l, vs, ds, b, rfl, .inr (SqT.of hl), hd, by rw [hd.length]; exact c1, c2, c3, c4, fun m zs es hm hz hs => ?_⟩
    exact q m zs es _ (s2.trans (same_new hm _)) upd_same (hz.mono (same_tups (same_new hm _))) (c5 es hs)
theorem DVs.drop {H : Hp} : ∀ {xs : List V} {ds : List D} (n : Nat), DVs H xs ds → DVs H (xs.drop n) (ds.drop n)
  | [], ds, n, h => by
    cases ds with
    | nil => simp; exact DVs.nil
    | cons => unfold DVs at h; exact h.elim
  | x :: xs, [], n, h => by unfold DVs at h; exact h.elim
  | x :: xs, d :: ds, 0, h => h
  | x :: xs, d :: ds, n + 1, h => by
    unfold DVs at h
    simp only [List.drop_succ_cons]
    exact DVs.drop n h.2
theorem DVs.take {H : Hp} : ∀ {xs : List V} {ds : List D} (n : Nat), DVs H xs ds → DVs H (xs.take n) (ds.take n)
  | [], ds, n, h => by
    cases ds with
    | nil => simp; exact DVs.nil
    | cons => unfold DVs at h; exact h.elim
  | x :: xs, [], n, h => by unfold DVs at h; exact h.elim
  | x :: xs, d :: ds, 0, h => by simp; exact DVs.nil
  | x :: xs, d :: ds, n + 1, h => by
    unfold DVs at h
    simp only [List.take_succ_cons]
    exact DVs.cons h.1 (DVs.take n h.2)
/-- t[lo:hi] of a tuple, not the whole -/
theorem dat_slT {tl th : TO} {lo hi : Option Int} (h : DatP te σ H p) (hlo : ∀ H Q, Q lo H → tl σ H Q) (hhi : ∀ H Q, Q hi H → th σ H Q) (hc : ∀ d, p d → ∃ ds, d = .tup ds ∧ ¬ (HT.sIx ds.length 0 lo = 0 ∧ HT.sIx ds.length ds.length hi = ds.length) ∧ p' (.tup ((ds.drop (HT.sIx ds.length 0 lo)).take (HT.sIx ds.length ds.length hi - HT.sIx ds.length 0 lo)))) :
    DatP (tSl (rSlT K) te tl th) σ H p' := fun H1 Q s q =>
  h H1 _ s fun v d H2 s2 hd hp => hlo _ _ (hhi _ _ (by
    obtain ⟨ds, rfl, c1, c2⟩ := hc d hp
    obtain ⟨l, vs, rfl, hl, hd⟩ := hd.tup_inv
    rw [← hd.length] at c1 c2
    refine ⟨l, vs, rfl, SqT.of hl, c1, fun a ha => q _ _ _ (s2.trans (same_new ha _)) (DV.tup upd_same ?_) c2⟩
    unfold cutV
    exact ((hd.drop _).take _).mono (same_tups (same_new ha _))))
theorem po_n {σ : L2.St} : ∀ H Q, Q none H → tNoPart σ H Q := fun H Q q => q
theorem po_i {σ : L2.St} {k : Int} : ∀ H Q, Q (some k) H → tPart (tC (.int k)) σ H Q := fun H Q q => ⟨k, rfl, q⟩
end
theorem likes_all : ∀ {xs ys : List D}, (∀ x ∈ xs, ∀ y ∈ ys, D.like x y) → D.likes xs ys
  | [], _, _ => by unfold D.likes; trivial
  | x :: xs, [], _ => by unfold D.likes; trivial
  | x :: xs, y :: ys, h => by
    unfold D.likes
    exact ⟨h x List.mem_cons_self y List.mem_cons_self, likes_all fun a ha b hb => h a (List.mem_cons_of_mem _ ha) b (List.mem_cons_of_mem _ hb)⟩
section
variable {K : PySem.W.Frag} {g : TG} {tt : TT} {te : TE} {σ0 : L2.St} {D : Addr} {F : Hp → Prop} {H1 : Hp}
/-- as comp_inv, with a relation in the place of what is told for sure -/
theorem comp_invP {J : It} {n : Nat} (hD : H1 D = none) (I : Nat → List Mx.D → Prop) (h0 : I 0 []) (hn : n < sizeLine) (go : ∀ i H, i < n → Same H1 H → J.go i H) (stop : ∀ H, Same H1 H → J.stop n H)
    (hs : ∀ i x H H' ds, i < n → Same H1 H → J.yld i H x H' → I i ds → Same H H' ∧ ∀ (N : V → Hp → Prop) (M : Hp → Prop), (∀ v H4 e, Same H' H4 → DV H4 v e → I (i + 1) (ds ++ [e]) → N v H4) → (∀ H3, Same H' H3 → I (i + 1) ds → M H3) →
      g x σ0 H' fun σ2 H2 => tt σ2 H2 fun b H3 => if b = true then te σ2 H3 N else M H3)
    (hd : ∀ H acc ds, Same H1 H → H D = some (.lst acc) → DVs H acc ds → I n ds → F H) : CompW J g tt te σ0 D F H1 := by
  refine ⟨fun i m acc H => m = n - i ∧ i ≤ n ∧ Same H1 H ∧ H D = some (.lst acc) ∧ (∃ ds, DVs H acc ds ∧ I i ds) ∧ acc.length ≤ i, ⟨n, by simp, Nat.zero_le _, same_new hD _, upd_same, ⟨[], DVs.nil, h0⟩, Nat.le_refl _⟩, ?_⟩
  rintro i m acc H ⟨rfl, hi, hS, hDa, ⟨ds, hdv, hI⟩, hla⟩
  by_cases hlt : i < n
  · refine .inr ⟨go i H hlt hS, fun x H' y => ?_⟩
    obtain ⟨s1, st⟩ := hs i x H H' ds hlt hS y hI
    refine st _ _ (fun v H4 e s4 he e4 => ?_) (fun H3 s3 e3 => ?_)
    · have s14 := s1.trans s4
      have hD4 := s14 _ _ hDa
      refine ⟨acc, hD4, by omega, n - (i + 1), by omega, rfl, hlt, same_upd (hS.trans s14) hD, upd_same, ⟨ds ++ [e], ?_, e4⟩, by simp; omega⟩
      exact (DVs.append (hdv.mono (same_tups s14)) (DVs.cons he DVs.nil)).mono (tups_upd hD4)
    · have s13 := s1.trans s3
      exact ⟨n - (i + 1), by omega, rfl, hlt, hS.trans s13, s13 _ _ hDa, ⟨ds, hdv.mono (same_tups s13), e3⟩, by omega⟩
  · have e : i = n := by omega
    subst e
    exact .inl ⟨stop H hS, hd H acc ds hS hDa hdv hI⟩
theorem comp_listP {a : Addr} {xs : List V} (ha : H1 a = some (.lst xs)) (hD : H1 D = none) (I : Nat → List Mx.D → Prop) (h0 : I 0 []) (hn : xs.length < sizeLine)
    (hs : ∀ i x H ds, xs[i]? = some x → Same H1 H → I i ds → ∀ (N : V → Hp → Prop) (M : Hp → Prop), (∀ v H4 e, Same H H4 → DV H4 v e → I (i + 1) (ds ++ [e]) → N v H4) → (∀ H3, Same H H3 → I (i + 1) ds → M H3) →
      g x σ0 H fun σ2 H2 => tt σ2 H2 fun b H3 => if b = true then te σ2 H3 N else M H3)
    (hd : ∀ H acc ds, Same H1 H → H D = some (.lst acc) → DVs H acc ds → I xs.length ds → F H) : CompW (Itl K a) g tt te σ0 D F H1 :=
  comp_invP hD I h0 hn (fun i H hi s => ⟨xs, xs[i], SqL.of (s _ _ ha), by simp [hi]⟩) (fun H s => ⟨xs, SqL.of (s _ _ ha), Nat.le_refl _⟩)
    (fun i x H H' ds hi s y hI => by
      obtain ⟨rfl, y⟩ := y
      exact ⟨Same.refl _, hs i x _ ds (y xs (SqL.of (s _ _ ha))) s hI⟩) hd
theorem comp_tupP {a : Addr} {xs : List V} (ha : H1 a = some (.tup xs)) (hD : H1 D = none) (I : Nat → List Mx.D → Prop) (h0 : I 0 []) (hn : xs.length < sizeLine)
    (hs : ∀ i x H ds, xs[i]? = some x → Same H1 H → I i ds → ∀ (N : V → Hp → Prop) (M : Hp → Prop), (∀ v H4 e, Same H H4 → DV H4 v e → I (i + 1) (ds ++ [e]) → N v H4) → (∀ H3, Same H H3 → I (i + 1) ds → M H3) →
      g x σ0 H fun σ2 H2 => tt σ2 H2 fun b H3 => if b = true then te σ2 H3 N else M H3)
    (hd : ∀ H acc ds, Same H1 H → H D = some (.lst acc) → DVs H acc ds → I xs.length ds → F H) : CompW (Itt K a) g tt te σ0 D F H1 :=
  comp_invP hD I h0 hn (fun i H hi s => ⟨xs, xs[i], SqT.of (s _ _ ha), by simp [hi]⟩) (fun H s => ⟨xs, SqT.of (s _ _ ha), Nat.le_refl _⟩)
    (fun i x H H' ds hi s y hI => by
      obtain ⟨rfl, y⟩ := y
      exact ⟨Same.refl _, hs i x _ ds (y xs (SqT.of (s _ _ ha))) s hI⟩) hd
theorem comp_rangeP {lo : Int} {n : Nat} (hD : H1 D = none) (I : Nat → List Mx.D → Prop) (h0 : I 0 []) (hn : n < sizeLine)
    (hs : ∀ (i : Nat) H ds, i < n → Same H1 H → I i ds → ∀ (N : V → Hp → Prop) (M : Hp → Prop), (∀ v H4 e, Same H H4 → DV H4 v e → I (i + 1) (ds ++ [e]) → N v H4) → (∀ H3, Same H H3 → I (i + 1) ds → M H3) →
      g (.int (lo + i)) σ0 H fun σ2 H2 => tt σ2 H2 fun b H3 => if b = true then te σ2 H3 N else M H3)
    (hd : ∀ H acc ds, Same H1 H → H D = some (.lst acc) → DVs H acc ds → I n ds → F H) : CompW (Itr lo n) g tt te σ0 D F H1 :=
  comp_invP hD I h0 hn (fun i H hi s => hi) (fun H s => Nat.le_refl _)
    (fun i x H H' ds hi s y hI => by
      obtain ⟨rfl, rfl⟩ := y
      exact ⟨Same.refl _, hs i _ ds hi s hI⟩) hd
theorem comp_zipP {l1 l2 : Addr} {xs ys : List V} (h1 : H1 l1 = some (.lst xs)) (h2 : H1 l2 = some (.lst ys)) (hl : xs.length = ys.length) (hD : H1 D = none) (I : Nat → List Mx.D → Prop) (h0 : I 0 []) (hn : xs.length < sizeLine)
    (hs : ∀ i p x y H ds, xs[i]? = some x → ys[i]? = some y → Same H1 H → H p = some (.tup [x, y]) → I i ds → ∀ (N : V → Hp → Prop) (M : Hp → Prop), (∀ v H4 e, Same H H4 → DV H4 v e → I (i + 1) (ds ++ [e]) → N v H4) → (∀ H3, Same H H3 → I (i + 1) ds → M H3) →
      g (.ref p) σ0 H fun σ2 H2 => tt σ2 H2 fun b H3 => if b = true then te σ2 H3 N else M H3)
    (hd : ∀ H acc ds, Same H1 H → H D = some (.lst acc) → DVs H acc ds → I xs.length ds → F H) : CompW (Itz l1 l2) g tt te σ0 D F H1 :=
  comp_invP hD I h0 hn (fun i H hi s => ⟨xs, ys, xs[i], ys[i]'(by omega), s _ _ h1, s _ _ h2, by simp [hi], by simp⟩) (fun H s => ⟨xs, ys, s _ _ h1, s _ _ h2, .inl (Nat.le_refl _)⟩)
    (fun i v H H' ds hi s yy hI => by
      obtain ⟨p, x, y, rfl, hp, rfl, q⟩ := yy
      obtain ⟨q1, q2⟩ := q xs ys (s _ _ h1) (s _ _ h2)
      exact ⟨same_new hp _, hs i p x y _ ds q1 q2 (s.trans (same_new hp _)) upd_same hI⟩) hd
end
theorem ldat_compL {K : PySem.W.Frag} {g : TG} {tt : TT} {te : TE} {σ : L2.St} {cap : List (Option Nat)} {H : Hp} {i : Nat} {l : Addr} {vs : List V} (hσ : σ[i]? = some (some (.ref l))) (hl : H l = some (.lst vs)) (hn : vs.length < sizeLine) (I : Nat → List D → Prop) (h0 : I 0 [])
    (hs : ∀ i x H1 ds, vs[i]? = some x → Same H H1 → I i ds → ∀ (N : V → Hp → Prop) (M : Hp → Prop), (∀ v H4 e, Same H1 H4 → DV H4 v e → I (i + 1) (ds ++ [e]) → N v H4) → (∀ H3, Same H1 H3 → I (i + 1) ds → M H3) →
      g x (capSt cap σ) H1 fun σ2 H2 => tt σ2 H2 fun b H3 => if b = true then te σ2 H3 N else M H3) : LDatP (tComp cap (iList K (tVar i)) g tt te) σ H (I vs.length) := fun H1 Q s q =>
  ⟨_, hσ, l, rfl, ⟨vs, SqL.of (s _ _ hl)⟩, fun Dl hD => comp_listP (s _ _ hl) hD I h0 hn (fun i x H2 ds hx s2 hI => hs i x H2 ds hx (s.trans s2) hI) fun H2 acc ds s2 hl2 hd hI => q Dl acc ds H2 s2 hl2 hd hI⟩
end Mx
end
section
set_option Elab.async false
set_option linter.all false
set_option maxRecDepth 100000
set_option maxHeartbeats 4000000
/-! sorted of fewer than 128 data -/
namespace Mx
open PySem PySem.W PySem.Spec PyProof.Rows L2 PySem.SeqAt MxSort
theorem perm_map_ex {α β : Type} {f : α → β} {l l' : List β} (h : l.Perm l') : ∀ r : List α, l = r.map f → ∃ p : List α, p.Perm r ∧ l' = p.map f := by
  induction h with
  | nil => intro r e; exact ⟨r, List.Perm.refl _, e⟩
  | cons x h ih =>
    intro r e
    cases r with
    | nil => cases e
    | cons y r =>
      rw [List.map_cons] at e
      injection e with e1 e2
      obtain ⟨p, p1, p2⟩ := ih r e2
      exact ⟨y :: p, p1.cons y, by rw [List.map_cons, e1, p2]⟩
  | swap x y l =>
    intro r e
    cases r with
    | nil => cases e
    | cons a r =>
      cases r with
      | nil => rw [List.map_cons] at e; injection e with e1 e2; cases e2
      | cons b r =>
        rw [List.map_cons, List.map_cons] at e
        injection e with e1 e2
        injection e2 with e3 e4
        exact ⟨b :: a :: r, List.Perm.swap a b r, by rw [List.map_cons, List.map_cons, e1, e3, e4]⟩
  | trans h1 h2 ih1 ih2 =>
    intro r e
    obtain ⟨p, p1, p2⟩ := ih1 r e
    obtain ⟨q, q1, q2⟩ := ih2 p p2
    exact ⟨q, q1.trans p1, q2⟩
section
variable {prog : Program} {w : World} {A : Around} {E : Value → Shared → Prop} {s : Shared}
/-- equal values have equal keys -/
def Inj1 {O : KeyOrd} (vs : List Value) (key : Nat → O.α) : Prop := ∀ i j, i < vs.length → j < vs.length → vs.getD i Value.none = vs.getD j Value.none → key i = key j
open Classical in
noncomputable def kyOf {O : KeyOrd} (vs : List Value) (key : Nat → O.α) (k : Keyed) : O.α := if h : ∃ i, i < vs.length ∧ vs.getD i Value.none = k.1 then key (Classical.choose h) else key 0
theorem kyOf_eq {O : KeyOrd} {vs : List Value} {key : Nat → O.α} (hi : Inj1 vs key) {i : Nat} (h : i < vs.length) (v : Value) : kyOf vs key (vs.getD i Value.none, v) = key i := by
  unfold kyOf
  have ex : ∃ j, j < vs.length ∧ vs.getD j Value.none = ((vs.getD i Value.none, v) : Keyed).1 := ⟨i, h, rfl⟩
  rw [dif_pos ex]
  have z := Classical.choose_spec ex
  exact hi _ _ z.1 h z.2
theorem zip_list (vs : List Value) : (vs.toArray.zip vs.toArray).toList = (List.range vs.length).map fun i => (vs.getD i Value.none, vs.getD i Value.none) := by
  refine List.ext_getElem (by simp) fun i h1 h2 => ?_
  simp at h1
  simp [h1]
theorem run128 {κ : SortKind} {vs : List Value} {O : KeyOrd} {key : Nat → O.α} (T : Tells O key (kas_ask prog w A κ vs) vs.length s) (hi : Inj1 vs key) (h2 : 2 ≤ vs.length) (h128 : vs.length < 128) {Q : SortSt → Shared → Prop}
    (hG : ∀ (p : Array Nat) (st' : SortSt), Ord vs.length p → Up key p vs.length → (arrOf st').map (·.2) = (p.toList.map fun i => vs.getD i Value.none).toArray → failedOf st' = none → Q st' s) :
    wpAny (model prog w) A ((sortRuns').run (SortSt.mk' κ (vs.toArray.zip vs.toArray) #[] 7 none)) (fun r s' => Q r.2 s') E s := by
  have hz : (vs.toArray.zip vs.toArray).size = vs.length := by simp
  have T' : MxTim.Tells prog w A κ s O (kyOf vs key) (fun k => ∃ i, i < vs.length ∧ k = (vs.getD i Value.none, vs.getD i Value.none)) := by
    rintro x y ⟨i, hi', rfl⟩ ⟨j, hj', rfl⟩ C hC
    rw [kyOf_eq hi hi', kyOf_eq hi hj'] at hC
    exact T i j hi' hj' C hC
  have run := MxTim.sR_wp (E := E) T' (a := vs.toArray.zip vs.toArray) (fun x hx => by
      rw [zip_list] at hx
      obtain ⟨i, i1, i2⟩ := List.mem_map.mp hx
      exact ⟨i, List.mem_range.mp i1, i2.symm⟩) (by omega) (by omega) (g := 7) (Q := fun _ st' s' => Q st' s') (fun st' f pm srt => ?_)
  · exact run
  · rw [zip_list] at pm
    obtain ⟨p, p1, p2⟩ := perm_map_ex pm.symm (List.range vs.length) rfl
    have hl : p.length = vs.length := by rw [p1.length_eq, List.length_range]
    have hlt : ∀ i ∈ p, i < vs.length := fun i hi => List.mem_range.mp (p1.mem_iff.mp hi)
    refine hG p.toArray st' (by unfold MxSort.Ord; exact p1) (fun i j hij hj => ?_) ?_ f
    · by_cases e : i = j
      · subst e; exact KeyOrd.kle_refl _
      · unfold MxTim.Srt at srt
        rw [p2, List.pairwise_map, List.pairwise_iff_getElem] at srt
        have z := srt i j (by omega) (by omega) (by omega)
        unfold MxTim.le at z
        rw [kyOf_eq hi (hlt _ (List.getElem_mem _)), kyOf_eq hi (hlt _ (List.getElem_mem _))] at z
        unfold kAt
        rw [show p.toArray.getD i 0 = p[i] by simp [Array.getD, show i < p.length by omega], show p.toArray.getD j 0 = p[j] by simp [Array.getD, show j < p.length by omega]]
        exact z
    · apply Array.toList_inj.mp
      rw [Array.toList_map, p2, List.map_map]
      rfl
/-- a sort of the list at a, whose items are vs: where each comparison tells the order O of the keys -/
theorem sort_at2 {a : Addr} {vs : List Value} {n : Nat} {P : PySem.Fin → Shared → Prop} (ho : s.heap.get? a = some (seqObj "list" vs.toArray n)) (h64 : vs.length < 128) {O : KeyOrd} {key : Nat → O.α}
    (hk : 2 ≤ vs.length → ∀ h', (∀ b o, b ≠ a → s.heap.get? b = some o → h'.get? b = some o) → ∃ κ : SortKind, (∀ (Q : SortKind → Shared → Prop) (E : Value → Shared → Prop), Q κ { s with heap := h' } → wpAny (model prog w) A (keyKind' vs.toArray) Q E { s with heap := h' }) ∧
      Tells O key (kas_ask prog w A κ vs) vs.length { s with heap := h' } ∧ Inj1 vs key)
    (h : ∀ (p : Array Nat) (h' : Heap) (e : Nat), Ord vs.length p → Up key p vs.length → (∀ b o, b ≠ a → s.heap.get? b = some o → h'.get? b = some o) → h'.get? a = some (seqObj "list" (p.toList.map fun i => vs.getD i Value.none).toArray e) →
      P (.done (.ret .none)) { s with heap := h' }) : wpAny (model prog w) A (Builtin.«list.sort» ⟨[.ref a], []⟩) P E s := by
  have ha : a < s.heap.objs.size := Heap.lt_size ho
  have hsl : vs.length ≤ sizeLine := by rw [sizeLine_eq]; omega
  rw [list_sort_plain]
  refine wpAny_bind (listItems_at ho rfl (wpAny_bind (listUpdate_at ho rfl ?_ (by rw [List.size_toArray]; exact hsl) (Nat.zero_le _))))
  obtain ⟨e1, ho1⟩ : ∃ e1, (s.heap.update a (Obj.mapSeq fun _ => (#[] : Array Value))).get? a = some (seqObj "list" #[] e1) := ⟨_, get?_update_seq ho fun _ => #[]⟩
  refine wpAny_bind (seqEpoch_at ho1 rfl (wpAny_bind (wpAny_newTuple ?_ hsl)))
  refine wpAny_bind (wpAny_newList (wpAny_holding ?_) (Nat.zero_le _))
  show wpAny (model prog w) A _ P E { s with heap := ((s.heap.update a (Obj.mapSeq fun _ => (#[] : Array Value))).push (seqObj "tuple" vs.toArray 0)).push (seqObj "list" #[] 0) }
  generalize hh : ((s.heap.update a (Obj.mapSeq fun _ => (#[] : Array Value))).push (seqObj "tuple" vs.toArray 0)).push (seqObj "list" #[] 0) = h1
  have k1 : ∀ b o, b ≠ a → s.heap.get? b = some o → h1.get? b = some o := fun b o hb e => by
    rw [← hh]
    exact Heap.get?_push_of_some _ (Heap.get?_push_of_some _ ((Heap.get?_update_other s.heap _ (Ne.symm hb)).trans e))
  have ha1 : h1.get? a = some (seqObj "list" #[] e1) := by
    rw [← hh]
    exact Heap.get?_push_of_some _ (Heap.get?_push_of_some _ ho1)
  dsimp only
  -- what is left once the order is known
  have fin : ∀ (st' : SortSt) (p : Array Nat), Ord vs.length p → Up key p vs.length → (arrOf st').map (·.2) = (p.toList.map fun i => vs.getD i Value.none).toArray → failedOf st' = none →
      wpAny (model prog w) A (do
        let touched := (← seqEpoch a) != e1
        Builtin.List.listUpdate (.ref a) fun _ => (arrOf st').map (·.2)
        if let some e := failedOf st' then rule "list.sort.comparison-raised"; throw e
        if touched then rule "list.sort.modified"; raiseError "ValueError" "list modified during sort"
        ret .none) P E { s with heap := h1 } := fun st' p hp hu hout hf => by
    refine wpAny_bind (seqEpoch_at (s := { s with heap := h1 }) ha1 rfl ?_)
    have hsz : (p.toList.map fun i => vs.getD i Value.none).toArray.size = vs.length := by rw [List.size_toArray, List.length_map, Array.length_toList, hp.size]
    rw [hout]
    refine wpAny_bind (listUpdate_at (s := { s with heap := h1 }) ha1 rfl ?_ (Nat.zero_le _) (by rw [hsz]; omega))
    rw [hf]
    simp only [bne_self_eq_false, Bool.false_eq_true, if_false]
    obtain ⟨c2, hc2⟩ : ∃ c2, (h1.update a (Obj.mapSeq fun _ => (p.toList.map fun i => vs.getD i Value.none).toArray)).get? a = some (seqObj "list" (p.toList.map fun i => vs.getD i Value.none).toArray c2) := ⟨_, get?_update_seq ha1 fun _ => _⟩
    exact wpAny_pure (h p _ c2 hp hu (fun b o hb e => (Heap.get?_update_other h1 _ (Ne.symm hb)).trans (k1 b o hb e)) hc2)
  by_cases h2 : 2 ≤ vs.length
  · have hn2 : ¬ vs.toArray.size < 2 := by rw [List.size_toArray]; omega
    rw [if_neg hn2, if_neg hn2]
    obtain ⟨κ, hkk, T, hi⟩ := hk h2 h1 k1
    refine wpAny_bind (hkk _ _ ?_)
    refine wpAny_bind (wpAny_mono (run128 (s := { s with heap := h1 }) (Q := fun st' s' => s' = { s with heap := h1 } ∧ ∃ p : Array Nat, Ord vs.length p ∧ Up key p vs.length ∧ (arrOf st').map (·.2) = (p.toList.map fun i => vs.getD i Value.none).toArray ∧ failedOf st' = none) T hi h2 h64
      (fun p st' hp hu ho hf => ⟨rfl, p, hp, hu, ho, hf⟩)) ?_ fun _ _ e => e)
    rintro ⟨⟨⟩, st'⟩ s' ⟨rfl, p, hp, hu, hout, hf⟩
    exact fin st' p hp hu hout hf
  · have hn2 : vs.toArray.size < 2 := by rw [List.size_toArray]; omega
    rw [if_pos hn2, if_pos hn2]
    refine wpAny_bind (wpAny_pure ?_)
    rw [StateT.run_pure]
    refine wpAny_bind (wpAny_pure ?_)
    refine fin (SortSt.mk' general' (vs.toArray.zip vs.toArray) #[] 7 none) (List.range vs.length).toArray (by unfold MxSort.Ord; simp) (fun i j hij hj => ?_) ?_ rfl
    · rw [show i = j by omega]; exact KeyOrd.kle_refl _
    · apply Array.toList_inj.mp
      show (((vs.toArray.zip vs.toArray)).map (·.2)).toList = _
      match vs, h2 with
      | [], _ => simp
      | [v], _ => simp
      | _ :: _ :: _, h2 => exact absurd (by simp) h2
/-- sorted(l) of a list or a tuple -/
theorem sorted_at2 {l : Addr} {T : String} {o : Obj} {vs : List Value} {n : Nat} {Q : Value → Shared → Prop} (hT : T = "list" ∨ T = "tuple") (ho : s.heap.get? l = some o) (hc : o.cls = .type T) (hd : o.data = .seq vs.toArray n) (h64 : vs.length < 128) {O : KeyOrd} {key : Nat → O.α}
    (hk : 2 ≤ vs.length → ∀ h', Kpt s.heap h' → ∃ κ : SortKind, (∀ (Q : SortKind → Shared → Prop) (E : Value → Shared → Prop), Q κ { s with heap := h' } → wpAny (model prog w) A.in1.in1 (keyKind' vs.toArray) Q E { s with heap := h' }) ∧
      Tells O key (kas_ask prog w A.in1.in1 κ vs) vs.length { s with heap := h' } ∧ Inj1 vs key)
    (h : ∀ (p : Array Nat) (h1 h' : Heap) (e : Nat), Ord vs.length p → Up key p vs.length → Kpt s.heap h1 → Kpt h1 h' → h'.get? h1.objs.size = some (seqObj "list" (p.toList.map fun i => vs.getD i Value.none).toArray e) →
      Q (.ref h1.objs.size) { s with heap := h' }) : wpAny (model prog w) A (call (.builtin "sorted") [.ref l]) Q E s := by
  have hsl : vs.length ≤ sizeLine := by rw [sizeLine_eq]; omega
  refine Calls.call_function_entry kind_sorted plain_sorted entry_sorted (args_sorted1 _) ?_
  unfold Builtin.«sorted»
  refine wpAny_bind (m := checkCount "sorted" 1 1 _) (wpAny_pure (wpAny_bind (wpAny_collect_seq l hT ho hc hd (fun h1 k1 => ?_) (by rw [List.size_toArray]; exact hsl))))
  refine wpAny_bind (wpAny_newList ?_ (by simpa using hsl))
  have hoL : (h1.push (seqObj "list" vs.toArray 0)).get? h1.objs.size = some (seqObj "list" vs.toArray 0) := Heap.get?_push_size _ rfl
  show wpAny _ _ _ _ _ { s with heap := h1.push (seqObj "list" vs.toArray 0) }
  have ne : ∀ b o, h1.get? b = some o → b ≠ h1.objs.size := fun b o e => Nat.ne_of_lt (Heap.lt_size e)
  refine wpAny_bind (wpAny_holding (wpAny_call_entry slot_list_sort (s := { s with heap := h1.push (seqObj "list" vs.toArray 0) }) ⟨_, hoL, rfl⟩ entry_list_sort
    (sort_at2 (s := { s with heap := h1.push (seqObj "list" vs.toArray 0) }) (O := O) (key := key) hoL h64 (fun h2 h' kk => ?_) fun p h' e hp hu kk hD => ?_) (args_list_sort _)))
  · exact hk h2 h' fun b o e => kk b o (ne b o (k1 b o e)) (Heap.get?_push_of_some _ (k1 b o e))
  · exact ⟨_, rfl, wpAny_pure ⟨_, rfl, h p h1 h' e hp hu k1 (fun b o q => kk b o (ne b o q) (Heap.get?_push_of_some _ q)) hD⟩⟩
end
def rSort2 (K : PySem.W.Frag) : List V → Hp → VK → Prop := fun xs H Q => ∃ a ys ds b, xs = [.ref a] ∧ (SqL K H a ys ∨ SqT K H a ys) ∧ DVs H ys ds ∧ ys.length < 128 ∧ D.deps ds ≤ 100 ∧ (∀ d ∈ ds, Firsts b d) ∧ (∀ d ∈ ds, ∀ e ∈ ds, D.like d e) ∧
  ∀ l zs es, H l = none → DVs H zs es → SortedOf ds es → Q (.ref l) (upd H l (.lst zs))
theorem call_sorted2 {X : Cx} (hu : X.A.units + 150 < cLine) : CallR X (.builtin "sorted") (rSort2 X.K) := by
  intro pins s σ H xs us Q I r h
  obtain ⟨a, ys, ds, b, rfl, hq, hdv, h64, hdep, hf, hlk, q⟩ := h
  obtain ⟨u, rfl, ru⟩ := r.one
  cases ru
  have sh : ∃ (its : List Value) (T : String) (o : Obj) (n : Nat), Vals ys its ∧ (T = "list" ∨ T = "tuple") ∧ s.heap.get? a = some o ∧ o.cls = .type T ∧ o.data = .seq its.toArray n := by
    rcases hq with hq | hq
    · obtain ⟨its, rv, ⟨o, n, ho, hc, _, hd⟩, _⟩ := I.list hq
      exact ⟨its, "list", o, n, rv, .inl rfl, ho, hc, hd⟩
    · obtain ⟨its, rv, ⟨o, ho, hc, n, hd⟩, _⟩ := I.tuple hq
      exact ⟨its, "tuple", o, n, rv, .inr rfl, ho, hc, hd⟩
  obtain ⟨its, T, o, n, rv, hT, ho, hc, hd⟩ := sh
  have hl := rv.length
  have hl2 := hdv.length
  refine sorted_at2 (O := dOrd) (key := fun i => ds.getD i (.int 0)) hT ho hc hd (by omega) (fun h2 h' kk => ?_) fun p h1 h' e hp hup k1 k2 hD => ?_
  · have hok' : HOk X.prog X.w H h' := I.hok.kept kk
    refine ⟨tuples' b, fun Q' E' q' => ?_, fun i j hi hj C hC => ?_, fun i j hi hj eij => ?_⟩
    · obtain ⟨fs, t, l, lk⟩ := kat_of (prog := X.prog) (s := { s with heap := h' }) hok' hdv rv hf
      refine kat_kind t (by omega) lk (by cases b <;> rfl) ?_
      cases b with
      | false => exact q'
      | true => exact q'
    · obtain ⟨di, ei1, ei2⟩ := hdv.get (i := i) (x := ys[i]'(by omega)) (by simp)
      obtain ⟨dj, ej1, ej2⟩ := hdv.get (i := j) (x := ys[j]'(by omega)) (by simp)
      obtain ⟨ui, hui, rui⟩ := rv.get (i := i) (x := ys[i]'(by omega)) (by simp)
      obtain ⟨uj, huj, ruj⟩ := rv.get (i := j) (x := ys[j]'(by omega)) (by simp)
      unfold kas_ask
      rw [show its.getD i Value.none = ui by simp [hui], show its.getD j Value.none = uj by simp [huj]]
      have ki : ds.getD i (.int 0) = di := by simp [ei1]
      have kj : ds.getD j (.int 0) = dj := by simp [ej1]
      have mi : di ∈ ds := List.mem_of_getElem? ei1
      have mj : dj ∈ ds := List.mem_of_getElem? ej1
      refine key_lt (s := { s with heap := h' }) hok' (n := 100) (by show X.A.units + 1 + 1 + 100 < cLine; omega) (Nat.le_trans (dep_mem ei1) (by omega)) (hlk di mi dj mj) (hf di mi) (hf dj mj) ei2 ej2 rui ruj ?_
      have hC' : C (D.lt (ds.getD i (.int 0)) (ds.getD j (.int 0))) { s with heap := h' } := hC
      rw [ki, kj] at hC'
      exact hC'
    · obtain ⟨di, ei1, ei2⟩ := hdv.get (i := i) (x := ys[i]'(by omega)) (by simp)
      obtain ⟨dj, ej1, ej2⟩ := hdv.get (i := j) (x := ys[j]'(by omega)) (by simp)
      obtain ⟨ui, hui, rui⟩ := rv.get (i := i) (x := ys[i]'(by omega)) (by simp)
      obtain ⟨uj, huj, ruj⟩ := rv.get (i := j) (x := ys[j]'(by omega)) (by simp)
      rw [show its.getD i Value.none = ui by simp [hui], show its.getD j Value.none = uj by simp [huj]] at eij
      have ki : ds.getD i (.int 0) = di := by simp [ei1]
      have kj : ds.getD j (.int 0) = dj := by simp [ej1]
      have mi : di ∈ ds := List.mem_of_getElem? ei1
      have mj : dj ∈ ds := List.mem_of_getElem? ej1
      show ds.getD i (.int 0) = ds.getD j (.int 0)
      rw [ki, kj]
      have tp : ∀ d ∈ ds, ∃ es, d = .tup es := fun d hd => by
        have z := hf d hd
        cases b with
        | false => obtain ⟨f, r, rfl⟩ := z; exact ⟨_, rfl⟩
        | true => obtain ⟨f, r, rfl⟩ := z; exact ⟨_, rfl⟩
      obtain ⟨xi, rfl⟩ := tp di mi
      obtain ⟨xj, rfl⟩ := tp dj mj
      obtain ⟨p1, p2, p3, p4, p5⟩ := ei2.tup_inv
      obtain ⟨q1, q2, q3, q4, q5⟩ := ej2.tup_inv
      rw [p3] at rui ei2
      rw [q3] at ruj ej2
      cases rui
      cases ruj
      cases eij
      exact ei2.inj ej2
  · have hp' : p.toList.Perm (List.range its.length) := hp
    have hin : ∀ i ∈ p.toList, i < ys.length := fun i hi => by
      have := List.mem_range.mp (hp'.mem_iff.mp hi)
      omega
    have I1 : Inv X pins σ H { s with heap := h1 } := I.kept (t' := s.toks) k1
    have new : ObjOk X.prog X.w (upd H h1.objs.size (.lst (p.toList.map fun i => ys.getD i .non))) h' h1.objs.size (.lst (p.toList.map fun i => ys.getD i .non)) :=
      ⟨by rw [List.length_map, hp'.length_eq, List.length_range]; rw [sizeLine_eq]; omega, _, e, vals_map rv hin, hD⟩
    have I2 := I1.laid (t' := s.toks) (a := h1.objs.size) k2 (Nat.le_refl _) new
    refine ⟨.ref h1.objs.size, _, I2, rfl, q _ _ (p.toList.map fun i => ds.getD i (.int 0)) (I1.hok.fresh (Nat.le_refl _)) (hdv.map hin) ⟨?_, ?_⟩⟩
    · have e1 := hp'.map (fun i => ds.getD i (.int 0))
      rw [show its.length = ds.length by omega] at e1
      rw [map_range_getD] at e1
      exact e1
    · have hup' : ∀ i j, i ≤ j → j < its.length → D.lt (ds.getD (p.getD j 0) (.int 0)) (ds.getD (p.getD i 0) (.int 0)) = false := hup
      have hsz : p.toList.length = its.length := by rw [hp'.length_eq, List.length_range]
      rw [List.pairwise_map, List.pairwise_iff_getElem]
      intro i j hi hj hij
      have := hup' i j (by omega) (by omega)
      rw [show p.getD i 0 = p.toList[i] by simp at hi; simp [Array.getD, hi], show p.getD j 0 = p.toList[j] by simp at hj; simp [Array.getD, hj]] at this
      exact this
section
variable {te tb : TE} {ta : TA} {σ : L2.St} {H H' : Hp} {p p' : D → Prop} {P P' : List D → Prop} {K : PySem.W.Frag}
/-- what sorted asks of data -/
def CanSort2 (ds : List D) : Prop := ds.length < 128 ∧ D.deps ds ≤ 100 ∧ (∃ b, ∀ d ∈ ds, Firsts b d) ∧ ∀ d ∈ ds, ∀ e ∈ ds, D.like d e
theorem CanSort.two {ds : List D} (h : CanSort ds) : CanSort2 ds := ⟨Nat.lt_trans h.1 (by omega), h.2⟩
theorem ldat_sorted2L (h : LDatP te σ H P) (hc : ∀ ds, P ds → CanSort2 ds) (i : ∀ ds es, P ds → SortedOf ds es → P' es) : LDatP (tCB (rSort2 K) (tCons te tNil)) σ H P' := fun H1 Q s q =>
  h H1 _ s fun l vs ds H2 s2 hl hd hp => by
    obtain ⟨c1, c2, ⟨b, c3⟩, c4⟩ := hc ds hp
    refine ⟨l, vs, ds, b, rfl, .inl (SqL.of hl), hd, by rw [hd.length]; exact c1, c2, c3, c4, fun m zs es hm hz hs => ?_⟩
    exact q m zs es _ (s2.trans (same_new hm _)) upd_same (hz.mono (same_tups (same_new hm _))) (i ds es hp hs)
theorem ldat_sorted2T (h : DatP te σ H p) (hc : ∀ d, p d → ∃ ds, d = .tup ds ∧ CanSort2 ds ∧ ∀ es, SortedOf ds es → P' es) : LDatP (tCB (rSort2 K) (tCons te tNil)) σ H P' := fun H1 Q s q =>
  h H1 _ s fun v d H2 s2 hd hp => by
    obtain ⟨ds, rfl, ⟨c1, c2, ⟨b, c3⟩, c4⟩, c5⟩ := hc d hp
    obtain ⟨l, vs, rfl, hl, hd⟩ := hd.tup_inv
    refine ⟨l, vs, ds, b, rfl, .inr (SqT.of hl), hd, by rw [hd.length]; exact c1, c2, c3, c4, fun m zs es hm hz hs => ?_⟩
    exact q m zs es _ (s2.trans (same_new hm _)) upd_same (hz.mono (same_tups (same_new hm _))) (c5 es hs)
end
end Mx
end
section
set_option Elab.async false
set_option linter.all false
set_option maxRecDepth 100000
set_option maxHeartbeats 4000000
namespace Mx
open PySem PySem.W PySem.Spec PyProof.Rows L2
section
variable {te : TE} {i : Nat} {u : TS} {E : Ends} {σ : L2.St} {H : Hp} {p : D → Prop} {P : List D → Prop}
/-! statements, step by step, what is left staying folded -/
theorem sq_asg (h : te σ H fun v H1 => u E (σ.set i (some v)) H1) : tSeq (tAsg te (gName i)) u E σ H := h
theorem sq_dat (h : DatP te σ H p) (k : ∀ v d H2, Same H H2 → DV H2 v d → p d → u E (σ.set i (some v)) H2) : tSeq (tAsg te (gName i)) u E σ H := h H _ (Same.refl _) k
theorem sq_ldat (h : LDatP te σ H P) (k : ∀ l vs ds H2, Same H H2 → H2 l = some (.lst vs) → DVs H2 vs ds → P ds → u E (σ.set i (some (.ref l))) H2) : tSeq (tAsg te (gName i)) u E σ H := h H _ (Same.refl _) k
theorem rt_dat (h : DatP te σ H p) (k : ∀ v d H2, Same H H2 → DV H2 v d → p d → E.rt v H2) : tRet te E σ H := h H _ (Same.refl _) k
theorem rt_ldat (h : LDatP te σ H P) (k : ∀ l vs ds H2, Same H H2 → H2 l = some (.lst vs) → DVs H2 vs ds → P ds → E.rt (.ref l) H2) : tRet te E σ H := h H _ (Same.refl _) k
theorem sq_if {tc : TT} {t1 t2 u : TS} (h : tc σ H fun b H1 => if b = true then t1 { E with nx := u E } σ H1 else t2 { E with nx := u E } σ H1) : tSeq (tIfS tc t1 t2) u E σ H := h
theorem sq_ifn {tc : TT} {t1 u : TS} (h : tc σ H fun b H1 => if b = true then t1 { E with nx := u E } σ H1 else u E σ H1) : tSeq (tIfS tc t1 tNext) u E σ H := h
theorem sq_sub {to ti : TE} {t : TSet} {u : TS} (h : te σ H fun v H1 => to σ H1 fun x H2 => ti σ H2 fun y H3 => t x y v H3 fun H4 => u E σ H4) : tSeq (tAsg te (gSub to ti t)) u E σ H := h
end
end Mx
end
section
set_option Elab.async false
set_option linter.all false
set_option maxRecDepth 100000
set_option maxHeartbeats 4000000
/-! any, all, sum, min, max of a list -/
namespace Mx
open PySem PySem.W PySem.Spec PyProof.Rows L2
theorem any_range (bs : List Bool) : ((List.range bs.length).any fun i => bs.getD i false) = bs.any id := by
  have h := map_range_getD bs false
  have e : ((List.range bs.length).map fun i => bs.getD i false).any id = bs.any id := by rw [h]
  rw [List.any_map] at e
  exact e
theorem all_range (bs : List Bool) : ((List.range bs.length).all fun i => bs.getD i false) = bs.all id := by
  have h := map_range_getD bs false
  have e : ((List.range bs.length).map fun i => bs.getD i false).all id = bs.all id := by rw [h]
  rw [List.all_map] at e
  exact e
theorem pre_sum (ns : List Int) : ∀ j, preSum (fun i => ns.getD i 0) j = (ns.take j).sum
  | 0 => by simp [preSum]
  | j + 1 => by
    rw [preSum, pre_sum ns j]
    by_cases h : j < ns.length
    · have e : ns.take (j + 1) = ns.take j ++ [ns[j]] := by rw [List.take_append_getElem h]
      rw [e, List.sum_append]
      simp [h]
    · rw [List.take_of_length_le (by omega), List.take_of_length_le (by omega)]
      simp [show ns.length ≤ j by omega]
theorem bl_at {bs : List Bool} {its : List Value} (r : Vals (bs.map V.bl) its) {i : Nat} {v : Value} (h : its[i]? = some v) : v = .bool (bs.getD i false) := by
  have hl := r.length
  have hi : i < bs.length := by
    have := (List.getElem?_eq_some_iff.mp h).1
    simp at hl
    omega
  obtain ⟨u, hu, ru⟩ := r.get (i := i) (x := V.bl (bs.getD i false)) (by simp [hi])
  rw [h] at hu
  cases hu
  exact ru
theorem int_at {ns : List Int} {its : List Value} (r : Vals (ns.map V.int) its) {i : Nat} {v : Value} (h : its[i]? = some v) : ∃ t, v = .int (ns.getD i 0) t := by
  have hl := r.length
  have hi : i < ns.length := by
    have := (List.getElem?_eq_some_iff.mp h).1
    simp at hl
    omega
  obtain ⟨u, hu, ru⟩ := r.get (i := i) (x := V.int (ns.getD i 0)) (by simp [hi])
  rw [h] at hu
  cases hu
  exact ru
section
variable {X : Cx}
/-- the iterator that a built-in makes of a list, for itself -/
theorem iter_own {prog : Program} {w : World} {A : Around} {E : Value → Shared → Prop} {s : Shared} {l : Addr} {items : Array Value} {Q : Value → Shared → Prop} (hl : s.heap.IsList l items)
    (h : ∀ s2 : Shared, s2 = { s with heap := s.heap.push { cls := .type "list_iterator", data := .fields #[.ref l, .int 0 0] } } → (s2.heap.IsListIter s.heap.objs.size l 0 ∧ s2.heap.IsList l items) → (∀ b ∈ [s.heap.objs.size, l], b < s2.heap.objs.size) → l ≠ s.heap.objs.size →
      (∀ (b : Addr) (o : Obj), s.heap.get? b = some o → b ∉ [s.heap.objs.size] ∧ s2.heap.get? b = some o) → Q (.ref s.heap.objs.size) s2) : wpAny (model prog w) A (pyIter (.ref l)) Q E s := by
  have lt : l < s.heap.objs.size := by obtain ⟨_, e, _⟩ := hl; exact Heap.lt_size e
  refine wpAny_pyIter_list hl (h _ rfl ⟨⟨_, Heap.get?_push_size _ rfl, rfl, rfl⟩, hl.push _⟩ (fun b hb => ?_) (Nat.ne_of_lt lt) fun b o e => ⟨?_, Heap.get?_push_of_some _ e⟩)
  · show b < (s.heap.push _).objs.size
    rw [Heap.size_push]
    simp only [List.mem_cons, List.not_mem_nil, or_false] at hb
    have lt' : l < s.heap.objs.size := lt
    rcases hb with rfl | rfl
    · exact Nat.lt_succ_self _
    · exact Nat.lt_succ_of_lt lt'
  · intro hb
    have := Heap.lt_size e
    rw [List.mem_singleton.mp hb] at this
    exact Nat.lt_irrefl _ this
def rAny (K : PySem.W.Frag) : List V → Hp → VK → Prop := fun xs H Q => ∃ (l : Addr) (bs : List Bool), xs = [.ref l] ∧ SqL K H l (bs.map V.bl) ∧ Q (.bl (bs.any id)) H
def rAll (K : PySem.W.Frag) : List V → Hp → VK → Prop := fun xs H Q => ∃ (l : Addr) (bs : List Bool), xs = [.ref l] ∧ SqL K H l (bs.map V.bl) ∧ Q (.bl (bs.all id)) H
def rSum (K : PySem.W.Frag) : List V → Hp → VK → Prop := fun xs H Q => ∃ (l : Addr) (ns : List Int), xs = [.ref l] ∧ SqL K H l (ns.map V.int) ∧ Q (.int ns.sum) H
theorem call_any (hc : X.calm = true) : CallR X (.builtin "any") (rAny X.K) := by
  intro pins s σ H xs us Q I r h
  obtain ⟨l, bs, rfl, hq, q⟩ := h
  obtain ⟨u, rfl, ru⟩ := r.one
  cases ru
  obtain ⟨its, rv, pl, hz⟩ := I.list hq
  have hl : its.length = bs.length := by rw [← rv.length]; simp
  refine call_any_walk (iter_own pl.isList fun s2 e st fp ne old => ?_)
  refine ⟨_, _, _, _, _, _, fun i => bs.getD i false, rfl, Walks.list (A := X.A.in1) (I.ok.hd hc) _ l ne its.toArray, st, fun i v s' Q' E' hv hQ => ?_, fun h' tk hk => ?_⟩
  · have hv' : its.toArray[i]? = some v := hv
    rw [bl_at rv (show its[i]? = some v by simpa using hv')]
    exact wpAny_truthy_bool hQ
  · subst e
    refine ⟨.bl _, H, I.kept fun b o e => hk b o (old b o e).1 (old b o e).2, rfl, ?_⟩
    rw [show its.toArray.size = bs.length by simp [hl], any_range]
    exact q
theorem call_all (hc : X.calm = true) : CallR X (.builtin "all") (rAll X.K) := by
  intro pins s σ H xs us Q I r h
  obtain ⟨l, bs, rfl, hq, q⟩ := h
  obtain ⟨u, rfl, ru⟩ := r.one
  cases ru
  obtain ⟨its, rv, pl, hz⟩ := I.list hq
  have hl : its.length = bs.length := by rw [← rv.length]; simp
  refine call_all_walk (iter_own pl.isList fun s2 e st fp ne old => ?_)
  refine ⟨_, _, _, _, _, _, fun i => bs.getD i false, rfl, Walks.list (A := X.A.in1) (I.ok.hd hc) _ l ne its.toArray, st, fun i v s' Q' E' hv hQ => ?_, fun h' tk hk => ?_⟩
  · have hv' : its.toArray[i]? = some v := hv
    rw [bl_at rv (show its[i]? = some v by simpa using hv')]
    exact wpAny_truthy_bool hQ
  · subst e
    refine ⟨.bl _, H, I.kept fun b o e => hk b o (old b o e).1 (old b o e).2, rfl, ?_⟩
    rw [show its.toArray.size = bs.length by simp [hl], all_range]
    exact q
theorem call_sum (hc : X.calm = true) : CallR X (.builtin "sum") (rSum X.K) := by
  intro pins s σ H xs us Q I r h
  obtain ⟨l, ns, rfl, hq, q⟩ := h
  obtain ⟨u, rfl, ru⟩ := r.one
  cases ru
  obtain ⟨its, rv, pl, hz⟩ := I.list hq
  have hl : its.length = ns.length := by rw [← rv.length]; simp
  refine call_sum_walkG (iter_own pl.isList fun s2 e st fp ne old => ?_)
  refine ⟨_, _, _, _, _, _, fun i => ns.getD i 0, rfl, Walks.list (A := X.A.in1) (I.ok.hd hc) _ l ne its.toArray, st, fp, fun i v hv => ?_, fun h' tk t' hk => ?_⟩
  · have hv' : its.toArray[i]? = some v := hv
    exact int_at rv (by simpa using hv')
  · subst e
    refine ⟨.int _, H, I.kept fun b o e => hk b o (old b o e).1 (old b o e).2, ⟨t', rfl⟩, ?_⟩
    rw [show its.toArray.size = ns.length by simp [hl], pre_sum, List.take_length]
    exact q
end
end Mx
end
section
set_option Elab.async false
set_option linter.all false
set_option maxRecDepth 100000
set_option maxHeartbeats 4000000
/-! zip of two sequences, each a list (false) or a tuple (true) -/
namespace Mx
open PySem PySem.W PySem.Spec PyProof.Rows L2
def IterB : Bool → Heap → Addr → Addr → Nat → Prop
  | false, h, i, l, k => h.IsListIter i l k
  | true, h, i, l, k => h.IsTupleIter i l k
def SeqB : Bool → Heap → Addr → Array Value → Prop
  | false, h, l, xs => h.IsList l xs
  | true, h, l, xs => h.IsTuple l xs
theorem IterB.at : ∀ {b : Bool} {h h' : Heap} {i l : Addr} {k : Nat}, IterB b h i l k → (∀ o, h.get? i = some o → h'.get? i = some o) → IterB b h' i l k
  | false, _, _, _, _, _, x, e => Heap.IsListIter.at x e
  | true, _, _, _, _, _, x, e => Heap.IsTupleIter.at x e
theorem SeqB.at : ∀ {b : Bool} {h h' : Heap} {l : Addr} {xs : Array Value}, SeqB b h l xs → (∀ o, h.get? l = some o → h'.get? l = some o) → SeqB b h' l xs
  | false, _, _, _, _, x, e => let ⟨o, ho, r⟩ := x; ⟨o, e o ho, r⟩
  | true, _, _, _, _, x, e => let ⟨o, ho, r⟩ := x; ⟨o, e o ho, r⟩
theorem IterB.obj : ∀ {b : Bool} {h : Heap} {i l : Addr} {k : Nat}, IterB b h i l k → ∃ o, h.get? i = some o ∧ ∀ v, o.data ≠ .cell v
  | false, _, _, _, _, x => by obtain ⟨o, e, c, d⟩ := x; exact ⟨o, e, fun v q => by rw [d] at q; cases q⟩
  | true, _, _, _, _, x => by obtain ⟨o, e, c, d⟩ := x; exact ⟨o, e, fun v q => by rw [d] at q; cases q⟩
section
variable {prog : Program} {w : World} {A : Around} {E : Value → Shared → Prop} {s : Shared}
theorem tupit_item {it t : Addr} {i : Nat} {items : Array Value} {x : Value} {Q : Value → Shared → Prop} (hit : s.heap.IsTupleIter it t i) (ht : s.heap.IsTuple t items) (hx : items[i]? = some x)
    (hQ : ∀ h', h'.IsTupleIter it t (i + 1) → Heap.SameBut it s.heap h' → Q x { s with heap := h' }) : wpAny (model prog w) A (Builtin.SmallTypes.nextOf (.ref it)) Q E s := by
  obtain ⟨o, ho, hc, hd⟩ := id hit
  obtain ⟨ol, hol, _, nl, hdl⟩ := ht
  unfold Builtin.SmallTypes.nextOf
  refine wpAny_bind (wpAny_callSpecial?_slot (name := Str.ofString "__next__") hit.typeIs F.slot_tuple_iterator_next (wpAny_call_entry F.slot_tuple_iterator_next hit.typeIs F.entry_tuple_iterator_next (show wpAny _ _ (field (.ref it) 0 >>= _) _ _ s from wpAny_bind (wpAny_field ho hd (x := .ref t) rfl ?_)) (F.args_tuple_iterator_next_1 _)))
  show wpAny _ _ (if (Value.ref t == Value.none) = true then _ else _) _ _ s
  rw [if_neg (show ¬ ((Value.ref t == Value.none) = true) from Bool.false_ne_true)]
  refine (show wpAny _ _ (field (.ref it) 1 >>= _) _ _ s from wpAny_bind (wpAny_field ho hd (x := .int i 0) rfl (show wpAny _ _ (seqItems? (.ref t) >>= _) _ _ s from wpAny_bind (wpAny_seqItems hol hdl ?_))))
  simp only [Int.toNat_natCast, hx]
  refine wpAny_bind (wpAny_setField ho hd (by simp) (wpAny_pure ⟨x, rfl, wpAny_pure (hQ _ ⟨_, Heap.get?_update_self _ ho (Obj.isFreed_of_fields (Obj.data_mapFields hd _)), (Obj.cls_mapFields ..).trans hc, ?_⟩ (Heap.SameBut.update ..))⟩))
  rw [Obj.data_mapFields hd]; simp [rawInt]
theorem tupit_end {it t : Addr} {i : Nat} {items : Array Value} {Q : Value → Shared → Prop} (hh : A.handled = none) (hit : s.heap.IsTupleIter it t i) (ht : s.heap.IsTuple t items) (hx : items[i]? = none)
    (hE : ∀ h' e, Heap.ExtBut it s.heap h' → (∃ o, h'.get? e = some o ∧ o.cls = .type "StopIteration") → E (.ref e) { s with heap := h' }) : wpAny (model prog w) A (Builtin.SmallTypes.nextOf (.ref it)) Q E s := by
  obtain ⟨o, ho, hc, hd⟩ := id hit
  obtain ⟨ol, hol, _, nl, hdl⟩ := ht
  unfold Builtin.SmallTypes.nextOf
  refine wpAny_bind (wpAny_callSpecial?_slot (name := Str.ofString "__next__") hit.typeIs F.slot_tuple_iterator_next (wpAny_call_entry F.slot_tuple_iterator_next hit.typeIs F.entry_tuple_iterator_next (show wpAny _ _ (field (.ref it) 0 >>= _) _ _ s from wpAny_bind (wpAny_field ho hd (x := .ref t) rfl ?_)) (F.args_tuple_iterator_next_1 _)))
  show wpAny _ _ (if (Value.ref t == Value.none) = true then _ else _) _ _ s
  rw [if_neg (show ¬ ((Value.ref t == Value.none) = true) from Bool.false_ne_true)]
  refine (show wpAny _ _ (field (.ref it) 1 >>= _) _ _ s from wpAny_bind (wpAny_field ho hd (x := .int i 0) rfl (show wpAny _ _ (seqItems? (.ref t) >>= _) _ _ s from wpAny_bind (wpAny_seqItems hol hdl ?_))))
  simp only [Int.toNat_natCast, hx]
  refine wpAny_bind (wpAny_rule (wpAny_bind (wpAny_setField ho hd (by simp) (show wpAny _ _ (newExc (.type "StopIteration") [] >>= _) _ _ _ from wpAny_bind ?_))))
  simp only [newExc, newTuple]
  refine wpAny_bind (wpAny_newObj_type (wpAny_bind (m := firstArgMember _ _) (wpAny_of_eq (a := Value.none) (by first | rfl | (simp only [firstArgMember]; rfl)) (wpAny_newObj_type ?_ (by size_fits)))) (by size_fits))
  simp only [raiseNew]
  refine wpAny_bind (wpAny_handled ?_)
  first | rw [show A.in1.handled = none from hh] | rw [hh]
  exact wpAny_bind (wpAny_pure (wpAny_throw (hE _ _ (((Heap.SameBut.update ..).extBut.push _).push _) ⟨_, Heap.get?_push_size _ rfl, rfl⟩)))
theorem iterB_item {b : Bool} {it l : Addr} {i : Nat} {items : Array Value} {x : Value} {Q : Value → Shared → Prop} (hit : IterB b s.heap it l i) (hl : SeqB b s.heap l items) (hx : items[i]? = some x)
    (hQ : ∀ h', IterB b h' it l (i + 1) → Heap.SameBut it s.heap h' → Q x { s with heap := h' }) : wpAny (model prog w) A (Builtin.SmallTypes.nextOf (.ref it)) Q E s := by
  cases b with
  | false => exact wpAny_nextOf_list_item hit hl hx hQ
  | true => exact tupit_item hit hl hx hQ
theorem iterB_end {b : Bool} {it l : Addr} {i : Nat} {items : Array Value} {Q : Value → Shared → Prop} (hh : A.handled = none) (hit : IterB b s.heap it l i) (hl : SeqB b s.heap l items) (hx : items[i]? = none)
    (hE : ∀ h' e, Heap.ExtBut it s.heap h' → (∃ o, h'.get? e = some o ∧ o.cls = .type "StopIteration") → E (.ref e) { s with heap := h' }) : wpAny (model prog w) A (Builtin.SmallTypes.nextOf (.ref it)) Q E s := by
  cases b with
  | false => exact wpAny_nextOf_list_end hh hit hl hx hE
  | true => exact tupit_end hh hit hl hx hE
end
end Mx
end
section
set_option Elab.async false
set_option linter.all false
set_option maxRecDepth 100000
set_option maxHeartbeats 4000000
namespace Mx
open PySem PySem.W PySem.Spec PyProof.Rows L2
/-- what is walked is none of zip's own things -/
structure ZipOff (z TO i1 i2 l : Addr) : Prop where
  z : l ≠ z
  o : l ≠ TO
  a : l ≠ i1
  b : l ≠ i2
section
variable {prog : Program} {w : World} {A : Around} {E : Value → Shared → Prop} {s : Shared}
theorem zipB_item {b1 b2 : Bool} {z TI TO i1 i2 l1 l2 : Addr} {k1 k2 : Nat} {xs ys : Array Value} {x y a b : Value} {Q : Option Value → Shared → Prop} (D : ZipAp z TI TO i1 i2) (O1 : ZipOff z TO i1 i2 l1) (O2 : ZipOff z TO i1 i2 l2)
    (hz : IsZip s.heap z TI TO .none) (hTI : IsPair s.heap TI (.ref i1) (.ref i2)) (hTO : IsPair s.heap TO a b) (h1 : IterB b1 s.heap i1 l1 k1) (h2 : IterB b2 s.heap i2 l2 k2) (hl1 : SeqB b1 s.heap l1 xs) (hl2 : SeqB b2 s.heap l2 ys) (hx : xs[k1]? = some x) (hy : ys[k2]? = some y)
    (hQ : ∀ h', IsZip h' z TI TO (rawInt s.heap.objs.size) → IsPair h' TO x y → IterB b1 h' i1 l1 (k1 + 1) → IterB b2 h' i2 l2 (k2 + 1) → IsPair h' s.heap.objs.size x y →
      (∀ c o, c ≠ z → c ≠ TO → c ≠ i1 → c ≠ i2 → s.heap.get? c = some o → h'.get? c = some o) → Q (some (.ref s.heap.objs.size)) { s with heap := h' }) : wpAny (model prog w) A (pyNext (.ref z)) Q E s := by
  have hT : s.TypeIs (.ref z) "zip" := ⟨_, hz, rfl⟩
  unfold pyNext
  refine wpAny_bind (wpAny_attempt (wpAny_callSpecial?_slot (name := Str.ofString "__next__") hT F.slot_zip_next (wpAny_call_entry F.slot_zip_next hT F.entry_zip_next ?_ (F.args_zip_next_1 _))))
  refine (show wpAny _ _ (field (.ref z) 2 >>= _) _ _ _ from wpAny_bind (wpAny_field hz rfl (x := .bool false) rfl (show wpAny _ _ (field (.ref z) 3 >>= _) _ _ _ from wpAny_bind (wpAny_field hz rfl (x := .ref TI) rfl (wpAny_bind (wpAny_seqItems hTI rfl (show wpAny _ _ (Builtin.SmallTypes.ownedTupleIsFree (.ref z) >>= _) _ _ _ from wpAny_bind ?_)))))))
  unfold Builtin.SmallTypes.ownedTupleIsFree
  refine wpAny_bind (wpAny_field hz rfl (x := .none) rfl (wpAny_pure ?_))
  simp only [if_true]
  refine wpAny_bind (wpAny_rule (wpAny_bind (wpAny_field hz rfl (x := .ref TO) rfl (wpAny_bind (wpAny_setField_rec hz (by simp) fun g1 z1 e1 => wpAny_bind ?_)))))
  replace z1 : IsZip g1 z TI TO .ellipsis := z1
  simp only [List.zipIdx_cons, List.zipIdx_nil, List.forIn_cons, List.forIn_nil]
  refine wpAny_bind (wpAny_bind (wpAny_onRaise (show wpAny _ _ (Builtin.SmallTypes.nextOf (.ref i1) >>= _) _ _ _ from wpAny_bind (iterB_item (h1.at fun o q => e1.extBut _ o D.i1z q) (hl1.at fun o q => e1.extBut _ o O1.z q) hx fun g2 j1 e2 => wpAny_pure ?_))))
  have t2 : IsPair g2 TO a b := e2.extBut _ _ D.TOi1 (e1.extBut _ _ D.TOz hTO)
  refine wpAny_bind (wpAny_seqItems t2 rfl (wpAny_bind (wpAny_updateSeq_pair t2 fun g3 t3 e3 => wpAny_bind (wpAny_letGo (wpAny_pure ?_)))))
  replace t3 : IsPair g3 TO x b := t3
  refine wpAny_bind (wpAny_bind (wpAny_onRaise (show wpAny _ _ (Builtin.SmallTypes.nextOf (.ref i2) >>= _) _ _ _ from wpAny_bind (iterB_item (h2.at fun o q => e3.extBut _ o D.TOi2.symm (e2.extBut _ o D.i12.symm (e1.extBut _ o D.i2z q))) (hl2.at fun o q => e3.extBut _ o O2.o (e2.extBut _ o O2.a (e1.extBut _ o O2.z q))) hy fun g4 j2 e4 => wpAny_pure ?_))))
  have t4 : IsPair g4 TO x b := e4.extBut _ _ D.TOi2 t3
  refine wpAny_bind (wpAny_seqItems t4 rfl (wpAny_bind (wpAny_updateSeq_pair t4 fun g5 t5 e5 => wpAny_bind (wpAny_letGo (wpAny_pure (wpAny_pure ?_))))))
  replace t5 : IsPair g5 TO x y := t5
  refine wpAny_bind (wpAny_seqItems t5 rfl (wpAny_bind (wpAny_newTuple ?_)))
  have sz : g5.objs.size = s.heap.objs.size := by rw [e5.1, e4.1, e3.1, e2.1, e1.1]
  have z5 : IsZip g5 z TI TO .ellipsis := e5.extBut _ _ D.TOz.symm (e4.extBut _ _ D.i2z.symm (e3.extBut _ _ D.TOz.symm (e2.extBut _ _ D.i1z.symm z1)))
  have old : ∀ c o, c ≠ z → c ≠ TO → c ≠ i1 → c ≠ i2 → s.heap.get? c = some o → g5.get? c = some o := fun c o c1 c2 c3 c4 q => e5.extBut _ _ c2 (e4.extBut _ _ c4 (e3.extBut _ _ c2 (e2.extBut _ _ c3 (e1.extBut _ _ c1 q))))
  have n1 : IterB b1 g5 i1 l1 (k1 + 1) := j1.at fun o q => e5.extBut _ o D.TOi1.symm (e4.extBut _ o D.i12 (e3.extBut _ o D.TOi1.symm q))
  have n2 : IterB b2 g5 i2 l2 (k2 + 1) := j2.at fun o q => e5.extBut _ o D.TOi2.symm q
  have zlt : z < g5.objs.size := Heap.lt_size z5
  refine (show wpAny _ _ (Builtin.SmallTypes.ownedTupleHandOut (.ref z) (.ref g5.objs.size) >>= _) _ _ _ from wpAny_bind ?_)
  unfold Builtin.SmallTypes.ownedTupleHandOut
  have z6 : IsZip (g5.push { cls := .type "tuple", data := .seq #[x, y] }) z TI TO .ellipsis := Heap.get?_push_of_some _ z5
  refine wpAny_bind (wpAny_setField_rec z6 (by simp) fun g7 z7 e7 => ?_)
  replace z7 : IsZip g7 z TI TO (rawInt g5.objs.size) := z7
  refine wpAny_setField_rec z7 (by simp) fun g8 z8 e8 => ?_
  replace z8 : IsZip g8 z TI TO (rawInt g5.objs.size) := z8
  have up : ∀ c o, c ≠ z → g5.get? c = some o → g8.get? c = some o := fun c o c1 q => e8.extBut _ _ c1 (e7.extBut _ _ c1 (Heap.get?_push_of_some _ q))
  have t8 : IsPair g8 g5.objs.size x y := e8.extBut _ _ (Nat.ne_of_gt zlt) (e7.extBut _ _ (Nat.ne_of_gt zlt) (Heap.get?_push_size _ rfl))
  rw [sz] at z8 t8
  refine wpAny_pure ⟨_, rfl, wpAny_pure ?_⟩
  show Q (some (.ref g5.objs.size)) _
  rw [sz]
  exact hQ g8 z8 (up _ _ D.TOz t5) (n1.at fun o q => up _ o D.i1z q) (n2.at fun o q => up _ o D.i2z q) t8 fun c o c1 c2 c3 c4 q => up c o c1 (old c o c1 c2 c3 c4 q)
theorem zipB_end {b1 b2 : Bool} {z TI TO i1 i2 l1 l2 : Addr} {k1 k2 : Nat} {xs ys : Array Value} {a b : Value} {Q : Option Value → Shared → Prop} (hh : A.handled = none) (D : ZipAp z TI TO i1 i2) (O1 : ZipOff z TO i1 i2 l1) (O2 : ZipOff z TO i1 i2 l2)
    (hz : IsZip s.heap z TI TO .none) (hTI : IsPair s.heap TI (.ref i1) (.ref i2)) (hTO : IsPair s.heap TO a b) (h1 : IterB b1 s.heap i1 l1 k1) (h2 : IterB b2 s.heap i2 l2 k2) (hl1 : SeqB b1 s.heap l1 xs) (hl2 : SeqB b2 s.heap l2 ys) (hend : xs[k1]? = none ∨ ys[k2]? = none)
    (hQ : ∀ h', (∀ c o, c ≠ z → c ≠ TO → c ≠ i1 → c ≠ i2 → s.heap.get? c = some o → h'.get? c = some o) → Q none { s with heap := h' }) : wpAny (model prog w) A (pyNext (.ref z)) Q E s := by
  have hT : s.TypeIs (.ref z) "zip" := ⟨_, hz, rfl⟩
  unfold pyNext
  refine wpAny_bind (wpAny_attempt (wpAny_callSpecial?_slot (name := Str.ofString "__next__") hT F.slot_zip_next (wpAny_call_entry F.slot_zip_next hT F.entry_zip_next ?_ (F.args_zip_next_1 _))))
  have stop : ∀ (h' : Heap) (e : Addr), (∀ c o, c ≠ z → c ≠ TO → c ≠ i1 → c ≠ i2 → s.heap.get? c = some o → h'.get? c = some o) → (∃ o, h'.get? e = some o ∧ o.cls = .type "StopIteration") → wpAny (model prog w) A (isInstance (.ref e) (.type "StopIteration")) (fun r s' => r = true ∧ Q none s') E { s with heap := h' } := fun h' e kk he => by
    obtain ⟨o, ho, hc⟩ := he
    exact wpAny_isInstance (T := "StopIteration") (b := true) ⟨o, ho, hc⟩ isSubtype_stop ⟨rfl, hQ _ kk⟩
  refine (show wpAny _ _ (field (.ref z) 2 >>= _) _ _ _ from wpAny_bind (wpAny_field hz rfl (x := .bool false) rfl (show wpAny _ _ (field (.ref z) 3 >>= _) _ _ _ from wpAny_bind (wpAny_field hz rfl (x := .ref TI) rfl (wpAny_bind (wpAny_seqItems hTI rfl (show wpAny _ _ (Builtin.SmallTypes.ownedTupleIsFree (.ref z) >>= _) _ _ _ from wpAny_bind ?_)))))))
  unfold Builtin.SmallTypes.ownedTupleIsFree
  refine wpAny_bind (wpAny_field hz rfl (x := .none) rfl (wpAny_pure ?_))
  simp only [if_true]
  refine wpAny_bind (wpAny_rule (wpAny_bind (wpAny_field hz rfl (x := .ref TO) rfl (wpAny_bind (wpAny_setField_rec hz (by simp) fun g1 z1 e1 => wpAny_bind ?_)))))
  replace z1 : IsZip g1 z TI TO .ellipsis := z1
  simp only [List.zipIdx_cons, List.zipIdx_nil, List.forIn_cons, List.forIn_nil]
  refine wpAny_bind (wpAny_bind (wpAny_onRaise ?_))
  show wpAny _ _ (Builtin.SmallTypes.nextOf (.ref i1) >>= _) _ _ _
  cases hx : xs[k1]? with
  | none =>
    refine wpAny_bind (iterB_end hh (h1.at fun o q => e1.extBut _ o D.i1z q) (hl1.at fun o q => e1.extBut _ o O1.z q) hx fun g2 e e2 he => ?_)
    obtain ⟨oe, hoe, hce⟩ := he
    have z2 : IsZip g2 z TI TO .ellipsis := e2 _ _ D.i1z.symm z1
    have hez : e ≠ z := fun x => by subst x; rw [z2] at hoe; cases hoe; simp at hce
    refine wpAny_setField_rec z2 (by simp) fun g3 _ e3 => ?_
    refine wpAny_bind (wpAny_mono (stop g3 e (fun c o c1 _ c3 _ x => e3.extBut _ _ c1 (e2 _ _ c3 (e1.extBut _ _ c1 x))) ⟨oe, e3.extBut _ _ hez hoe, hce⟩) (fun r s' q => ?_) fun _ _ q => q)
    obtain ⟨rfl, q⟩ := q
    exact wpAny_pure q
  | some x =>
    have hy : ys[k2]? = none := by rcases hend with h | h; rw [hx] at h; cases h; exact h
    refine wpAny_bind (iterB_item (h1.at fun o q => e1.extBut _ o D.i1z q) (hl1.at fun o q => e1.extBut _ o O1.z q) hx fun g2 j1 e2 => wpAny_pure ?_)
    have t2 : IsPair g2 TO a b := e2.extBut _ _ D.TOi1 (e1.extBut _ _ D.TOz hTO)
    refine wpAny_bind (wpAny_seqItems t2 rfl (wpAny_bind (wpAny_updateSeq_pair t2 fun g3 t3 e3 => wpAny_bind (wpAny_letGo (wpAny_pure ?_)))))
    refine wpAny_bind (wpAny_bind (wpAny_onRaise (show wpAny _ _ (Builtin.SmallTypes.nextOf (.ref i2) >>= _) _ _ _ from wpAny_bind (iterB_end hh (h2.at fun o q => e3.extBut _ o D.TOi2.symm (e2.extBut _ o D.i12.symm (e1.extBut _ o D.i2z q))) (hl2.at fun o q => e3.extBut _ o O2.o (e2.extBut _ o O2.a (e1.extBut _ o O2.z q))) hy fun g4 e e4 he => ?_))))
    obtain ⟨oe, hoe, hce⟩ := he
    have z4 : IsZip g4 z TI TO .ellipsis := e4 _ _ D.i2z.symm (e3.extBut _ _ D.TOz.symm (e2.extBut _ _ D.i1z.symm z1))
    have hez : e ≠ z := fun x => by subst x; rw [z4] at hoe; cases hoe; simp at hce
    refine wpAny_setField_rec z4 (by simp) fun g5 _ e5 => ?_
    refine wpAny_bind (wpAny_mono (stop g5 e (fun c o c1 c2 c3 c4 x => e5.extBut _ _ c1 (e4 _ _ c4 (e3.extBut _ _ c2 (e2.extBut _ _ c3 (e1.extBut _ _ c1 x))))) ⟨oe, e5.extBut _ _ hez hoe, hce⟩) (fun r s' q => ?_) fun _ _ q => q)
    obtain ⟨rfl, q⟩ := q
    exact wpAny_pure q
end
end Mx
end
section
set_option Elab.async false
set_option linter.all false
set_option maxRecDepth 100000
set_option maxHeartbeats 4000000
namespace Mx
open PySem PySem.W PySem.Spec PyProof.Rows L2
def itObj : Bool → Addr → Obj
  | false, l => { cls := .type "list_iterator", data := .fields #[.ref l, .int 0 0] }
  | true, l => { cls := .type "tuple_iterator", data := .fields #[.ref l, .int 0 0] }
theorem itObj_at : ∀ {b : Bool} {h : Heap} {i l : Addr}, h.get? i = some (itObj b l) → IterB b h i l 0
  | false, _, _, _, e => ⟨_, e, rfl, rfl⟩
  | true, _, _, _, e => ⟨_, e, rfl, rfl⟩
theorem itObj_frd (b : Bool) (l : Addr) : (itObj b l).isFreed = false := by cases b <;> rfl
abbrev zH1 (h : Heap) (b1 : Bool) (l1 : Addr) : Heap := h.push (itObj b1 l1)
abbrev zH2 (h : Heap) (b1 b2 : Bool) (l1 l2 : Addr) : Heap := (zH1 h b1 l1).push (itObj b2 l2)
abbrev zH3 (h : Heap) (b1 b2 : Bool) (l1 l2 : Addr) : Heap := (zH2 h b1 b2 l1 l2).push { cls := .type "tuple", data := .seq #[.ref h.objs.size, .ref (zH1 h b1 l1).objs.size] }
abbrev zH4 (h : Heap) (b1 b2 : Bool) (l1 l2 : Addr) : Heap := (zH3 h b1 b2 l1 l2).push { cls := .type "tuple", data := .seq #[.none, .none] }
abbrev zH5 (h : Heap) (b1 b2 : Bool) (l1 l2 : Addr) : Heap := (zH4 h b1 b2 l1 l2).push { cls := .type "zip", data := .fields #[.none, .bool false, .bool false, .ref (zH2 h b1 b2 l1 l2).objs.size, .ref (zH3 h b1 b2 l1 l2).objs.size] }
theorem SeqB.push {b : Bool} {h : Heap} {l : Addr} {xs : Array Value} (x : SeqB b h l xs) (o : Obj) : SeqB b (h.push o) l xs := x.at fun _ e => Heap.get?_push_of_some _ e
theorem zipB_new (b1 b2 : Bool) (l1 l2 : Addr) (xs ys : Array Value) :
    Meets (Builtin.«zip.__new__» ⟨[.type "zip", .ref l1, .ref l2], []⟩) (fun _ R s => SeqB b1 s.heap l1 xs ∧ SeqB b2 s.heap l2 ys ∧ R (.ok (.ret (.ref (zH4 s.heap b1 b2 l1 l2).objs.size))) { s with heap := zH5 s.heap b1 b2 l1 l2 }) :=
  .of_wp fun prog w A R s h => by
    obtain ⟨hp, g, d, tk, os⟩ := s
    obtain ⟨hl1, hl2, h⟩ := h
    have hsub := sub_zip
    have hL2 := hl2.push (itObj b1 l1)
    cases b1 <;> cases b2
    · have k1 : Heap.IsList (Shared.heap ⟨hp, g, d, tk, os⟩) l1 xs := hl1
      have k2 : Heap.IsList (Shared.heap ⟨hp.push { cls := .type "list_iterator", data := .fields #[.ref l1, .int 0 0] }, g, d, tk, os⟩) l2 ys := hL2
      wp_walk using wpAny_pyIter_list k1, wpAny_pyIter_list k2
      exact ⟨_, rfl, h⟩
    · have k1 : Heap.IsList (Shared.heap ⟨hp, g, d, tk, os⟩) l1 xs := hl1
      have k2 : Heap.IsTuple (Shared.heap ⟨hp.push { cls := .type "list_iterator", data := .fields #[.ref l1, .int 0 0] }, g, d, tk, os⟩) l2 ys := hL2
      wp_walk using wpAny_pyIter_list k1, wpAny_pyIter_tuple k2
      exact ⟨_, rfl, h⟩
    · have k1 : Heap.IsTuple (Shared.heap ⟨hp, g, d, tk, os⟩) l1 xs := hl1
      have k2 : Heap.IsList (Shared.heap ⟨hp.push { cls := .type "tuple_iterator", data := .fields #[.ref l1, .int 0 0] }, g, d, tk, os⟩) l2 ys := hL2
      wp_walk using wpAny_pyIter_tuple k1, wpAny_pyIter_list k2
      exact ⟨_, rfl, h⟩
    · have k1 : Heap.IsTuple (Shared.heap ⟨hp, g, d, tk, os⟩) l1 xs := hl1
      have k2 : Heap.IsTuple (Shared.heap ⟨hp.push { cls := .type "tuple_iterator", data := .fields #[.ref l1, .int 0 0] }, g, d, tk, os⟩) l2 ys := hL2
      wp_walk using wpAny_pyIter_tuple k1, wpAny_pyIter_tuple k2
      exact ⟨_, rfl, h⟩
section
variable {prog : Program} {w : World} {A : Around} {E : Value → Shared → Prop} {s : Shared}
theorem call_zipB {b1 b2 : Bool} {l1 l2 : Addr} {xs ys : Array Value} {Q : Value → Shared → Prop} (hl1 : SeqB b1 s.heap l1 xs) (hl2 : SeqB b2 s.heap l2 ys)
    (h : ∀ h', IsZip h' (s.heap.objs.size + 4) (s.heap.objs.size + 2) (s.heap.objs.size + 3) .none → IsPair h' (s.heap.objs.size + 2) (.ref s.heap.objs.size) (.ref (s.heap.objs.size + 1)) → IsPair h' (s.heap.objs.size + 3) .none .none →
      IterB b1 h' s.heap.objs.size l1 0 → IterB b2 h' (s.heap.objs.size + 1) l2 0 → (∀ c o, s.heap.get? c = some o → h'.get? c = some o) → Q (.ref (s.heap.objs.size + 4)) { s with heap := h' }) : wpAny (model prog w) A (call (.type "zip") [.ref l1, .ref l2]) Q E s := by
  refine callType_new F.called_zip (by decide) (F.typeCall_zip_2 _ _) (F.newCall_zip_2 _ _) (fun obj => F.args_object_init_3 obj _ _) F.entry_zip_new (zipB_new b1 b2 l1 l2 xs ys) ⟨hl1, hl2, ?_⟩
  have y1 : (zH1 s.heap b1 l1).objs.size = s.heap.objs.size + 1 := Heap.size_push ..
  have y2 : (zH2 s.heap b1 b2 l1 l2).objs.size = s.heap.objs.size + 2 := by rw [Heap.size_push, y1]
  have y3 : (zH3 s.heap b1 b2 l1 l2).objs.size = s.heap.objs.size + 3 := by rw [Heap.size_push, y2]
  have y4 : (zH4 s.heap b1 b2 l1 l2).objs.size = s.heap.objs.size + 4 := by rw [Heap.size_push, y3]
  have g5 : (zH5 s.heap b1 b2 l1 l2).get? (zH4 s.heap b1 b2 l1 l2).objs.size = some _ := Heap.get?_push_size _ rfl
  have g4 : (zH5 s.heap b1 b2 l1 l2).get? (zH3 s.heap b1 b2 l1 l2).objs.size = some _ := Heap.get?_push_of_some _ (Heap.get?_push_size _ rfl)
  have g3 : (zH5 s.heap b1 b2 l1 l2).get? (zH2 s.heap b1 b2 l1 l2).objs.size = some _ := Heap.get?_push_of_some _ (Heap.get?_push_of_some _ (Heap.get?_push_size _ rfl))
  have g2 : (zH5 s.heap b1 b2 l1 l2).get? (zH1 s.heap b1 l1).objs.size = some _ := Heap.get?_push_of_some _ (Heap.get?_push_of_some _ (Heap.get?_push_of_some _ (Heap.get?_push_size _ (itObj_frd b2 l2))))
  have g1 : (zH5 s.heap b1 b2 l1 l2).get? s.heap.objs.size = some _ := Heap.get?_push_of_some _ (Heap.get?_push_of_some _ (Heap.get?_push_of_some _ (Heap.get?_push_of_some _ (Heap.get?_push_size _ (itObj_frd b1 l1)))))
  show _ ∧ _
  rw [y2, y3, y4] at g5
  rw [y1, y2] at g3
  rw [y3] at g4
  rw [y1] at g2
  rw [y4]
  exact ⟨⟨_, g5, rfl⟩, h _ g5 g3 g4 (itObj_at g1) (itObj_at g2) fun c o x => Heap.get?_push_of_some _ (Heap.get?_push_of_some _ (Heap.get?_push_of_some _ (Heap.get?_push_of_some _ (Heap.get?_push_of_some _ x))))⟩
end
/-- a tracked list or tuple -/
def hoB : Bool → List V → HO
  | false, xs => .lst xs
  | true, xs => .tup xs
theorem hoB_inj {b : Bool} {xs ys : List V} (h : hoB b xs = hoB b ys) : xs = ys := by
  cases b with
  | false => injection h
  | true => injection h
def Itq (b1 b2 : Bool) (l1 l2 : Addr) : It where
  go := fun i H => ∃ xs ys x y, H l1 = some (hoB b1 xs) ∧ H l2 = some (hoB b2 ys) ∧ xs[i]? = some x ∧ ys[i]? = some y
  yld := fun i H v H' => ∃ p x y, v = .ref p ∧ H p = none ∧ H' = upd H p (.tup [x, y]) ∧ ∀ xs ys, H l1 = some (hoB b1 xs) → H l2 = some (hoB b2 ys) → xs[i]? = some x ∧ ys[i]? = some y
  stop := fun i H => ∃ xs ys, H l1 = some (hoB b1 xs) ∧ H l2 = some (hoB b2 ys) ∧ (xs.length ≤ i ∨ ys.length ≤ i)
theorem seqB_at {X : Cx} {pins : List (Addr × Obj)} {s : Shared} {σ : L2.St} {H : Hp} (I : Inv X pins σ H s) {b : Bool} {l : Addr} {xs : List V} (h : H l = some (hoB b xs)) : ∃ its : List Value, Vals xs its ∧ SeqB b s.heap l its.toArray := by
  cases b with
  | false => obtain ⟨its, r, p, _⟩ := I.list (.inl (.inl h)); exact ⟨its, r, p.isList⟩
  | true => obtain ⟨its, r, p, _⟩ := I.tuple (.inl (.inl h)); exact ⟨its, r, p⟩
def zTq (b1 b2 : Bool) (z TI TO i1 i2 l1 l2 : Addr) (i : Nat) (h : Heap) : Prop := IsZip h z TI TO .none ∧ IsPair h TI (.ref i1) (.ref i2) ∧ (∃ a b, IsPair h TO a b) ∧ IterB b1 h i1 l1 i ∧ IterB b2 h i2 l2 i
theorem turn_zipB {P : Program} {w : World} {K : PySem.W.Frag} {es : List Expr} {k : Nat} {tp : Pos} {b1 b2 : Bool} {z TI TO i1 i2 l1 l2 : Addr} (ap : ZipAp z TI TO i1 i2) :
    Turn P w K (.Tuple es k tp) (Itq b1 b2 l1 l2) [z, TI, TO, i1, i2] z (zTq b1 b2 z TI TO i1 i2 l1 l2) where
  mem := by simp
  obj := fun i h st b hb => by
    obtain ⟨s1, s2, ⟨a, b', s3⟩, s4, s5⟩ := st
    simp only [List.mem_cons, List.not_mem_nil, or_false] at hb
    rcases hb with rfl | rfl | rfl | rfl | rfl
    · exact ⟨_, s1, fun v q => by cases q⟩
    · exact ⟨_, s2, fun v q => by cases q⟩
    · exact ⟨_, s3, fun v q => by cases q⟩
    · exact s4.obj
    · exact s5.obj
  keep := fun i h h' st kk => by
    obtain ⟨s1, s2, ⟨a, b', s3⟩, s4, s5⟩ := st
    exact ⟨kk z (by simp) _ s1, kk TI (by simp) _ s2, ⟨a, b', kk TO (by simp) _ s3⟩, s4.at fun o e => kk i1 (by simp) o e, s5.at fun o e => kk i2 (by simp) o e⟩
  item := by
    intro X hP hw hK hc i pins s σ H E I hf st hg
    subst hP hw hK
    obtain ⟨xs, ys, x, y, hl1, hl2, hx, hy⟩ := hg
    obtain ⟨s1, s2, ⟨a, b', s3⟩, s4, s5⟩ := st
    obtain ⟨its1, r1, p1⟩ := seqB_at I hl1
    obtain ⟨its2, r2, p2⟩ := seqB_at I hl2
    obtain ⟨u1, hu1, ru1⟩ := r1.get hx
    obtain ⟨u2, hu2, ru2⟩ := r2.get hy
    have ne : ∀ {l : Addr} {o : HO}, H l = some o → ∀ b ∈ [z, TI, TO, i1, i2], l ≠ b := fun {l o} hl b hb e => by
      subst e
      rw [(hf l hb).1] at hl
      cases hl
    have off : ∀ {l : Addr} {o : HO}, H l = some o → ZipOff z TO i1 i2 l := fun {l o} hl => ⟨ne hl z (by simp), ne hl TO (by simp), ne hl i1 (by simp), ne hl i2 (by simp)⟩
    refine zipB_item ap (off hl1) (off hl2) s1 s2 s3 s4 s5 p1 p2 (by simpa using hu1) (by simpa using hu2) fun h' a1 a2 a3 a4 a5 a7 => ⟨_, rfl, ?_⟩
    refine wpAny_letOwnedTupleGo_zip (s := { s with heap := h' }) a1 fun h2 c1 c2 => ?_
    have hTz : s.heap.objs.size ≠ z := fun e => by
      have := Heap.lt_size s1
      rw [← e] at this
      exact Nat.lt_irrefl _ this
    have hTI2 : IsPair h2 TI (.ref i1) (.ref i2) := (c2.2 TI ap.TIz).trans (a7 TI _ ap.TIz ap.TITO ap.TIi1 ap.TIi2 s2)
    have hP2 : h2.get? s.heap.objs.size = some { cls := .type "tuple", data := .seq #[u1, u2] } := (c2.2 _ hTz).trans a5
    have kk : ∀ b o, b ∉ [z, TI, TO, i1, i2] → s.heap.get? b = some o → h2.get? b = some o := fun b o hb e => by
      simp only [List.mem_cons, List.not_mem_nil, or_false, not_or] at hb
      exact (c2.2 b hb.1).trans (a7 b o hb.1 hb.2.2.1 hb.2.2.2.1 hb.2.2.2.2 e)
    have lt : ∀ {b : Addr} {o : Obj}, s.heap.get? b = some o → b ≠ s.heap.objs.size := fun e => Nat.ne_of_lt (Heap.lt_size e)
    have nfp : ∀ b u, H b = some u → b ∉ [z, TI, TO, i1, i2] := fun b u e hb => by rw [(hf b hb).1] at e; cases e
    have hTn : H s.heap.objs.size = none := I.fresh
    have I2 : Inv X pins σ (upd H s.heap.objs.size (.tup [x, y])) { s with heap := h2, toks := s.toks } := by
      refine I.step (g' := s.gens) (d' := s.drawn) (ch := [z, TI, TO, i1, i2]) (fun b hb => ⟨(hf b hb).2.2.2.1, (hf b hb).2.1, (hf b hb).2.2.2.2.1, (hf b hb).2.2.2.2.2⟩) (fun b o _ _ hb e _ => kk b o hb e) (fun b o _ _ hb e _ => ⟨o.slots, kk b o hb e⟩)
        (fun b o hb e n => by rw [upd_ne (lt e)]; exact n) (fun b o hb e => ⟨o, kk b o hb e⟩) (fun b zs e => by rw [upd_ne (ne_of_none e hTn)]; exact e) (fun b o u e => by rw [upd_ne (ne_of_none e hTn)]; exact e)
        (fun b ps e => ⟨#[], by rw [upd_ne (ne_of_none e hTn), e]; simp⟩) (fun m hm => ?_) (fun b u e => ?_) I.bare
      · obtain ⟨o, es', ep, ho, rr⟩ := hm
        exact ⟨o, es', ep, kk _ o (fun hb => (hf _ hb).2.1 rfl) ho, rr⟩
      · by_cases hb : b = s.heap.objs.size
        · subst hb
          rw [upd_same] at e
          cases e
          exact ⟨by show 2 ≤ sizeLine; decide, [u1, u2], .cons ru1 (.cons ru2 .nil), _, hP2, rfl, 0, rfl⟩
        · rw [upd_ne hb] at e
          refine (I.hok b u e).stay (fun c v hc q => kk c v ?_ q) (fun c q => by rw [upd_ne (ne_of_none q hTn)]; exact q) fun c zs q => by rw [upd_ne (ne_of_none q hTn)]; exact q
          rcases hc with rfl | hc
          · exact nfp c u e
          · exact nfp c _ hc
    refine ⟨.ref s.heap.objs.size, _, I2, rfl, ⟨s.heap.objs.size, x, y, rfl, hTn, rfl, fun xs' ys' q1 q2 => ?_⟩, ⟨c1, hTI2, ⟨u1, u2, (c2.2 TO ap.TOz).trans a2⟩, a3.at fun o e => (c2.2 i1 ap.i1z).trans e, a4.at fun o e => (c2.2 i2 ap.i2z).trans e⟩, fun b hb => ?_⟩
    · rw [hl1] at q1
      rw [hl2] at q2
      rw [hoB_inj (Option.some.inj q1).symm, hoB_inj (Option.some.inj q2).symm]
      exact ⟨hx, hy⟩
    · rw [upd_ne (fun e => ?_)]
      · exact (hf b hb).1
      · have q : ∃ o, s.heap.get? b = some o := by
          simp only [List.mem_cons, List.not_mem_nil, or_false] at hb
          rcases hb with rfl | rfl | rfl | rfl | rfl
          · exact ⟨_, s1⟩
          · exact ⟨_, s2⟩
          · exact ⟨_, s3⟩
          · obtain ⟨o, e, _⟩ := s4.obj; exact ⟨o, e⟩
          · obtain ⟨o, e, _⟩ := s5.obj; exact ⟨o, e⟩
        obtain ⟨o, q⟩ := q
        exact lt q e
  done := by
    intro X hP hw hK hc i pins s σ H E I hf st hg
    subst hP hw hK
    obtain ⟨xs, ys, hl1, hl2, hend⟩ := hg
    obtain ⟨s1, s2, ⟨a, b', s3⟩, s4, s5⟩ := st
    obtain ⟨its1, r1, p1⟩ := seqB_at I hl1
    obtain ⟨its2, r2, p2⟩ := seqB_at I hl2
    have ne : ∀ {l : Addr} {o : HO}, H l = some o → ∀ b ∈ [z, TI, TO, i1, i2], l ≠ b := fun {l o} hl b hb e => by
      subst e
      rw [(hf l hb).1] at hl
      cases hl
    have off : ∀ {l : Addr} {o : HO}, H l = some o → ZipOff z TO i1 i2 l := fun {l o} hl => ⟨ne hl z (by simp), ne hl TO (by simp), ne hl i1 (by simp), ne hl i2 (by simp)⟩
    have e1 := r1.length
    have e2 := r2.length
    refine zipB_end (I.ok.hd hc) ap (off hl1) (off hl2) s1 s2 s3 s4 s5 p1 p2 (by simp; omega) fun h' kk => ⟨rfl, ?_⟩
    have nfp : ∀ b u, H b = some u → b ∉ [z, TI, TO, i1, i2] := fun b u e hb => by rw [(hf b hb).1] at e; cases e
    have kk' : ∀ b o, b ∉ [z, TI, TO, i1, i2] → s.heap.get? b = some o → h'.get? b = some o := fun b o hb e => by
      simp only [List.mem_cons, List.not_mem_nil, or_false, not_or] at hb
      exact kk b o hb.1 hb.2.2.1 hb.2.2.2.1 hb.2.2.2.2 e
    refine I.step (g' := s.gens) (d' := s.drawn) (t' := s.toks) (h' := h') (ch := [z, TI, TO, i1, i2]) (fun b hb => ⟨(hf b hb).2.2.2.1, (hf b hb).2.1, (hf b hb).2.2.2.2.1, (hf b hb).2.2.2.2.2⟩) (fun b o _ _ hb e _ => kk' b o hb e) (fun b o _ _ hb e _ => ⟨o.slots, kk' b o hb e⟩)
      (fun b o hb e n => n) (fun b o hb e => ⟨o, kk' b o hb e⟩) (fun b zs e => e) (fun b o u e => e) (fun b ps e => ⟨#[], by rw [e]; simp⟩) (fun m hm => ?_) (fun b u e => ?_) I.bare
    · obtain ⟨o, es', ep, ho, rr⟩ := hm
      exact ⟨o, es', ep, kk' _ o (fun hb => (hf _ hb).2.1 rfl) ho, rr⟩
    · refine (I.hok b u e).stay (fun c v hc q => kk' c v ?_ q) (fun c q => q) fun c zs q => q
      rcases hc with rfl | hc
      · exact nfp c u e
      · exact nfp c _ hc
  self := fun _ _ _ _ _ st h => wpAny_pyIter_zip st.1 h
def iZipB (ta : TA) : TI := fun σ H R => ta σ H fun vs H1 => ∃ b1 b2 l1 l2 xs ys, vs = [.ref l1, .ref l2] ∧ H1 l1 = some (hoB b1 xs) ∧ H1 l2 = some (hoB b2 ys) ∧ R (Itq b1 b2 l1 l2) H1
theorem pi_zipB {X : Cx} {es : List Expr} {k : Nat} {tp : Pos} {a b : Expr} {ta : TA} {p pos : Pos} (hg : Gl X "zip") (hm : X.mg "zip" = none) (ha : PA X [a, b] ta) (hs : starEach [a, b] X.env = [(false, eval a X.env), (false, eval b X.env)] := by rfl) (hs2 : starEach [b] X.env = [(false, eval b X.env)] := by rfl) :
    PI X (.Tuple es k tp) (.Call (.Name "zip" p) [a, b] [] pos) (iZipB ta) := by
  intro pins s σ H R I h
  refine Call_ (ld_blt I hg hm boot_zip (PyProof.Rows.callWith_type1 (thn (ha pos pins s σ H _ I h) fun us s1 ⟨vs, H1, I1, r1, q1⟩ => ?_) (by rw [hs, hs2]) (by rw [hs2]; rfl)))
  obtain ⟨b1, b2, l1, l2, xs, ys, e, e1, e2, q⟩ := q1
  subst e
  obtain ⟨u, v, rfl, ru, rv⟩ := r1.two
  cases ru
  cases rv
  obtain ⟨its1, _, p1⟩ := seqB_at I1 e1
  obtain ⟨its2, _, p2⟩ := seqB_at I1 e2
  refine call_zipB p1 p2 fun h' g1 g2 g3 g4 g5 kk => ?_
  refine wpAny_pyIter_zip (s := { s1 with heap := h' }) g1 ?_
  have I2 : Inv X pins σ H1 { s1 with heap := h' } := I1.kept (t' := s1.toks) kk
  refine ⟨s1.heap.objs.size + 4, [s1.heap.objs.size + 4, s1.heap.objs.size + 2, s1.heap.objs.size + 3, s1.heap.objs.size, s1.heap.objs.size + 1], _, _, H1, rfl, I2, turn_zipB (l1 := l1) (l2 := l2) ⟨?_, ?_, ?_, ?_, ?_, ?_, ?_, ?_, ?_, ?_⟩, ⟨g1, g2, ⟨_, _, g3⟩, g4, g5⟩, fun b hb => ?_, q⟩
  iterate 10 (first | (apply Nat.ne_of_lt; omega) | (apply Nat.ne_of_gt; omega))
  have hge : s1.heap.objs.size ≤ b := by
    simp only [List.mem_cons, List.not_mem_nil, or_false] at hb
    rcases hb with h | h | h | h | h <;> (rw [h]; first | exact Nat.le_add_right _ _ | exact Nat.le_refl _)
  exact I1.fpOk hge (I1.hok.fresh hge)
end Mx
end
section
set_option Elab.async false
set_option linter.all false
set_option maxRecDepth 100000
set_option maxHeartbeats 4000000
/-! comprehensions whose items are plain values (ints, bools), and == of lists of data -/
namespace Mx
open PySem PySem.W PySem.Spec PyProof.Rows L2 PySem.SeqAt
section
variable {K : PySem.W.Frag} {g : TG} {tt : TT} {te : TE} {σ0 : L2.St} {D : Addr} {F : Hp → Prop} {H1 : Hp}
theorem comp_invV {J : It} {n : Nat} (hD : H1 D = none) (I : Nat → List V → Prop) (h0 : I 0 []) (hn : n < sizeLine) (go : ∀ i H, i < n → Same H1 H → J.go i H) (stop : ∀ H, Same H1 H → J.stop n H)
    (hs : ∀ i x H H' vs, i < n → Same H1 H → J.yld i H x H' → I i vs → Same H H' ∧ ∀ (N : V → Hp → Prop) (M : Hp → Prop), (∀ v H4, Same H' H4 → I (i + 1) (vs ++ [v]) → N v H4) → (∀ H3, Same H' H3 → I (i + 1) vs → M H3) →
      g x σ0 H' fun σ2 H2 => tt σ2 H2 fun b H3 => if b = true then te σ2 H3 N else M H3)
    (hd : ∀ H acc, Same H1 H → H D = some (.lst acc) → I n acc → F H) : CompW J g tt te σ0 D F H1 := by
  refine ⟨fun i m acc H => m = n - i ∧ i ≤ n ∧ Same H1 H ∧ H D = some (.lst acc) ∧ I i acc ∧ acc.length ≤ i, ⟨n, by simp, Nat.zero_le _, same_new hD _, upd_same, h0, Nat.le_refl _⟩, ?_⟩
  rintro i m acc H ⟨rfl, hi, hS, hDa, hI, hla⟩
  by_cases hlt : i < n
  · refine .inr ⟨go i H hlt hS, fun x H' y => ?_⟩
    obtain ⟨s1, st⟩ := hs i x H H' acc hlt hS y hI
    refine st _ _ (fun v H4 s4 e4 => ?_) (fun H3 s3 e3 => ?_)
    · have s14 := s1.trans s4
      have hD4 := s14 _ _ hDa
      exact ⟨acc, hD4, by omega, n - (i + 1), by omega, rfl, hlt, same_upd (hS.trans s14) hD, upd_same, e4, by simp; omega⟩
    · have s13 := s1.trans s3
      exact ⟨n - (i + 1), by omega, rfl, hlt, hS.trans s13, s13 _ _ hDa, e3, by omega⟩
  · have e : i = n := by omega
    subst e
    exact .inl ⟨stop H hS, hd H acc hS hDa hI⟩
theorem comp_tupV {a : Addr} {xs : List V} (ha : H1 a = some (.tup xs)) (hD : H1 D = none) (I : Nat → List V → Prop) (h0 : I 0 []) (hn : xs.length < sizeLine)
    (hs : ∀ i x H vs, xs[i]? = some x → Same H1 H → I i vs → ∀ (N : V → Hp → Prop) (M : Hp → Prop), (∀ v H4, Same H H4 → I (i + 1) (vs ++ [v]) → N v H4) → (∀ H3, Same H H3 → I (i + 1) vs → M H3) →
      g x σ0 H fun σ2 H2 => tt σ2 H2 fun b H3 => if b = true then te σ2 H3 N else M H3)
    (hd : ∀ H acc, Same H1 H → H D = some (.lst acc) → I xs.length acc → F H) : CompW (Itt K a) g tt te σ0 D F H1 :=
  comp_invV hD I h0 hn (fun i H hi s => ⟨xs, xs[i], SqT.of (s _ _ ha), by simp [hi]⟩) (fun H s => ⟨xs, SqT.of (s _ _ ha), Nat.le_refl _⟩)
    (fun i x H H' vs hi s y hI => by
      obtain ⟨rfl, y⟩ := y
      exact ⟨Same.refl _, hs i x _ vs (y xs (SqT.of (s _ _ ha))) s hI⟩) hd
theorem comp_listV {a : Addr} {xs : List V} (ha : H1 a = some (.lst xs)) (hD : H1 D = none) (I : Nat → List V → Prop) (h0 : I 0 []) (hn : xs.length < sizeLine)
    (hs : ∀ i x H vs, xs[i]? = some x → Same H1 H → I i vs → ∀ (N : V → Hp → Prop) (M : Hp → Prop), (∀ v H4, Same H H4 → I (i + 1) (vs ++ [v]) → N v H4) → (∀ H3, Same H H3 → I (i + 1) vs → M H3) →
      g x σ0 H fun σ2 H2 => tt σ2 H2 fun b H3 => if b = true then te σ2 H3 N else M H3)
    (hd : ∀ H acc, Same H1 H → H D = some (.lst acc) → I xs.length acc → F H) : CompW (Itl K a) g tt te σ0 D F H1 :=
  comp_invV hD I h0 hn (fun i H hi s => ⟨xs, xs[i], SqL.of (s _ _ ha), by simp [hi]⟩) (fun H s => ⟨xs, SqL.of (s _ _ ha), Nat.le_refl _⟩)
    (fun i x H H' vs hi s y hI => by
      obtain ⟨rfl, y⟩ := y
      exact ⟨Same.refl _, hs i x _ vs (y xs (SqL.of (s _ _ ha))) s hI⟩) hd
theorem comp_rangeV {lo : Int} {n : Nat} (hD : H1 D = none) (I : Nat → List V → Prop) (h0 : I 0 []) (hn : n < sizeLine)
    (hs : ∀ (i : Nat) H vs, i < n → Same H1 H → I i vs → ∀ (N : V → Hp → Prop) (M : Hp → Prop), (∀ v H4, Same H H4 → I (i + 1) (vs ++ [v]) → N v H4) → (∀ H3, Same H H3 → I (i + 1) vs → M H3) →
      g (.int (lo + i)) σ0 H fun σ2 H2 => tt σ2 H2 fun b H3 => if b = true then te σ2 H3 N else M H3)
    (hd : ∀ H acc, Same H1 H → H D = some (.lst acc) → I n acc → F H) : CompW (Itr lo n) g tt te σ0 D F H1 :=
  comp_invV hD I h0 hn (fun i H hi s => hi) (fun H s => Nat.le_refl _)
    (fun i x H H' vs hi s y hI => by
      obtain ⟨rfl, rfl⟩ := y
      exact ⟨Same.refl _, hs i _ vs hi s hI⟩) hd
theorem comp_zipV {b1 b2 : Bool} {l1 l2 : Addr} {xs ys : List V} (h1 : H1 l1 = some (hoB b1 xs)) (h2 : H1 l2 = some (hoB b2 ys)) (hl : xs.length = ys.length) (hD : H1 D = none) (I : Nat → List V → Prop) (h0 : I 0 []) (hn : xs.length < sizeLine)
    (hs : ∀ i p x y H vs, xs[i]? = some x → ys[i]? = some y → Same H1 H → H p = some (.tup [x, y]) → I i vs → ∀ (N : V → Hp → Prop) (M : Hp → Prop), (∀ v H4, Same H H4 → I (i + 1) (vs ++ [v]) → N v H4) → (∀ H3, Same H H3 → I (i + 1) vs → M H3) →
      g (.ref p) σ0 H fun σ2 H2 => tt σ2 H2 fun b H3 => if b = true then te σ2 H3 N else M H3)
    (hd : ∀ H acc, Same H1 H → H D = some (.lst acc) → I xs.length acc → F H) : CompW (Itq b1 b2 l1 l2) g tt te σ0 D F H1 :=
  comp_invV hD I h0 hn (fun i H hi s => ⟨xs, ys, xs[i], ys[i]'(by omega), s _ _ h1, s _ _ h2, by simp [hi], by simp⟩) (fun H s => ⟨xs, ys, s _ _ h1, s _ _ h2, .inl (Nat.le_refl _)⟩)
    (fun i v H H' vs hi s yy hI => by
      obtain ⟨p, x, y, rfl, hp, rfl, q⟩ := yy
      obtain ⟨q1, q2⟩ := q xs ys (s _ _ h1) (s _ _ h2)
      exact ⟨same_new hp _, hs i p x y _ vs q1 q2 (s.trans (same_new hp _)) upd_same hI⟩) hd
end
/-! ### != of two lists of data -/
def rNeL : R2 := fun x y H Q => ∃ a b xs ys ds es, x = .ref a ∧ y = .ref b ∧ H a = some (.lst xs) ∧ H b = some (.lst ys) ∧ DVs H xs ds ∧ DVs H ys es ∧ D.deps ds ≤ 100 ∧ Q (.bl (!decide (ds = es))) H
theorem all_eqsL (ds es : List D) (h : ds.length = es.length) : (List.range ds.length).all (eAt ds es) = decide (ds = es) := by
  have z := all_eqs ds es
  rw [D.eqs_dec, h, Nat.min_self, beq_self_eq_true, Bool.and_true] at z
  rw [h]
  exact z
theorem op_neL {X : Cx} (hu : X.A.units + 150 < cLine) : OpR X (compareOp .NotEq) rNeL := by
  intro pins s σ H x y v u Q I rx ry h
  obtain ⟨a, b, xs, ys, ds, es, rfl, rfl, f1, f2, g1, g2, hd, q⟩ := h
  cases rx
  cases ry
  obtain ⟨its, r1, t1, _⟩ := I.list (.inl (.inl f1))
  obtain ⟨its2, r2, t2, _⟩ := I.list (.inl (.inl f2))
  have l1 : its.toArray.size = ds.length := by rw [List.size_toArray, ← r1.length, g1.length]
  have l2 : its2.toArray.size = es.length := by rw [List.size_toArray, ← r2.length, g2.length]
  by_cases hl : ds.length = es.length
  · have key := RcNeAt.lists (A := X.A) (s := s) (e := eAt ds es) t1.isList t2.isList (by omega) (by omega) (fun j j1 j2 => ?_) X.prog X.w X.xe (EP X pins σ Q)
    · rw [l1, all_eqsL ds es hl] at key
      exact key ⟨.bl _, H, I, rfl, q⟩
    · have h1' : j < xs.length := by rw [g1.length, ← l1]; exact j1
      have h2' : j < ys.length := by rw [g2.length, ← l2]; exact j2
      obtain ⟨d, k1, k2⟩ := g1.get (i := j) (x := xs[j]) (by simp [h1'])
      obtain ⟨e, m1, m2⟩ := g2.get (i := j) (x := ys[j]) (by simp [h2'])
      obtain ⟨u, hu1, ru⟩ := r1.get (i := j) (x := xs[j]) (by simp [h1'])
      obtain ⟨v, hv1, rv⟩ := r2.get (i := j) (x := ys[j]) (by simp [h2'])
      have eu : its.toArray[j] = u := by simp only [List.getElem_toArray]; exact (List.getElem?_eq_some_iff.mp hu1).2
      have ev : its2.toArray[j] = v := by simp only [List.getElem_toArray]; exact (List.getElem?_eq_some_iff.mp hv1).2
      rw [eu, ev, show eAt ds es j = D.eqb d e by unfold eAt; rw [k1, m1]]
      exact eq_data I.hok 100 d e xs[j] ys[j] u v X.A.in1 (Nat.le_trans (dep_mem k1) hd) (by show X.A.units + 1 + 100 < cLine; omega) k2 m2 ru rv
  · have key := RcNeAt.lists_lengths (A := X.A) (s := s) t1.isList t2.isList (by rw [l1, l2]; simpa using hl) (by omega) X.prog X.w X.xe (EP X pins σ Q)
    refine key ⟨.bl _, H, I, rfl, ?_⟩
    rw [decide_eq_false (fun e => hl (by rw [e]))] at q
    exact q
end Mx
end
section
set_option Elab.async false
set_option linter.all false
set_option maxRecDepth 100000
set_option maxHeartbeats 4000000
/-! a def with defaults -/
namespace Mx
open PySem PySem.W PySem.Spec PyProof.Rows L2
structure FunD (K : PySem.W.Frag) (x qual : Str) (st : Stmt) (f : Addr) (fd : FuncData) (T : Addr) (ds : List Value) : Prop where
  ex : ∃ (oc : Value) (od : Option Addr) (kV doc pm : Value) (an : Option Addr) (cdv ct : Value) (osl : Array (Option Value)), fd = PySem.W.fnOf x qual (defArgs st) (defBody st) (defScope st) (.ref T) kV doc pm an cdv ct ∧ K.lookup f = some ⟨oc, od, .func fd, osl⟩ ∧ PySem.W.codeIn K cdv qual = true
  dx : ∃ (o : Obj) (n : Nat), K.lookup T = some o ∧ o.data = .seq ds.toArray n
  kp : PySem.W.keepIn K (.ref f) = true
section
variable {P : Program} {w : World} {K : PySem.W.Frag} {mg : Str → Option Value} {base : Heap}
theorem FunD.ok {x qual : Str} {st : Stmt} {f T : Addr} {fd : FuncData} {ds : List Value} {N ps : List Str} {k : Nat} {sp : Sp} (F : FunD K x qual st f fd T ds) (S : FnScope N ps (defScope st)) (len : ∀ vs H Q E, sp vs H Q E → vs.length = ps.length)
    (hb : ∀ (cdv : Value) (A : Around) (outer : List Env) (s : Shared) (H : Hp) (vs : List V) (Q : VK) (E : XK), Room k (A.deeper (envOfC qual (defScope st) s.heap.objs.size f cdv)) → sp vs H Q E →
      ∃ t, PSs (cxOf CX0 P w K mg base N qual (defScope st) f cdv A outer s H E).nox (defBody st) t ∧ t { nx := fun _ H' => Q .non H', rt := Q } (start N vs) H) : FnOk P w K mg base CX0 (k + 1) f fd ps sp := by
  obtain ⟨oc, od, kV, doc, pm, an, cdv, ct, osl, rfl, lk, hcd⟩ := F.ex
  refine fn_of lk hcd S len fun A outer s H vs Q E hr hsp => ?_
  obtain ⟨t, h, q⟩ := hb cdv A outer s H vs Q E hr hsp
  exact ⟨t, h.nox, q⟩
theorem funD_mk {x qual : Str} {st : Stmt} {f T : Addr} {oc : Value} {od an : Option Addr} {osl : Array (Option Value)} {kV doc pm cdv ct : Value} {ds : List Value} {n : Nat} {tc : Value} {td : Option Addr} {tsl : Array (Option Value)}
    (l : K.lookup f = some ⟨oc, od, .func (PySem.W.fnOf x qual (defArgs st) (defBody st) (defScope st) (.ref T) kV doc pm an cdv ct), osl⟩) (c : PySem.W.codeIn K cdv qual = true) (k : PySem.W.keepIn K (.ref f) = true) (lt : K.lookup T = some ⟨tc, td, .seq ds.toArray n, tsl⟩) :
    FunD K x qual st f (PySem.W.fnOf x qual (defArgs st) (defBody st) (defScope st) (.ref T) kV doc pm an cdv ct) T ds := ⟨⟨oc, od, kV, doc, pm, an, cdv, ct, osl, rfl, l, c⟩, ⟨_, n, lt, rfl⟩, k⟩
end
/-- an if, and what stands behind it once: C holds where they meet -/
theorem sq_if_k {tc : TT} {t1 t2 u : TS} {E : Ends} {σ : L2.St} {H : Hp} (C : L2.St → Hp → Prop) (h : ∀ R : L2.St → Hp → Prop, (∀ σ' H', C σ' H' → R σ' H') → tc σ H fun b H1 => if b = true then t1 { E with nx := R } σ H1 else t2 { E with nx := R } σ H1)
    (k : ∀ σ' H', C σ' H' → u E σ' H') : tSeq (tIfS tc t1 t2) u E σ H := h _ k
/-- a statement, and what stands behind it -/
theorem sq_k {t u : TS} {E : Ends} {σ : L2.St} {H : Hp} (C : L2.St → Hp → Prop) (h : ∀ R : L2.St → Hp → Prop, (∀ σ' H', C σ' H' → R σ' H') → t { E with nx := R } σ H) (k : ∀ σ' H', C σ' H' → u E σ' H') : tSeq t u E σ H := h _ k
theorem rep_flat {α : Type} (x : α) : ∀ n : Nat, (List.replicate n [x]).flatten = List.replicate n x
  | 0 => rfl
  | n + 1 => by
    rw [List.replicate_succ, List.flatten_cons, rep_flat x n]
    rfl
theorem gn {i : Nat} {v : V} {σ : L2.St} {H : Hp} {k : L2.St → Hp → Prop} (h : k (σ.set i (some v)) H) : gName i v σ H k := h
end Mx
end
section
set_option Elab.async false
set_option linter.all false
set_option maxRecDepth 100000
set_option maxHeartbeats 4000000
/-! pairs of an item and a count: gathering -/
namespace K02
open PySem PySem.W PySem.Spec PyProof.Rows L2 Mx
abbrev Pr := D × Int
def toD (p : Pr) : D := .tup [p.1, .int p.2]
def cnt (ps : List Pr) (it : D) : Int := (ps.map fun p => if p.1 = it then p.2 else 0).sum
theorem cnt_nil (it : D) : cnt [] it = 0 := rfl
theorem cnt_cons (p : Pr) (ps : List Pr) (it : D) : cnt (p :: ps) it = (if p.1 = it then p.2 else 0) + cnt ps it := rfl
theorem cnt_append (a b : List Pr) (it : D) : cnt (a ++ b) it = cnt a it + cnt b it := by
  unfold cnt
  rw [List.map_append, List.sum_append]
theorem cnt_perm {a b : List Pr} (h : a.Perm b) (it : D) : cnt a it = cnt b it := by
  induction h with
  | nil => rfl
  | cons x _ ih => rw [cnt_cons, cnt_cons, ih]
  | swap x y l => simp only [cnt_cons]; omega
  | trans _ _ ih1 ih2 => rw [ih1, ih2]
theorem cnt_out {ps : List Pr} {it : D} (h : ∀ p ∈ ps, p.1 ≠ it) : cnt ps it = 0 := by
  induction ps with
  | nil => rfl
  | cons p ps ih => rw [cnt_cons, if_neg (h p List.mem_cons_self), ih fun q hq => h q (List.mem_cons_of_mem _ hq)]; rfl
/-- items strictly upward -/
def up (ps : List Pr) : Prop := ps.Pairwise fun a b => D.lt a.1 b.1 = true
theorem lt_ne {a b : D} (h : D.lt a b = true) : a ≠ b := fun e => by subst e; rw [D.lt_irrefl] at h; cases h
theorem cnt_up {ps : List Pr} (h : up ps) {p : Pr} (hp : p ∈ ps) : cnt ps p.1 = p.2 := by
  induction ps with
  | nil => exact absurd hp (by simp)
  | cons q ps ih =>
    obtain ⟨h1, h2⟩ := List.pairwise_cons.mp h
    rw [cnt_cons]
    rcases List.mem_cons.mp hp with rfl | hp
    · rw [if_pos rfl, cnt_out fun r hr => (lt_ne (h1 r hr)).symm]; omega
    · rw [if_neg (lt_ne (h1 p hp)), ih h2 hp]; omega
theorem up_ext : ∀ {ps qs : List Pr}, up ps → up qs → (∀ p ∈ ps, p.2 ≠ 0) → (∀ p ∈ qs, p.2 ≠ 0) → (∀ it, cnt ps it = cnt qs it) → ps = qs
  | [], [], _, _, _, _, _ => rfl
  | [], q :: qs, _, h2, _, n2, he => by
    have := he q.1
    rw [cnt_up h2 List.mem_cons_self, cnt_nil] at this
    exact absurd this.symm (n2 q List.mem_cons_self)
  | p :: ps, [], h1, _, n1, _, he => by
    have := he p.1
    rw [cnt_up h1 List.mem_cons_self, cnt_nil] at this
    exact absurd this (n1 p List.mem_cons_self)
  | p :: ps, q :: qs, h1, h2, n1, n2, he => by
    obtain ⟨a1, a2⟩ := List.pairwise_cons.mp h1
    obtain ⟨b1, b2⟩ := List.pairwise_cons.mp h2
    have e1 := he p.1
    have e2 := he q.1
    rw [cnt_up h1 List.mem_cons_self] at e1
    rw [cnt_up h2 List.mem_cons_self] at e2
    have key : p.1 = q.1 := by
      cases c1 : D.lt p.1 q.1 with
      | true =>
        have o : cnt (q :: qs) p.1 = 0 := cnt_out fun r hr => by
          rcases List.mem_cons.mp hr with rfl | hr
          · exact (lt_ne c1).symm
          · exact (lt_ne (D.lt_trans _ _ _ c1 (b1 r hr))).symm
        rw [o] at e1
        exact absurd e1 (n1 p List.mem_cons_self)
      | false => cases c2 : D.lt q.1 p.1 with
        | true =>
          have o : cnt (p :: ps) q.1 = 0 := cnt_out fun r hr => by
            rcases List.mem_cons.mp hr with rfl | hr
            · exact (lt_ne c2).symm
            · exact (lt_ne (D.lt_trans _ _ _ c2 (a1 r hr))).symm
          rw [o] at e2
          exact absurd e2.symm (n2 q List.mem_cons_self)
        | false => exact D.lt_total _ _ c1 c2
    rw [key, cnt_up h2 List.mem_cons_self] at e1
    have pq : p = q := Prod.ext key e1
    subst pq
    congr 1
    refine up_ext a2 b2 (fun r hr => n1 r (List.mem_cons_of_mem _ hr)) (fun r hr => n2 r (List.mem_cons_of_mem _ hr)) fun it => ?_
    have := he it
    rw [cnt_cons, cnt_cons] at this
    omega
def step (acc : List Pr) (p : Pr) : List Pr := match acc.getLast? with
  | some q => if q.1 = p.1 then acc.dropLast ++ [(p.1, q.2 + p.2)] else acc ++ [p]
  | none => [p]
theorem step_nil (p : Pr) : step [] p = [p] := rfl
theorem step_eq {pre : List Pr} {q p : Pr} (h : q.1 = p.1) : step (pre ++ [q]) p = pre ++ [(p.1, q.2 + p.2)] := by
  unfold step
  rw [List.getLast?_append]
  simp [h]
theorem step_ne {pre : List Pr} {q p : Pr} (h : q.1 ≠ p.1) : step (pre ++ [q]) p = pre ++ [q] ++ [p] := by
  unfold step
  rw [List.getLast?_append]
  simp [h]
theorem last_of {α : Type} {l : List α} (h : l ≠ []) : ∃ pre q, l = pre ++ [q] := ⟨l.dropLast, l.getLast h, (List.dropLast_concat_getLast h).symm⟩
theorem step_cnt (acc : List Pr) (p : Pr) (it : D) : cnt (step acc p) it = cnt acc it + (if p.1 = it then p.2 else 0) := by
  by_cases e : acc = []
  · subst e; rw [step_nil, cnt_cons, cnt_nil]; omega
  · obtain ⟨pre, q, rfl⟩ := last_of e
    by_cases c : q.1 = p.1
    · rw [step_eq c, cnt_append, cnt_append, cnt_cons, cnt_cons, cnt_nil, c]
      show _ + ((if p.1 = it then q.2 + p.2 else 0) + 0) = _
      by_cases d : p.1 = it
      · rw [if_pos d, if_pos d, if_pos d]; omega
      · rw [if_neg d, if_neg d, if_neg d]; omega
    · rw [step_ne c, cnt_append, cnt_cons, cnt_nil]; omega
theorem step_up {acc : List Pr} {p : Pr} (h : up acc) (hp : ∀ q ∈ acc, D.lt p.1 q.1 = false) : up (step acc p) ∧ ∀ q ∈ step acc p, ∃ r, (r ∈ acc ∨ r = p) ∧ q.1 = r.1 := by
  by_cases e : acc = []
  · subst e
    rw [step_nil]
    exact ⟨List.pairwise_singleton _ _, fun q hq => ⟨p, .inr rfl, by rw [List.mem_singleton.mp hq]⟩⟩
  · obtain ⟨pre, q, rfl⟩ := last_of e
    obtain ⟨h1, _, h3⟩ := List.pairwise_append.mp h
    by_cases c : q.1 = p.1
    · rw [step_eq c]
      refine ⟨List.pairwise_append.mpr ⟨h1, List.pairwise_singleton _ _, fun a ha b hb => ?_⟩, fun r hr => ?_⟩
      · rw [List.mem_singleton.mp hb]
        show D.lt a.1 p.1 = true
        rw [← c]
        exact h3 a ha q (by simp)
      · rcases List.mem_append.mp hr with hr | hr
        · exact ⟨r, .inl (List.mem_append_left _ hr), rfl⟩
        · exact ⟨p, .inr rfl, by rw [List.mem_singleton.mp hr]⟩
    · rw [step_ne c]
      refine ⟨List.pairwise_append.mpr ⟨h, List.pairwise_singleton _ _, fun a ha b hb => ?_⟩, fun r hr => ?_⟩
      · rw [List.mem_singleton.mp hb]
        have lq : D.lt q.1 p.1 = true := by
          cases z : D.lt q.1 p.1 with
          | true => rfl
          | false => exact absurd (D.lt_total _ _ z (hp q (by simp))) c
        rcases List.mem_append.mp ha with ha | ha
        · exact D.lt_trans _ _ _ (h3 a ha q (by simp)) lq
        · rw [List.mem_singleton.mp ha]; exact lq
      · rcases List.mem_append.mp hr with hr | hr
        · exact ⟨r, .inl hr, rfl⟩
        · exact ⟨p, .inr rfl, by rw [List.mem_singleton.mp hr]⟩
def gath (ps : List Pr) : List Pr := ps.foldl step []
theorem gath_take {ps : List Pr} {i : Nat} {p : Pr} (h : ps[i]? = some p) : gath (ps.take (i + 1)) = step (gath (ps.take i)) p := by
  obtain ⟨hi, rfl⟩ := List.getElem?_eq_some_iff.mp h
  unfold gath
  rw [← List.take_append_getElem hi, List.foldl_append]
  rfl
/-- items upward, not strictly -/
def upw (ps : List Pr) : Prop := ps.Pairwise fun a b => D.lt b.1 a.1 = false
theorem gath_all : ∀ (ps : List Pr), upw ps → up (gath ps) ∧ (∀ q ∈ gath ps, ∃ r ∈ ps, q.1 = r.1) ∧ ∀ it, cnt (gath ps) it = cnt ps it := by
  have go : ∀ (ps acc done : List Pr), upw (done ++ ps) → up acc → (∀ q ∈ acc, ∃ r ∈ done, q.1 = r.1) → (∀ it, cnt acc it = cnt done it) →
      up (ps.foldl step acc) ∧ (∀ q ∈ ps.foldl step acc, ∃ r ∈ done ++ ps, q.1 = r.1) ∧ ∀ it, cnt (ps.foldl step acc) it = cnt (done ++ ps) it := by
    intro ps
    induction ps with
    | nil =>
      intro acc done _ h2 h3 h4
      rw [List.append_nil]
      exact ⟨h2, h3, h4⟩
    | cons p ps ih =>
      intro acc done h1 h2 h3 h4
      have h1' : upw ((done ++ [p]) ++ ps) := by rw [List.append_assoc]; exact h1
      have hp : ∀ q ∈ acc, D.lt p.1 q.1 = false := fun q hq => by
        obtain ⟨r, hr, e⟩ := h3 q hq
        rw [e]
        exact (List.pairwise_append.mp h1).2.2 r hr p List.mem_cons_self
      obtain ⟨s1, s2⟩ := step_up h2 hp
      have := ih (step acc p) (done ++ [p]) h1' s1 (fun q hq => by
        obtain ⟨r, hr, e⟩ := s2 q hq
        rcases hr with hr | rfl
        · obtain ⟨r2, hr2, e2⟩ := h3 r hr
          exact ⟨r2, List.mem_append_left _ hr2, e.trans e2⟩
        · exact ⟨r, by simp, e⟩) fun it => by
          rw [step_cnt, h4, cnt_append, cnt_cons, cnt_nil]; omega
      rw [List.append_assoc] at this
      exact this
  intro ps h
  exact go ps [] [] h List.Pairwise.nil (fun q hq => absurd hq (by simp)) fun it => rfl
/-- sorted pairs are pairs, items upward -/
theorem sorted_pairs {ps : List Pr} {es : List D} (h : SortedOf (ps.map toD) es) : ∃ qs : List Pr, es = qs.map toD ∧ qs.Perm ps ∧ upw qs := by
  have hm : ∀ e ∈ es, ∃ p, toD p = e := fun e he => by
    obtain ⟨p, _, hp⟩ := List.mem_map.mp (h.1.mem_iff.mp he)
    exact ⟨p, hp⟩
  have hq : ∃ qs : List Pr, es = qs.map toD := by
    clear h
    induction es with
    | nil => exact ⟨[], rfl⟩
    | cons e es ih =>
      obtain ⟨qs, hqs⟩ := ih fun x hx => hm x (List.mem_cons_of_mem _ hx)
      obtain ⟨p, hp⟩ := hm e List.mem_cons_self
      exact ⟨p :: qs, by rw [List.map_cons, hp, ← hqs]⟩
  obtain ⟨qs, rfl⟩ := hq
  have inj : ∀ {a b : Pr}, toD a = toD b → a = b := fun {a b} e => by
    unfold toD at e
    simp at e
    exact Prod.ext e.1 e.2
  refine ⟨qs, rfl, ?_, ?_⟩
  · have un : ∀ {l : List Pr}, (l.map toD).map (fun d => match d with | .tup [it, .int c] => (it, c) | _ => (.int 0, 0)) = l := fun {l} => by
      rw [List.map_map]
      conv => rhs; rw [← List.map_id l]
      exact List.map_congr_left fun a _ => rfl
    have := h.1.map (fun d => match d with | .tup [it, .int c] => ((it, c) : Pr) | _ => (.int 0, 0))
    rw [un, un] at this
    exact this
  · have := h.2
    rw [List.pairwise_map] at this
    refine this.imp fun {a b} hab => ?_
    by_cases e : b.1 = a.1
    · rw [e]; exact D.lt_irrefl _
    · unfold toD at hab
      unfold D.lt at hab
      rw [D.lts_cons, if_neg e] at hab
      exact hab
theorem up_of {qs : List Pr} (h : upw qs) (n : (qs.map Prod.fst).Nodup) : up qs := by
  induction qs with
  | nil => exact List.Pairwise.nil
  | cons q qs ih =>
    obtain ⟨h1, h2⟩ := List.pairwise_cons.mp h
    rw [List.map_cons, List.nodup_cons] at n
    refine List.pairwise_cons.mpr ⟨fun r hr => ?_, ih h2 n.2⟩
    cases z : D.lt q.1 r.1 with
    | true => rfl
    | false => exact absurd (List.mem_map.mpr ⟨r, hr, (D.lt_total _ _ z (h1 r hr)).symm⟩) n.1
end K02
end
section
set_option Elab.async false
set_option linter.all false
set_option maxRecDepth 100000
set_option maxHeartbeats 4000000
/-! tuple + tuple, the left one perhaps empty; for over zip -/
namespace Mx
open PySem PySem.W PySem.Spec PyProof.Rows L2 HT
open PySem.AutoSeq1 (wpAny_loadPart')
theorem tuple_addW0 (l b : Addr) (items items2 : Array Value) (n n2 : Nat) (dd dd2 : Option Addr) (sl sl2 : Array (Option Value)) (hc0 : items.isEmpty = true) :
    Meets (Builtin.«tuple.__add__» ⟨[.ref l, .ref b], []⟩) (fun _ R s => s.heap.get? l = some { cls := .type "tuple", dict := dd, data := .seq items n, slots := sl } ∧ s.heap.get? b = some { cls := .type "tuple", dict := dd2, data := .seq items2 n2, slots := sl2 } ∧ R (.ok (.ret (Value.ref b))) s) :=
  .of_wp fun prog w A R s h => by
    obtain ⟨hp, g, d, tk, os⟩ := s
    obtain ⟨hl, hb, h⟩ := h
    have f2 := sub_tuple_tuple
    wp_walk using wpAny_loadPart' hl, wpAny_loadPart' hb
    exact ⟨_, rfl, h⟩
def rCatD : R2 := fun x y H Q => ∃ ds es, DV H x (.tup ds) ∧ DV H y (.tup es) ∧ ds.length + es.length ≤ sizeLine ∧ ∀ v H', Same H H' → DV H' v (.tup (ds ++ es)) → Q v H'
theorem op_catD {X : Cx} : OpR X (binaryOp .Add) rCatD := by
  intro pins s σ H x y v u Q I rx ry h
  obtain ⟨ds, es, h1, h2, hl, q⟩ := h
  obtain ⟨a, xs, e1, f1, g1⟩ := h1.tup_inv
  obtain ⟨b, ys, e2, f2, g2⟩ := h2.tup_inv
  subst e1 e2
  by_cases hd : ds = []
  · subst hd
    cases g1.nil_inv
    cases rx
    cases ry
    obtain ⟨its, r1, p1, _⟩ := I.tuple (SqT.of f1)
    obtain ⟨its2, r2, p2, _⟩ := I.tuple (SqT.of f2)
    cases r1
    obtain ⟨⟨cls, dd, data, sl⟩, ho, hc, n, hdt⟩ := p1
    obtain ⟨⟨cls2, dd2, data2, sl2⟩, ho2, hc2, n2, hdt2⟩ := p2
    simp only at hc hdt hc2 hdt2
    subst hc hdt hc2 hdt2
    exact concat_meets ⟨_, ho, rfl⟩ ⟨_, ho2, rfl⟩ noFill_tuple_add seq_tuple_add PySem.F.slot_tuple_add PySem.F.entry_tuple_add (PySem.F.args_tuple_add_2 _ _)
      (tuple_addW0 a b _ _ n n2 dd dd2 sl sl2 rfl) ⟨ho, ho2, ⟨.ref b, H, I, rfl, q _ _ (Same.refl _) (DV.tup f2 g2)⟩⟩
  · refine op_catT pins s σ H (.ref a) (.ref b) v u Q I rx ry ⟨a, b, xs, ys, rfl, rfl, SqT.of f1, SqT.of f2, fun e => ?_, by rw [g1.length, g2.length]; exact hl, fun e => ?_, fun e p hp => ?_⟩
    · subst e
      exact hd (List.eq_nil_of_length_eq_zero g1.length.symm)
    · subst e
      have : es = [] := List.eq_nil_of_length_eq_zero g2.length.symm
      subst this
      rw [List.append_nil] at q
      exact q _ _ (Same.refl _) (DV.tup f1 g1)
    · exact q _ _ (same_new hp _) (DV.tup upd_same ((DVs.append g1 g2).mono (same_tups (same_new hp _))))
theorem for_zip {b1 b2 : Bool} {l1 l2 : Addr} {xs ys : List V} {g : TG} {tb : TS} {D : Ends} {σ : L2.St} {H : Hp} (Pv : Nat → L2.St → Hp → Prop) (h0 : Pv 0 σ H) (hl : ∀ i σ H, Pv i σ H → H l1 = some (hoB b1 xs) ∧ H l2 = some (hoB b2 ys)) (hlen : xs.length = ys.length)
    (hs : ∀ i p x y σ H, xs[i]? = some x → ys[i]? = some y → Pv i σ H → H p = none → g (.ref p) σ (upd H p (.tup [x, y])) fun σ2 H2 => tb { D with nx := Pv (i + 1), ct := Pv (i + 1), bk := D.nx } σ2 H2) (hd : ∀ σ H, Pv xs.length σ H → D.nx σ H) :
    ∃ W : Nat → Nat → L2.St → Hp → Prop, (∃ m, W 0 m σ H) ∧ ∀ i m σ H, W i m σ H →
      ((Itq b1 b2 l1 l2).stop i H ∧ D.nx σ H) ∨ ((Itq b1 b2 l1 l2).go i H ∧ ∃ N : L2.St → Hp → Prop, (∀ σ' H', N σ' H' → ∃ m', m' < m ∧ W (i + 1) m' σ' H') ∧ ∀ x H', (Itq b1 b2 l1 l2).yld i H x H' → g x σ H' fun σ2 H2 => tb { D with nx := N, ct := N, bk := D.nx } σ2 H2) := by
  refine ⟨fun i m σ H => m = xs.length - i ∧ i ≤ xs.length ∧ Pv i σ H, ⟨_, rfl, Nat.zero_le _, h0⟩, ?_⟩
  rintro i m σ H ⟨rfl, hi, p⟩
  obtain ⟨k1, k2⟩ := hl i σ H p
  by_cases hlt : i < xs.length
  · refine .inr ⟨⟨xs, ys, xs[i], ys[i]'(by omega), k1, k2, by simp [hlt], by simp⟩, Pv (i + 1), fun σ' H' z => ⟨xs.length - (i + 1), by omega, rfl, hlt, z⟩, fun v H' yy => ?_⟩
    obtain ⟨q, x, y, rfl, hq, rfl, hxy⟩ := yy
    obtain ⟨hx, hy⟩ := hxy xs ys k1 k2
    exact hs i q x y σ H hx hy p hq
  · have e : i = xs.length := by omega
    subst e
    exact .inl ⟨⟨xs, ys, k1, k2, .inl (Nat.le_refl _)⟩, hd σ H p⟩
theorem ixN_last {α : Type} (pre : List α) (x : α) : ixN (pre ++ [x]).length (-1) = some pre.length := by
  unfold ixN
  rw [if_neg (by decide), if_pos (by simp; omega)]
  simp
  omega
theorem atI_last {α : Type} (pre : List α) (x : α) : atI (pre ++ [x]) (-1) = some x := by
  unfold atI
  rw [ixN_last]
  simp
theorem set_last {α : Type} (pre : List α) (x y : α) : (pre ++ [x]).set pre.length y = pre ++ [y] := by simp
theorem DVs.snoc_inv {H : Hp} : ∀ {xs : List V} {ds : List D} {d : D}, DVs H xs (ds ++ [d]) → ∃ pre v, xs = pre ++ [v] ∧ DVs H pre ds ∧ DV H v d
  | xs, [], d, h => by
    obtain ⟨x, r, rfl, h1, h2⟩ := h.cons_inv
    cases h2.nil_inv
    exact ⟨[], x, rfl, DVs.nil, h1⟩
  | xs, e :: ds, d, h => by
    obtain ⟨x, r, rfl, h1, h2⟩ := h.cons_inv
    obtain ⟨pre, v, rfl, h3, h4⟩ := DVs.snoc_inv h2
    exact ⟨x :: pre, v, rfl, DVs.cons h1 h3, h4⟩
end Mx
end
section
set_option Elab.async false
set_option linter.all false
set_option maxRecDepth 100000
set_option maxHeartbeats 4000000
/-! the grammar of items, and what can be sorted -/
namespace K02
open PySem PySem.W PySem.Spec PyProof.Rows L2 Mx
def nmOk (x : Str) : Prop := 1 ≤ x.length ∧ x.length ≤ 20
def okI (okf : D → Prop) (d : D) : Prop := (∃ x, d = .tup [.str "any", .str x] ∧ nmOk x) ∨ (∃ x fs, d = .tup [.str "of", .str x, .tup fs] ∧ nmOk x ∧ fs.length ≤ 3 ∧ ∀ f ∈ fs, okf f)
def okP (okf : D → Prop) (d : D) : Prop := ∃ it c, d = .tup [it, .int c] ∧ okI okf it
def okF : Nat → D → Prop
  | 0, _ => False
  | n + 1, d => ∃ ps, d = .tup ps ∧ ps.length ≤ 64 ∧ ∀ p ∈ ps, okP (okF n) p
theorem deps_le {b : Nat} : ∀ {ds : List D}, (∀ d ∈ ds, D.dep d ≤ b) → D.deps ds ≤ b
  | [], _ => by unfold D.deps; exact Nat.zero_le _
  | d :: ds, h => by
    unfold D.deps
    have h1 := h d List.mem_cons_self
    have h2 := deps_le (ds := ds) fun e he => h e (List.mem_cons_of_mem _ he)
    omega
theorem dep_okI {okf : D → Prop} {b : Nat} (hs : ∀ f, okf f → D.dep f ≤ b) {d : D} (h : okI okf d) : D.dep d ≤ b + 2 := by
  rcases h with ⟨x, rfl, _⟩ | ⟨x, fs, rfl, _, _, hf⟩
  · simp only [D.dep, D.deps]; omega
  · have := deps_le (b := b) fun f hf' => hs f (hf f hf')
    simp only [D.dep, D.deps]; omega
theorem dep_okP {okf : D → Prop} {b : Nat} (hs : ∀ f, okf f → D.dep f ≤ b) {d : D} (h : okP okf d) : D.dep d ≤ b + 3 := by
  obtain ⟨it, c, rfl, hi⟩ := h
  have := dep_okI hs hi
  simp only [D.dep, D.deps]; omega
theorem dep_okF : ∀ (n : Nat) (d : D), okF n d → D.dep d ≤ 4 * n
  | 0, _, h => h.elim
  | n + 1, d, h => by
    obtain ⟨ps, rfl, _, hp⟩ := h
    have := deps_le (b := 4 * n + 3) fun p hp' => dep_okP (dep_okF n) (hp p hp')
    simp only [D.dep]; omega
theorem like_okI {f g : D → Prop} (h : ∀ d e, f d → g e → D.like d e) {d e : D} (hd : okI f d) (he : okI g e) : D.like d e := by
  rcases hd with ⟨x, rfl, hx⟩ | ⟨x, fs, rfl, hx, hl, hf⟩ <;> rcases he with ⟨y, rfl, hy⟩ | ⟨y, gs, rfl, hy, hl2, hg⟩
  · simp [D.like, D.likes]
  · simp [D.like, D.likes]
  · simp [D.like, D.likes]
  · simp only [D.like, D.likes, true_and, and_true]
    exact likes_all fun a ha b hb => h a b (hf a ha) (hg b hb)
theorem like_okP {f g : D → Prop} (h : ∀ d e, f d → g e → D.like d e) {d e : D} (hd : okP f d) (he : okP g e) : D.like d e := by
  obtain ⟨it, c, rfl, hi⟩ := hd
  obtain ⟨it', c', rfl, hi'⟩ := he
  simp only [D.like, D.likes, and_true]
  exact like_okI h hi hi'
theorem like_okF : ∀ (n m : Nat) (d e : D), okF n d → okF m e → D.like d e
  | 0, _, _, _, h, _ => h.elim
  | _ + 1, 0, _, _, _, h => h.elim
  | n + 1, m + 1, d, e, hd, he => by
    obtain ⟨ps, rfl, hl, hp⟩ := hd
    obtain ⟨qs, rfl, hl2, hq⟩ := he
    unfold D.like
    exact likes_all fun a ha b hb => like_okP (like_okF n m) (hp a ha) (hq b hb)
theorem first_okP {f : D → Prop} {d : D} (h : okP f d) : Firsts false d := by
  obtain ⟨it, c, rfl, hi⟩ := h
  rcases hi with ⟨x, rfl, _⟩ | ⟨x, fs, rfl, _⟩
  · exact ⟨_, _, rfl⟩
  · exact ⟨_, _, rfl⟩
/-- an item as the laws' forms have it -/
abbrev okIt (it : D) : Prop := okI (okF 2) it
theorem okIt_tup {it : D} (h : okIt it) : ∃ ds, it = .tup ds ∧ D.deps ds ≤ 100 := by
  have hd := dep_okI (dep_okF 2) h
  rcases h with ⟨x, rfl, _⟩ | ⟨x, fs, rfl, _⟩
  · exact ⟨_, rfl, by simp only [D.dep] at hd; omega⟩
  · exact ⟨_, rfl, by simp only [D.dep] at hd; omega⟩
theorem can_sort {ps : List Pr} (hl : ps.length < 64) (h : ∀ p ∈ ps, okIt p.1) : CanSort (ps.map toD) := by
  have hp : ∀ d ∈ ps.map toD, okP (okF 2) d := fun d hd => by
    obtain ⟨p, hp, rfl⟩ := List.mem_map.mp hd
    exact ⟨p.1, p.2, rfl, h p hp⟩
  refine ⟨by rw [List.length_map]; exact hl, ?_, ⟨false, fun d hd => first_okP (hp d hd)⟩, fun d hd e he => like_okP (like_okF 2 2) (hp d hd) (hp e he)⟩
  have := deps_le (b := 4 * 2 + 3) fun d hd => dep_okP (dep_okF 2) (hp d hd)
  omega
end K02
end
section
set_option Elab.async false
set_option linter.all false
set_option maxRecDepth 100000
set_option maxHeartbeats 4000000
/-! terms, their items, and the form of a bag of items -/
namespace K04
open PySem PySem.W PySem.Spec PyProof.Rows L2 Mx K02
def one (its : List D) : List Pr := its.map fun d => (d, 1)
/-- ws is the form of the bag its -/
def Frm (its : List D) (ws : List Pr) : Prop := up ws ∧ (∀ q ∈ ws, 1 ≤ q.2 ∧ q.1 ∈ its) ∧ ∀ it, cnt ws it = cnt (one its) it
theorem one_perm {a b : List D} (h : a.Perm b) : (one a).Perm (one b) := h.map _
theorem Frm.uniq {a b : List D} {v w : List Pr} (h : Frm a v) (g : Frm b w) (p : a.Perm b) : v = w :=
  up_ext h.1 g.1 (fun q hq => by have := (h.2.1 q hq).1; omega) (fun q hq => by have := (g.2.1 q hq).1; omega) fun it => by rw [h.2.2, g.2.2, cnt_perm (one_perm p)]
theorem Frm.perm {a b : List D} {v : List Pr} (h : Frm a v) (p : a.Perm b) : Frm b v := ⟨h.1, fun q hq => ⟨(h.2.1 q hq).1, p.mem_iff.mp (h.2.1 q hq).2⟩, fun it => by rw [h.2.2, cnt_perm (one_perm p)]⟩
theorem cnt_one_nn (its : List D) (it : D) : 0 ≤ cnt (one its) it := by
  induction its with
  | nil => exact Int.le_refl _
  | cons d ds ih =>
    show 0 ≤ cnt ((d, 1) :: one ds) it
    rw [K02.cnt_cons]
    by_cases c : ((d, 1) : Pr).1 = it
    · rw [if_pos c]; show 0 ≤ (1 : Int) + _; omega
    · rw [if_neg c]; omega
theorem cnt_one_mem {its : List D} {it : D} (h : it ∈ its) : 1 ≤ cnt (one its) it := by
  induction its with
  | nil => exact absurd h (by simp)
  | cons d ds ih =>
    show 1 ≤ cnt ((d, 1) :: one ds) it
    rw [K02.cnt_cons]
    by_cases c : ((d, 1) : Pr).1 = it
    · rw [if_pos c]
      have := cnt_one_nn ds it
      show 1 ≤ (1 : Int) + _
      omega
    · rw [if_neg c]
      rcases List.mem_cons.mp h with e | e
      · exact absurd e.symm c
      · have := ih e; omega
/-- what gathering tells of pairs (item, 1) is the form -/
theorem Frm.of_gath {its : List D} {ws : List Pr} (h1 : up ws) (h2 : ∀ q ∈ ws, ∃ r ∈ one its, q.1 = r.1) (h3 : ∀ it, cnt ws it = cnt (one its) it) : Frm its ws := by
  refine ⟨h1, fun q hq => ?_, h3⟩
  obtain ⟨r, hr, e⟩ := h2 q hq
  obtain ⟨d, hd, rfl⟩ := List.mem_map.mp hr
  have hm : q.1 ∈ its := by rw [e]; exact hd
  have z := h3 q.1
  rw [cnt_up h1 hq] at z
  exact ⟨by rw [z]; exact cnt_one_mem hm, hm⟩
theorem Frm.of_sorted {its es : List D} (h : SortedOf its es) : Frm its (gath (one es)) := by
  have hu : upw (one es) := by unfold upw one; rw [List.pairwise_map]; exact h.2
  obtain ⟨g1, g2, g3⟩ := gath_all (one es) hu
  exact (Frm.of_gath g1 g2 g3).perm h.1
def srt (its : List D) : List D := its.mergeSort fun a b => !D.lt b a
theorem srt_ok (its : List D) : SortedOf its (srt its) := by
  refine ⟨List.mergeSort_perm _ _, ?_⟩
  have := List.pairwise_mergeSort (le := fun a b => !D.lt b a) (fun a b c h1 h2 => by
    have z : dOrd.kle a c := KeyOrd.kle_trans (O := dOrd) (a := a) (b := b) (show D.lt b a = false by simpa using h1) (show D.lt c b = false by simpa using h2)
    have z' : D.lt c a = false := z
    simp [z']) (fun a b => by
    cases h : D.lt b a with
    | false => simp
    | true =>
      have z : D.lt a b = false := by
        cases h2 : D.lt a b with
        | false => rfl
        | true => have := D.lt_trans _ _ _ h h2; rw [D.lt_irrefl] at this; cases this
      simp [z]) its
  refine this.imp fun {a b} h => ?_
  simpa using h
def fr (its : List D) : List Pr := gath (one (srt its))
theorem fr_ok (its : List D) : Frm its (fr its) := Frm.of_sorted (srt_ok its)
theorem fr_perm {a b : List D} (h : a.Perm b) : fr a = fr b := (fr_ok a).uniq (fr_ok b) h
theorem Frm.eq {its : List D} {ws : List Pr} (h : Frm its ws) : ws = fr its := h.uniq (fr_ok its) (List.Perm.refl _)
def fD (its : List D) : D := .tup ((fr its).map toD)
theorem fr_len (its : List D) : (fr its).length ≤ its.length := by
  have go : ∀ (ps acc : List Pr), (ps.foldl step acc).length ≤ acc.length + ps.length := by
    intro ps
    induction ps with
    | nil => intro acc; simp
    | cons p ps ih =>
      intro acc
      have := ih (step acc p)
      have h2 : (step acc p).length ≤ acc.length + 1 := by
        by_cases e : acc = []
        · subst e; rw [step_nil]; simp
        · obtain ⟨pre, q, rfl⟩ := last_of e
          by_cases c : q.1 = p.1
          · rw [step_eq c]; simp
          · rw [step_ne c]; simp
      rw [List.foldl_cons, List.length_cons]
      omega
  have := go (one (srt its)) []
  unfold fr gath
  have l : (one (srt its)).length = its.length := by unfold one; rw [List.length_map]; exact (srt_ok its).1.length_eq
  rw [l] at this
  simpa using this
inductive Tm where
  | any (x : Str)
  | of (x : Str) (ps : List Tm)
  | mix (ps : List Tm)
mutual
def Tm.dat : Tm → D
  | .any x => .tup [.str "any", .str x]
  | .of x ps => .tup [.str "of", .str x, .tup (Tm.dats ps)]
  | .mix ps => .tup [.str "mix", .tup (Tm.dats ps)]
def Tm.dats : List Tm → List D
  | [] => []
  | p :: ps => p.dat :: Tm.dats ps
end
mutual
def Tm.items : Tm → List D
  | .any x => [.tup [.str "any", .str x]]
  | .of x ps => [.tup [.str "of", .str x, .tup (Tm.forms ps)]]
  | .mix ps => Tm.itemss ps
def Tm.forms : List Tm → List D
  | [] => []
  | p :: ps => fD p.items :: Tm.forms ps
def Tm.itemss : List Tm → List D
  | [] => []
  | p :: ps => p.items ++ Tm.itemss ps
end
theorem dats_map : ∀ ps : List Tm, Tm.dats ps = ps.map Tm.dat
  | [] => by unfold Tm.dats; rfl
  | p :: ps => by unfold Tm.dats; rw [dats_map ps]; rfl
theorem forms_map : ∀ ps : List Tm, Tm.forms ps = ps.map fun p => fD p.items
  | [] => by unfold Tm.forms; rfl
  | p :: ps => by unfold Tm.forms; rw [forms_map ps]; rfl
theorem itemss_flat : ∀ ps : List Tm, Tm.itemss ps = (ps.map Tm.items).flatten
  | [] => by unfold Tm.itemss; rfl
  | p :: ps => by unfold Tm.itemss; rw [itemss_flat ps]; rfl
theorem itemss_append (a b : List Tm) : Tm.itemss (a ++ b) = Tm.itemss a ++ Tm.itemss b := by rw [itemss_flat, itemss_flat, itemss_flat, List.map_append, List.flatten_append]
theorem itemss_perm {a b : List Tm} (h : a.Perm b) : (Tm.itemss a).Perm (Tm.itemss b) := by
  rw [itemss_flat, itemss_flat]
  exact (h.map _).flatten
/-- the same bag -/
def TEq (t u : Tm) : Prop := t.items.Perm u.items
inductive TEqs : List Tm → List Tm → Prop where
  | nil : TEqs [] []
  | cons {t u : Tm} {ts us : List Tm} (h : TEq t u) (hs : TEqs ts us) : TEqs (t :: ts) (u :: us)
theorem TEqs.forms {ts us : List Tm} (h : TEqs ts us) : Tm.forms ts = Tm.forms us := by
  induction h with
  | nil => rfl
  | cons h _ ih => unfold Tm.forms; rw [ih]; unfold fD; rw [fr_perm h]
theorem TEqs.items {ts us : List Tm} (h : TEqs ts us) : (Tm.itemss ts).Perm (Tm.itemss us) := by
  induction h with
  | nil => exact List.Perm.refl _
  | cons h _ ih => unfold Tm.itemss; exact h.append ih
theorem TEqs.length {ts us : List Tm} (h : TEqs ts us) : ts.length = us.length := by
  induction h with
  | nil => rfl
  | cons _ _ ih => simp [ih]
theorem teq_of {x : Str} {ts us : List Tm} (h : TEqs ts us) : TEq (.of x ts) (.of x us) := by unfold TEq Tm.items; rw [h.forms]
theorem teq_mix {ts us : List Tm} (h : TEqs ts us) : TEq (.mix ts) (.mix us) := by unfold TEq Tm.items; exact h.items
theorem teq_perm {ts us : List Tm} (h : ts.Perm us) : TEq (.mix ts) (.mix us) := by unfold TEq Tm.items; exact itemss_perm h
theorem teq_group (a b : List Tm) : TEq (.mix (a ++ b)) (.mix (a ++ [.mix b])) := by
  unfold TEq
  have e : (Tm.mix (a ++ [.mix b])).items = (Tm.mix (a ++ b)).items := by
    show Tm.itemss (a ++ [.mix b]) = Tm.itemss (a ++ b)
    rw [itemss_append, itemss_append]
    congr 1
    show Tm.itemss b ++ [] = _
    rw [List.append_nil]
  rw [e]
theorem teq_wrap1 (t : Tm) : TEq t (.mix [.mix [], t]) := by
  unfold TEq
  show t.items.Perm (([] : List D) ++ (t.items ++ []))
  rw [List.append_nil, List.nil_append]
theorem teq_wrap2 (t : Tm) : TEq t (.mix [.mix [t]]) := by
  unfold TEq
  show t.items.Perm ((t.items ++ []) ++ [])
  rw [List.append_nil, List.append_nil]
mutual
/-- things at most n in one another, names short, few parts, parts of few items -/
def Tm.ok : Nat → Tm → Prop
  | _, .any x => nmOk x
  | 0, .of x ps => nmOk x ∧ ps = []
  | n + 1, .of x ps => nmOk x ∧ ps.length ≤ 3 ∧ Tm.oks n ps ∧ ∀ p ∈ ps, p.items.length ≤ 64
  | n, .mix ps => ps.length ≤ 5 ∧ Tm.oks n ps
def Tm.oks : Nat → List Tm → Prop
  | _, [] => True
  | n, p :: ps => Tm.ok n p ∧ Tm.oks n ps
end
theorem oks_iff (n : Nat) : ∀ ps : List Tm, Tm.oks n ps ↔ ∀ p ∈ ps, Tm.ok n p
  | [] => by unfold Tm.oks; simp
  | p :: ps => by unfold Tm.oks; rw [oks_iff n ps]; simp
mutual
theorem ok_items : ∀ (n : Nat) (t : Tm), t.ok n → ∀ it ∈ t.items, okI (okF n) it
  | n, .any x, h, it, hi => by
    unfold Tm.ok at h
    unfold Tm.items at hi
    rw [List.mem_singleton.mp hi]
    exact .inl ⟨x, rfl, h⟩
  | 0, .of x ps, h, it, hi => by
    unfold Tm.ok at h
    unfold Tm.items at hi
    rw [List.mem_singleton.mp hi]
    refine .inr ⟨x, _, rfl, h.1, ?_, ?_⟩
    · rw [h.2]; unfold Tm.forms; exact Nat.zero_le _
    · rw [h.2]; unfold Tm.forms; intro f hf; exact absurd hf (by simp)
  | n + 1, .of x ps, h, it, hi => by
    unfold Tm.ok at h
    unfold Tm.items at hi
    rw [List.mem_singleton.mp hi]
    refine .inr ⟨x, _, rfl, h.1, by rw [forms_map, List.length_map]; exact h.2.1, ?_⟩
    exact oks_forms n ps h.2.2.1 h.2.2.2
  | 0, .mix ps, h, it, hi => by
    unfold Tm.ok at h
    unfold Tm.items at hi
    exact oks_items 0 ps h.2 it hi
  | n + 1, .mix ps, h, it, hi => by
    unfold Tm.ok at h
    unfold Tm.items at hi
    exact oks_items (n + 1) ps h.2 it hi
theorem oks_items : ∀ (n : Nat) (ps : List Tm), Tm.oks n ps → ∀ it ∈ Tm.itemss ps, okI (okF n) it
  | n, [], _, it, hi => by unfold Tm.itemss at hi; exact absurd hi (by simp)
  | n, p :: ps, h, it, hi => by
    unfold Tm.oks at h
    unfold Tm.itemss at hi
    rcases List.mem_append.mp hi with hi | hi
    · exact ok_items n p h.1 it hi
    · exact oks_items n ps h.2 it hi
theorem oks_forms : ∀ (n : Nat) (ps : List Tm), Tm.oks n ps → (∀ p ∈ ps, p.items.length ≤ 64) → ∀ f ∈ Tm.forms ps, okF (n + 1) f
  | n, [], _, _, f, hf => by unfold Tm.forms at hf; exact absurd hf (by simp)
  | n, p :: ps, h, hl, f, hf => by
    unfold Tm.oks at h
    unfold Tm.forms at hf
    rcases List.mem_cons.mp hf with rfl | hf
    · refine ⟨_, rfl, ?_, fun q hq => ?_⟩
      · rw [List.length_map]
        exact Nat.le_trans (fr_len _) (hl p List.mem_cons_self)
      · obtain ⟨r, hr, rfl⟩ := List.mem_map.mp hq
        exact ⟨r.1, r.2, rfl, ok_items n p h.1 _ ((fr_ok p.items).2.1 r hr).2⟩
    · exact oks_forms n ps h.2 (fun q hq => hl q (List.mem_cons_of_mem _ hq)) f hf
end
end K04
end
section
set_option Elab.async false
set_option linter.all false
set_option maxRecDepth 100000
set_option maxHeartbeats 4000000
namespace K04
open PySem PySem.W PySem.Spec PyProof.Rows L2 Mx K02
def top (i : Nat) : Stmt := PySem.Challenge.pw_mixform_k04_whole_same.main.body.getD i (.Pass ⟨0, 0, 0, 0⟩)
abbrev sGath : Stmt := top 1
theorem scGath : FnScope ["pairs", "whole", "item", "count"] ["pairs"] (defScope sGath) := ⟨rfl, rfl, rfl, by decide +kernel, rfl, by decide +kernel, by decide +kernel⟩
/-- a value stands for a form -/
abbrev FV (H : Hp) (v : V) (ps : List Pr) : Prop := DV H v (.tup (ps.map toD))
theorem pair_inv {H : Hp} {v : V} {p : Pr} (h : DV H v (toD p)) : ∃ a x, v = .ref a ∧ H a = some (.tup [x, .int p.2]) ∧ DV H x p.1 := by
  obtain ⟨a, xs, rfl, h1, h2⟩ := h.tup_inv
  obtain ⟨x0, r0, rfl, g0, h3⟩ := h2.cons_inv
  obtain ⟨x1, r1, rfl, g1, h4⟩ := h3.cons_inv
  cases h4.nil_inv
  cases g1.int_inv
  exact ⟨a, x0, rfl, h1, g0⟩
theorem pair_mk {H : Hp} {a : Addr} {x : V} {it : D} {c : Int} (h : H a = some (.tup [x, .int c])) (hx : DV H x it) : DV H (.ref a) (toD (it, c)) := DV.tup h (DVs.cons hx (DVs.cons DV.int DVs.nil))
abbrev okIt3 (it : D) : Prop := okI (okF 3) it
theorem okIt3_tup {it : D} (h : okIt3 it) : ∃ ds, it = .tup ds ∧ D.deps ds ≤ 100 := by
  have hd := dep_okI (dep_okF 3) h
  rcases h with ⟨x, rfl, _⟩ | ⟨x, fs, rfl, _⟩
  · exact ⟨_, rfl, by simp only [D.dep] at hd; omega⟩
  · exact ⟨_, rfl, by simp only [D.dep] at hd; omega⟩
theorem can_sort3 {ps : List Pr} (hl : ps.length < 128) (h : ∀ p ∈ ps, okIt3 p.1) : CanSort2 (ps.map toD) := by
  have hp : ∀ d ∈ ps.map toD, okP (okF 3) d := fun d hd => by
    obtain ⟨p, hp, rfl⟩ := List.mem_map.mp hd
    exact ⟨p.1, p.2, rfl, h p hp⟩
  refine ⟨by rw [List.length_map]; exact hl, ?_, ⟨false, fun d hd => first_okP (hp d hd)⟩, fun d hd e he => like_okP (like_okF 3 3) (hp d hd) (hp e he)⟩
  have := deps_le (b := 4 * 3 + 3) fun d hd => dep_okP (dep_okF 3) (hp d hd)
  omega
theorem can_sortI {its : List D} (hl : its.length < 128) (h : ∀ d ∈ its, okIt3 d) : CanSort2 its := by
  refine ⟨hl, ?_, ⟨true, fun d hd => ?_⟩, fun d hd e he => like_okI (like_okF 3 3) (h d hd) (h e he)⟩
  · have := deps_le (b := 4 * 3 + 2) fun d hd => dep_okI (dep_okF 3) (h d hd)
    omega
  · rcases h d hd with ⟨x, rfl, _⟩ | ⟨x, fs, rfl, _⟩
    · exact ⟨_, _, rfl⟩
    · exact ⟨_, _, rfl⟩
section
variable {P : Program} {w : World} {K : PySem.W.Frag} {mg : Str → Option Value} {base : Heap}
def spGath : Sp := fun vs H Q _ => ∃ l xs ps, vs = [.ref l] ∧ H l = some (.lst xs) ∧ DVs H xs (ps.map toD) ∧ ps.length < 128 ∧ (∀ p ∈ ps, okIt3 p.1) ∧ ∀ u ws H', Same H H' → FV H' u ws → up ws → (∀ q ∈ ws, ∃ r ∈ ps, q.1 = r.1) → (∀ it, cnt ws it = cnt ps it) → ws.length ≤ ps.length → Q u H'
theorem step_len (acc : List Pr) (p : Pr) : (step acc p).length ≤ acc.length + 1 := by
  by_cases e : acc = []
  · subst e; rw [step_nil]; simp
  · obtain ⟨pre, q, rfl⟩ := last_of e
    by_cases c : q.1 = p.1
    · rw [step_eq c]; simp
    · rw [step_ne c]; simp
theorem ok_gath {f : Addr} {fd : FuncData} (F : Fun K "gathered" "gathered" sGath f fd) (mso : mg "sorted" = none) (mt : mg "tuple" = none) : FnOk P w K mg base CX0 1 f fd ["pairs"] spGath := by
  refine F.ok scGath (fun vs H Q E h => ?_) (fun cdv A outer s H vs Q E hr h => ?_)
  · obtain ⟨l, xs, ps, rfl, _⟩ := h
    rfl
  obtain ⟨pa, pxs, ps, rfl, hpa0, hpd0, hl, hok, q⟩ := h
  have hu : (A.deeper (envOfC "gathered" (defScope sGath) s.heap.objs.size f cdv)).units + 150 < cLine := by have := hr.un; omega
  refine ⟨_, pss_cons (ps_set (i := 1) scGath.nd rfl (Or.inl rfl) (pe_lst pa_nil))
    (pss_cons (ps_for PassesOwn.never rfl (pi_list (pe_callB (call_sorted2 hu) rfl mso PyProof.Rows.boot_sorted (pa_cons (pv 0) pa_nil))) (pg_tup (n := 2) rfl (pgs_cons (pg_name (i := 2) scGath.nd rfl (Or.inl rfl)) (pgs_cons (pg_name (i := 3) scGath.nd rfl (Or.inl rfl)) pgs_nil)))
      (pss_one (ps_if (PW.pt (pw_and (pt_truth (pv 1) (fun _ => rfl)) (pw_and1 (pt_cmpR (op_eqD hu) (pe_ix ix_tup (pe_ix ix_list (pv 1) (pe_un un_neg pe_int) (fun _ _ => rfl)) pe_int (fun _ _ => rfl)) (pv 2) (nomark _)))))
        (pss_one (ps_asg (pe_tup (pa_cons (pv 2) (pa_cons (pe_op op_add (pe_ix ix_tup (pe_ix ix_list (pv 1) (pe_un un_neg pe_int) (fun _ _ => rfl)) pe_int (fun _ _ => rfl)) (pv 3)) pa_nil))) (pg_sub (pv 1) (pe_un un_neg pe_int) set_list)))
        (pss_one (ps_expr (pe_bm PySem.F.plainAttrs_list PySem.F.slot_list_append PySem.F.type_list_append mt_append (pv 1) (pa_cons (pe_tup (pa_cons (pv 2) (pa_cons (pv 3) pa_nil))) pa_nil)))))))
    (pss_one (ps_ret (pe_callTy call_tuple_of rfl mt PyProof.Rows.boot_tuple (pa_cons (pv 1) pa_nil))))), ?_⟩
  have hsz := sizeLine_eq
  refine sq_asg ?_
  refine ⟨(by show 0 ≤ sizeLine; omega), fun lw hlw => ?_⟩
  have s0 := same_new hlw (.lst [])
  have hpa := s0 _ _ hpa0
  have hpd := hpd0.mono (same_tups s0)
  obtain ⟨c1, c2, ⟨b, c3⟩, c4⟩ := can_sort3 hl hok
  refine ⟨_, rfl, pa, pxs, ps.map toD, b, rfl, .inl (SqL.of hpa), hpd, by rw [hpd.length]; exact c1, c2, c3, c4, fun ls zs es hls hzs hso => ?_⟩
  obtain ⟨qs, rfl, hpm, huw⟩ := sorted_pairs hso
  have hlsw : ls ≠ lw := fun e => by rw [e, upd_same] at hls; cases hls
  have s1 := same_new hls (.lst zs)
  have hzl : zs.length = qs.length := by rw [hzs.length, List.length_map]
  have hql : qs.length = ps.length := hpm.length_eq
  refine ⟨ls, rfl, ⟨zs, SqL.of upd_same⟩, for_list (fun i σ H' => (∃ o2 o3, σ = [some (.ref pa), some (.ref lw), o2, o3]) ∧ Same H H' ∧ H' ls = some (.lst zs) ∧ DVs H' zs (qs.map toD) ∧ ∃ xs, H' lw = some (.lst xs) ∧ DVs H' xs ((gath (qs.take i)).map toD) ∧ (gath (qs.take i)).length ≤ i)
    ⟨⟨_, _, rfl⟩, s0.trans s1, upd_same, hzs.mono (same_tups s1), [], s1 _ _ upd_same, DVs.nil, Nat.le_refl _⟩ (fun i σ H' _ hP => SqL.of hP.2.2.1) (fun i y σ H' hy hP => ?_) (fun σ H' hP => ?_)⟩
  · obtain ⟨⟨o2, o3, rfl⟩, sH, hls', hzs', xs, hxs, hxd, hgl⟩ := hP
    obtain ⟨d, hd, hyd⟩ := hzs'.get hy
    rw [List.getElem?_map] at hd
    obtain ⟨p, hp, rfl⟩ := Option.map_eq_some_iff.mp hd
    obtain ⟨py, x, rfl, hpy, hx⟩ := pair_inv hyd
    have gt := gath_take hp
    have gl2 := step_len (gath (qs.take i)) p
    rw [← gt] at gl2
    have hi : i < qs.length := (List.getElem?_eq_some_iff.mp hp).1
    have okp : okIt3 p.1 := hok p (hpm.mem_iff.mp (List.mem_of_getElem? hp))
    obtain ⟨dsi, hdi, hdd⟩ := okIt3_tup okp
    have hxl : xs.length = (gath (qs.take i)).length := by rw [hxd.length, List.length_map]
    refine ⟨py, _, rfl, SqT.of hpy, rfl, _, _, rfl, _, _, rfl, rfl, _, rfl, !xs.isEmpty, .inl ⟨xs, SqL.of hxs, rfl⟩, ?_⟩
    -- what is laid behind: the list with its end new, or longer
    have fin : ∀ (H2 : Hp) (ys : List V), Same H' H2 → DVs H2 ys ((gath (qs.take (i + 1))).map toD) → (∃ o2 o3, [some (V.ref pa), some (V.ref lw), some x, some (V.int p.2)] = [some (V.ref pa), some (V.ref lw), o2, o3]) ∧ Same H (upd H2 lw (.lst ys)) ∧ upd H2 lw (.lst ys) ls = some (.lst zs) ∧ DVs (upd H2 lw (.lst ys)) zs (qs.map toD) ∧ ∃ xs, upd H2 lw (.lst ys) lw = some (.lst xs) ∧ DVs (upd H2 lw (.lst ys)) xs ((gath (qs.take (i + 1))).map toD) ∧ (gath (qs.take (i + 1))).length ≤ i + 1 := fun H2 ys s2 hys => by
      have t2 : Tups H2 (upd H2 lw (.lst ys)) := tups_upd (s2 _ _ hxs)
      refine ⟨⟨_, _, rfl⟩, same_upd (sH.trans s2) hlw, ?_, (hzs'.mono (same_tups s2)).mono t2, ys, upd_same, hys.mono t2, by omega⟩
      rw [upd_ne hlsw]
      exact s2 _ _ hls'
    by_cases e : gath (qs.take i) = []
    · have ex : xs = [] := List.eq_nil_of_length_eq_zero (by rw [hxl, e]; rfl)
      subst ex
      refine iteF (iteF ?_)
      refine ⟨_, rfl, .inl ⟨rfl, _, SqL.of hxs⟩, _, rfl, _, rfl, (by show 2 ≤ sizeLine; omega), fun np hnp => ?_⟩
      have sn := same_new hnp (.tup [x, .int p.2])
      refine ⟨lw, _, _, rfl, rfl, sn _ _ hxs, (by show 0 < sizeLine; omega), ?_⟩
      refine fin _ [.ref np] sn ?_
      rw [gt, e, step_nil]
      exact DVs.cons (pair_mk upd_same (hx.mono (same_tups sn))) DVs.nil
    · obtain ⟨pre, lst, hpre⟩ := last_of e
      have hxd2 := hxd
      rw [hpre, List.map_append] at hxd2
      obtain ⟨pv', lv, rfl, hpv, hlv⟩ := DVs.snoc_inv hxd2
      obtain ⟨la, lx, rfl, hla, hlx⟩ := pair_inv hlv
      have hne : (!(pv' ++ [V.ref la]).isEmpty) = true := by simp
      rw [hne]
      obtain ⟨r0, hr0, er0⟩ : ∃ r ∈ qs, lst.1 = r.1 := by
        have := (gath_all (qs.take i) (huw.sublist (List.take_sublist _ _))).2.1 lst (by rw [hpre]; simp)
        obtain ⟨r, hr, er⟩ := this
        exact ⟨r, List.mem_of_mem_take hr, er⟩
      have okl : okIt3 lst.1 := by rw [er0]; exact hok r0 (hpm.mem_iff.mp hr0)
      obtain ⟨dsl, hdl, hddl⟩ := okIt3_tup okl
      rw [hdl] at hlx
      have hx2 := hx
      rw [hdi] at hx2
      refine iteT ⟨_, rfl, 1, rfl, lw, _, _, _, rfl, rfl, SqL.of hxs, Mx.atI_last _ _, la, _, 0, _, rfl, rfl, SqT.of hla, at0, _, rfl, dsl, dsi, hlx, hx2, hddl, _, rfl, ?_⟩
      by_cases c : lst.1 = p.1
      · have cd : dsl = dsi := by rw [hdl, hdi] at c; injection c
        refine ite_t (decide_eq_true cd) ?_
        refine ⟨_, rfl, _, rfl, 1, rfl, lw, _, _, _, rfl, rfl, SqL.of hxs, Mx.atI_last _ _, la, _, 1, _, rfl, rfl, SqT.of hla, at1, _, rfl, _, _, rfl, rfl, (by show 2 ≤ sizeLine; omega), fun np hnp => ?_⟩
        have sn := same_new hnp (.tup [x, .int (lst.2 + p.2)])
        refine ⟨_, rfl, 1, rfl, lw, _, _, _, rfl, rfl, sn _ _ hxs, ixN_last _ _, ?_⟩
        rw [set_last]
        refine fin _ (pv' ++ [.ref np]) sn ?_
        rw [gt, hpre, step_eq c, List.map_append]
        exact DVs.append (hpv.mono (same_tups sn)) (DVs.cons (pair_mk upd_same (hx.mono (same_tups sn))) DVs.nil)
      · have cd : dsl ≠ dsi := fun z => c (by rw [hdl, hdi, z])
        refine ite_f (decide_eq_false cd) ?_
        refine ⟨_, rfl, .inl ⟨rfl, _, SqL.of hxs⟩, _, rfl, _, rfl, (by show 2 ≤ sizeLine; omega), fun np hnp => ?_⟩
        have sn := same_new hnp (.tup [x, .int p.2])
        refine ⟨lw, _, _, rfl, rfl, sn _ _ hxs, by omega, ?_⟩
        refine fin _ (pv' ++ [V.ref la] ++ [.ref np]) sn ?_
        rw [gt, hpre, step_ne c, List.map_append]
        rw [hpre] at hxd
        exact DVs.append (hxd.mono (same_tups sn)) (DVs.cons (pair_mk upd_same (hx.mono (same_tups sn))) DVs.nil)
  · obtain ⟨⟨o2, o3, rfl⟩, sH, hls', hzs', xs, hxs, hxd, hgl⟩ := hP
    rw [hzl, List.take_length] at hxd hgl
    obtain ⟨g1, g2, g3⟩ := gath_all qs huw
    refine ⟨_, rfl, lw, xs, rfl, .inl ⟨SqL.of hxs, fun np hnp => ?_⟩⟩
    have sn := same_new hnp (.tup xs)
    refine q _ (gath qs) _ (sH.trans sn) (DV.tup upd_same (hxd.mono (same_tups sn))) g1 (fun r hr => ?_) (fun it => by rw [g3, cnt_perm hpm]) (by omega)
    obtain ⟨r2, h2, e2⟩ := g2 r hr
    exact ⟨r2, hpm.mem_iff.mp h2, e2⟩
end
end K04
end
section
set_option Elab.async false
set_option linter.all false
set_option maxRecDepth 100000
set_option maxHeartbeats 4000000
namespace K04
open PySem PySem.W PySem.Spec PyProof.Rows L2 Mx K02
abbrev sPairs : Stmt := top 2
abbrev sForm : Stmt := top 3
theorem scPairs : FnScope ["term", "forms", "pairs", "part"] ["term"] (defScope sPairs) := ⟨rfl, rfl, rfl, by decide +kernel, rfl, by decide +kernel, by decide +kernel⟩
theorem scForm : FnScope ["term"] ["term"] (defScope sForm) := ⟨rfl, rfl, rfl, by decide +kernel, rfl, by decide +kernel, by decide +kernel⟩
theorem ndPart : (["part"] : List Str).Nodup := by decide +kernel
mutual
def Tm.dp : Tm → Nat
  | .any _ => 0
  | .of _ ps => Tm.dps ps + 1
  | .mix ps => Tm.dps ps + 1
def Tm.dps : List Tm → Nat
  | [] => 0
  | p :: ps => max p.dp (Tm.dps ps)
end
theorem dp_mem : ∀ {ps : List Tm} {p : Tm}, p ∈ ps → p.dp ≤ Tm.dps ps
  | [], p, h => absurd h (by simp)
  | q :: ps, p, h => by
    unfold Tm.dps
    rcases List.mem_cons.mp h with rfl | h
    · omega
    · have := dp_mem h; omega
theorem okI_mono {f g : D → Prop} (h : ∀ d, f d → g d) {d : D} (hd : okI f d) : okI g d := by
  rcases hd with hd | ⟨x, fs, e, hx, hl, hf⟩
  · exact .inl hd
  · exact .inr ⟨x, fs, e, hx, hl, fun f hf' => h f (hf f hf')⟩
theorem okF_succ : ∀ (n : Nat) (d : D), okF n d → okF (n + 1) d
  | 0, d, h => h.elim
  | n + 1, d, h => by
    obtain ⟨ps, rfl, hl, hp⟩ := h
    refine ⟨ps, rfl, hl, fun p hp' => ?_⟩
    obtain ⟨it, c, e, hi⟩ := hp p hp'
    exact ⟨it, c, e, okI_mono (okF_succ n) hi⟩
theorem okF_le {n m : Nat} (h : n ≤ m) {d : D} (hd : okF n d) : okF m d := by
  induction h with
  | refl => exact hd
  | step _ ih => exact okF_succ _ _ ih
/-- a term as the laws draw and turn it -/
structure TmI (k : Nat) (t : Tm) : Prop where
  ok : ∃ n, n ≤ 3 ∧ t.ok n
  len : t.items.length ≤ 100
  dp : t.dp < k
theorem TmI.its {k : Nat} {t : Tm} (h : TmI k t) : ∀ it ∈ t.items, okIt3 it := fun it hi => by
  obtain ⟨n, hn, ho⟩ := h.ok
  exact okI_mono (fun d hd => okF_le hn hd) (ok_items n t ho it hi)
theorem TmI.of_inv {k : Nat} {x : Str} {ps : List Tm} (h : TmI (k + 1) (.of x ps)) : nmOk x ∧ ps.length ≤ 3 ∧ ∀ p ∈ ps, TmI k p := by
  obtain ⟨n, hn, ho⟩ := h.ok
  have hd := h.dp
  unfold Tm.dp at hd
  cases n with
  | zero =>
    unfold Tm.ok at ho
    rw [ho.2]
    exact ⟨ho.1, by simp, fun p hp => absurd hp (by simp)⟩
  | succ n =>
    unfold Tm.ok at ho
    refine ⟨ho.1, ho.2.1, fun p hp => ⟨⟨n, by omega, (oks_iff n ps).mp ho.2.2.1 p hp⟩, Nat.le_trans (ho.2.2.2 p hp) (by omega), ?_⟩⟩
    have := dp_mem hp
    omega
theorem itemss_mem {ps : List Tm} {p : Tm} (h : p ∈ ps) : p.items.length ≤ (Tm.itemss ps).length := by
  rw [itemss_flat]
  exact (List.sublist_flatten_of_mem (List.mem_map_of_mem h)).length_le
theorem TmI.mix_inv {k : Nat} {ps : List Tm} (h : TmI (k + 1) (.mix ps)) : ps.length ≤ 5 ∧ ∀ p ∈ ps, TmI k p := by
  obtain ⟨n, hn, ho⟩ := h.ok
  have hd := h.dp
  have hl := h.len
  unfold Tm.dp at hd
  unfold Tm.items at hl
  have ho' : ps.length ≤ 5 ∧ Tm.oks n ps := by
    cases n with
    | zero => unfold Tm.ok at ho; exact ho
    | succ n => unfold Tm.ok at ho; exact ho
  refine ⟨ho'.1, fun p hp => ⟨⟨n, hn, (oks_iff n ps).mp ho'.2 p hp⟩, Nat.le_trans (itemss_mem hp) hl, ?_⟩⟩
  have := dp_mem hp
  omega
section
variable {P : Program} {w : World} {K : PySem.W.Frag} {mg : Str → Option Value} {base : Heap}
def spForm (k : Nat) : Sp := fun vs H Q _ => ∃ v t, vs = [v] ∧ DV H v (Tm.dat t) ∧ TmI k t ∧ ∀ r H', Same H H' → DV H' r (fD t.items) → Q r H'
def spPairs (k : Nat) : Sp := fun vs H Q _ => ∃ v t, vs = [v] ∧ DV H v (Tm.dat t) ∧ TmI k t ∧ ∀ l xs H', Same H H' → H' l = some (.lst xs) → DVs H' xs ((one t.items).map toD) → Q (.ref l) H'
theorem ok_form {k j : Nat} (hj : 1 ≤ j) {f g p : Addr} {fd gd pd : FuncData} (F : Fun K "form_of" "form_of" sForm f fd) (G : FnOk P w K mg base CX0 1 g gd ["pairs"] spGath) (bG : Binds K gd ["pairs"] []) (kG : PySem.W.keepIn K (.ref g) = true) (mG : mg "gathered" = some (.ref g))
    (GP : FnOk P w K mg base CX0 j p pd ["term"] (spPairs k)) (bP : Binds K pd ["term"] []) (kP : PySem.W.keepIn K (.ref p) = true) (mP : mg "pairs_of" = some (.ref p)) : FnOk P w K mg base CX0 (j + 1) f fd ["term"] (spForm k) := by
  refine F.ok scForm (fun vs H Q E h => ?_) (fun cdv A outer s H vs Q E hr h => ?_)
  · obtain ⟨v, t, rfl, _⟩ := h
    rfl
  obtain ⟨v, t, rfl, hv, ht, q⟩ := h
  refine ⟨_, pss_one (ps_ret (pe_call G (hr.mono (by omega)) rfl mG kG bG .nil pass0 (pa_cons (pe_call GP (hr.mono (by omega)) rfl mP kP bP .nil pass0 (pa_cons (pv 0) pa_nil)) pa_nil))), ?_⟩
  refine ⟨_, rfl, v, t, rfl, hv, ht, fun l xs H1 s1 hl hx => ?_⟩
  have hlen := ht.len
  refine ⟨l, xs, one t.items, rfl, hl, hx, by unfold one; rw [List.length_map]; omega, fun pr hp => ?_, fun u ws H2 s2 hu h1 h2 h3 h4 => ?_⟩
  · obtain ⟨d, hd, rfl⟩ := List.mem_map.mp hp
    exact ht.its d hd
  · have e := (Frm.of_gath h1 h2 h3).eq
    rw [e] at hu
    exact q u H2 (s1.trans s2) hu
end
end K04
end
section
set_option Elab.async false
set_option linter.all false
set_option maxRecDepth 100000
set_option maxHeartbeats 4000000
namespace K04
open PySem PySem.W PySem.Spec PyProof.Rows L2 Mx K02
abbrev DatE (te : TE) (σ : L2.St) (H : Hp) (d : D) : Prop := DatP te σ H fun e => e = d
abbrev DatsE (ta : TA) (σ : L2.St) (H : Hp) (ds : List D) : Prop := DatsP ta σ H fun e => e = ds
abbrev LDatE (te : TE) (σ : L2.St) (H : Hp) (ds : List D) : Prop := LDatP te σ H fun e => e = ds
section
variable {te tb : TE} {ta : TA} {σ : L2.St} {H : Hp} {d : D} {ds es : List D} {K : PySem.W.Frag}
theorem e_nil : DatsE tNil σ H [] := dats_nil rfl
theorem e_cons (h : DatE te σ H d) (t : DatsE ta σ H ds) : DatsE (tCons te ta) σ H (d :: ds) := dats_cons h t (by rintro _ _ rfl rfl; rfl)
theorem e_tup (h : DatsE ta σ H ds) (hl : ds.length ≤ 1000 := by exact Nat.le_of_ble_eq_true rfl) : DatE (tTup ta) σ H (.tup ds) := dat_tup h (by rintro _ rfl; rw [sizeLine_eq]; omega) (by rintro _ rfl; rfl)
theorem e_lst (h : DatsE ta σ H ds) (hl : ds.length ≤ 1000 := by exact Nat.le_of_ble_eq_true rfl) : LDatE (tLst ta) σ H ds := ldat_lst h (by rintro _ rfl; rw [sizeLine_eq]; omega)
theorem e_str {x : Str} : DatE (tC (.str x)) σ H (.str x) := dat_str rfl
theorem e_int {x : Int} : DatE (tC (.int x)) σ H (.int x) := dat_int rfl
theorem e_var {i : Nat} {v : V} (hv : σ[i]? = some (some v)) (hd : DV H v d) : DatE (tVar i) σ H d := dat_var hv hd rfl
theorem e_ixT {i : Nat} {k : Int} {l : Addr} {vs : List V} {v : V} (hv : σ[i]? = some (some (.ref l))) (hl : H l = some (.tup vs)) (hk : atI vs k = some v) (hd : DV H v d) : DatE (tOp (rIxT K) (tVar i) (tC (.int k))) σ H d := fun H1 Q s q =>
  ⟨_, hv, l, vs, k, v, rfl, rfl, SqT.of (s _ _ hl), hk, q v d H1 (Same.refl _) (hd.mono (same_tups s)) rfl⟩
end
theorem take_map_succ {α β : Type} (f : α → β) (l : List α) (i : Nat) (x : α) (h : l[i]? = some x) : (l.take (i + 1)).map f = (l.take i).map f ++ [f x] := by
  rw [List.take_add_one, h]
  simp
theorem itemss_take {ps : List Tm} {i : Nat} {p : Tm} (h : ps[i]? = some p) : Tm.itemss (ps.take (i + 1)) = Tm.itemss (ps.take i) ++ p.items := by
  rw [List.take_add_one, h, itemss_append]
  congr 1
  show p.items ++ [] = _
  rw [List.append_nil]
section
variable {P : Program} {w : World} {K : PySem.W.Frag} {mg : Str → Option Value} {base : Heap}
theorem ok_pairs {k j : Nat} {f g p : Addr} {fd gd pd : FuncData} (F : Fun K "pairs_of" "pairs_of" sPairs f fd) (GF : FnOk P w K mg base CX0 (j + 1) g gd ["term"] (spForm k)) (bF : Binds K gd ["term"] []) (kF : PySem.W.keepIn K (.ref g) = true) (mF : mg "form_of" = some (.ref g))
    (GP : FnOk P w K mg base CX0 j p pd ["term"] (spPairs k)) (bP : Binds K pd ["term"] []) (kP : PySem.W.keepIn K (.ref p) = true) (mP : mg "pairs_of" = some (.ref p)) (mt : mg "tuple" = none) : FnOk P w K mg base CX0 (j + 2) f fd ["term"] (spPairs (k + 1)) := by
  refine F.ok scPairs (fun vs H Q E h => ?_) (fun cdv A outer s H vs Q E hr h => ?_)
  · obtain ⟨v, t, rfl, _⟩ := h
    rfl
  obtain ⟨v, t, rfl, hv, ht, q⟩ := h
  refine ⟨_, pss_cons (ps_if (pt_cmpR op_eq (pe_ix ix_tup (pv 0) pe_int (fun _ _ => rfl)) pe_str (nomark _)) (pss_one (ps_ret (pe_lst (pa_cons (pe_tup (pa_cons (pv 0) (pa_cons pe_int pa_nil))) pa_nil)))) pss_nil)
    (pss_cons (ps_if (pt_cmpR op_eq (pe_ix ix_tup (pv 0) pe_int (fun _ _ => rfl)) pe_str (nomark _))
        (pss_cons (ps_set (i := 1) scPairs.nd rfl (Or.inl rfl) (pe_callTy call_tuple_of rfl mt PyProof.Rows.boot_tuple (pa_cons (pe_comp (N' := ["part"]) (cap := [none]) rfl (blk_of (defScope sPairs).names ["term", "forms", "pairs", "part"] rfl rfl rfl (by decide +kernel)) (pi_tup (pe_ix ix_tup (pv 0) pe_int (fun _ _ => rfl))) (ge_name rfl) (fun _ _ _ _ => pg_name (i := 0) ndPart rfl (Or.inl rfl)) (fun _ _ _ _ => pts_nil) (fun _ _ _ _ => pe_call GF (hr.mono (by omega)) rfl mF kF bF .nil pass0 (pa_cons (pv 0) pa_nil))) pa_nil)))
          (pss_one (ps_ret (pe_lst (pa_cons (pe_tup (pa_cons (pe_tup (pa_cons pe_str (pa_cons (pe_ix ix_tup (pv 0) pe_int (fun _ _ => rfl)) (pa_cons (pv 1) pa_nil)))) (pa_cons pe_int pa_nil))) pa_nil)))))
        pss_nil)
    (pss_cons (ps_set (i := 2) scPairs.nd rfl (Or.inl rfl) (pe_lst pa_nil))
    (pss_cons (ps_for PassesOwn.never rfl (pi_tup (pe_ix ix_tup (pv 0) pe_int (fun _ _ => rfl))) (pg_name (i := 3) scPairs.nd rfl (Or.inl rfl))
        (pss_one (ps_expr (pe_bm PySem.F.plainAttrs_list PySem.F.slot_list_extend PySem.F.type_list_extend mt_extend (pv 2) (pa_cons (pe_call GP (hr.mono (by omega)) rfl mP kP bP .nil pass0 (pa_cons (pv 3) pa_nil)) pa_nil)))))
    (pss_one (ps_ret (pv 2)))))), ?_⟩
  have hsz := sizeLine_eq
  cases t with
  | any x =>
    have hv' := hv
    unfold Tm.dat at hv'
    obtain ⟨a, xs, rfl, ha, hs⟩ := hv'.tup_inv
    obtain ⟨x0, r0, rfl, h0, hs0⟩ := hs.cons_inv
    cases h0.str_inv
    refine sq_ifn ?_
    refine ⟨_, rfl, a, _, 0, _, rfl, rfl, SqT.of ha, at0, rfl, _, rfl, ?_⟩
    refine ite2 (fun c => ?_) (fun c => absurd (decide_eq_true rfl) c)
    refine rt_ldat (e_lst (e_cons (e_tup (e_cons (e_var rfl hv) (e_cons e_int e_nil))) e_nil)) fun l vs ds H2 s2 hl hd hp => ?_
    subst hp
    exact q l vs H2 s2 hl hd
  | of x ps =>
    obtain ⟨hx, h3, hps⟩ := ht.of_inv
    have hv' := hv
    unfold Tm.dat at hv'
    obtain ⟨a, xs, rfl, ha, hs⟩ := hv'.tup_inv
    obtain ⟨x0, r0, rfl, h0, hs0⟩ := hs.cons_inv
    obtain ⟨x1, r1, rfl, h1, hs1⟩ := hs0.cons_inv
    obtain ⟨x2, r2, rfl, h2, hs2⟩ := hs1.cons_inv
    cases hs2.nil_inv
    cases h0.str_inv
    obtain ⟨b, ys, rfl, hb, hys⟩ := h2.tup_inv
    rw [dats_map] at hys
    have hyl := hys.length
    rw [List.length_map] at hyl
    refine sq_ifn ?_
    refine ⟨_, rfl, a, _, 0, _, rfl, rfl, SqT.of ha, at0, rfl, _, rfl, ?_⟩
    refine ite2 (fun c => absurd (of_decide_eq_true c) (by decide)) (fun c => ?_)
    refine sq_ifn ?_
    refine ⟨_, rfl, a, _, 0, _, rfl, rfl, SqT.of ha, at0, rfl, _, rfl, ?_⟩
    refine ite2 (fun c => ?_) (fun c => absurd (decide_eq_true rfl) c)
    refine sq_asg ?_
    refine ⟨_, rfl, a, _, 2, _, rfl, rfl, SqT.of ha, rfl, b, rfl, ⟨ys, SqT.of hb⟩, fun Dl hD => comp_tup hb hD (fun i => (ps.take i).map fun p => fD p.items) rfl (by omega) (fun i y Hc hy sc N M hN hM => ?_) (fun Hc acc sc hDc hacc => ?_)⟩
    · obtain ⟨d, hd, hyd⟩ := hys.get hy
      rw [List.getElem?_map] at hd
      obtain ⟨pt, hpt, rfl⟩ := Option.map_eq_some_iff.mp hd
      exact iteT (B := M Hc) ⟨_, rfl, y, pt, rfl, hyd.mono (same_tups sc), hps pt (List.mem_of_getElem? hpt), fun r H4 s4 hr4 => hN _ _ _ s4 hr4 (take_map_succ _ _ _ _ hpt)⟩
    · rw [hyl, List.take_length] at hacc
      refine ⟨Dl, acc, rfl, .inl ⟨SqL.of hDc, fun np hnp => ?_⟩⟩
      have sn := same_new hnp (.tup acc)
      have hf : DV (upd Hc np (.tup acc)) (.ref np) (.tup (Tm.forms ps)) := by
        rw [forms_map]
        exact DV.tup upd_same (hacc.mono (same_tups sn))
      have ss := sc.trans sn
      refine rt_ldat (e_lst (e_cons (e_tup (e_cons (e_tup (e_cons e_str (e_cons (e_ixT rfl (ss _ _ ha) at1 (h1.mono (same_tups ss))) (e_cons (e_var rfl hf) e_nil)))) (e_cons e_int e_nil))) e_nil)) fun l vs ds H2 s2 hl hd hp => ?_
      subst hp
      refine q l vs H2 (ss.trans s2) hl ?_
      have e : (one (Tm.of x ps).items).map toD = [D.tup [.tup [.str "of", .str x, .tup (Tm.forms ps)], .int 1]] := by unfold Tm.items; rfl
      rw [e]
      exact hd
  | mix ps =>
    obtain ⟨h5, hps⟩ := ht.mix_inv
    have hlen := ht.len
    unfold Tm.items at hlen
    have hv' := hv
    unfold Tm.dat at hv'
    obtain ⟨a, xs, rfl, ha, hs⟩ := hv'.tup_inv
    obtain ⟨x0, r0, rfl, h0, hs0⟩ := hs.cons_inv
    obtain ⟨x1, r1, rfl, h1, hs1⟩ := hs0.cons_inv
    cases hs1.nil_inv
    cases h0.str_inv
    obtain ⟨b, ys, rfl, hb, hys⟩ := h1.tup_inv
    rw [dats_map] at hys
    have hyl := hys.length
    rw [List.length_map] at hyl
    refine sq_ifn ?_
    refine ⟨_, rfl, a, _, 0, _, rfl, rfl, SqT.of ha, at0, rfl, _, rfl, ?_⟩
    refine ite2 (fun c => absurd (of_decide_eq_true c) (by decide)) (fun c => ?_)
    refine sq_ifn ?_
    refine ⟨_, rfl, a, _, 0, _, rfl, rfl, SqT.of ha, at0, rfl, _, rfl, ?_⟩
    refine ite2 (fun c => absurd (of_decide_eq_true c) (by decide)) (fun c => ?_)
    refine sq_asg ?_
    refine ⟨(by show 0 ≤ sizeLine; omega), fun lw hlw => ?_⟩
    have s0 := same_new hlw (.lst [])
    refine ⟨_, rfl, a, _, 1, _, rfl, rfl, SqT.of (s0 _ _ ha), at1, b, rfl, ⟨ys, SqT.of (s0 _ _ hb)⟩, for_tup (fun i σ H' => (∃ o1 o3, σ = [some (.ref a), o1, some (.ref lw), o3]) ∧ Same H H' ∧ ∃ zs, H' lw = some (.lst zs) ∧ DVs H' zs ((one (Tm.itemss (ps.take i))).map toD))
      ⟨⟨_, _, rfl⟩, s0, [], upd_same, DVs.nil⟩ (fun i σ H' _ hP => SqT.of (hP.2.1 _ _ hb)) (fun i y σ H' hy hP => ?_) (fun σ H' hP => ?_)⟩
    · obtain ⟨⟨o1, o3, rfl⟩, sH, zs, hzs, hzd⟩ := hP
      obtain ⟨d, hd, hyd⟩ := hys.get hy
      rw [List.getElem?_map] at hd
      obtain ⟨pt, hpt, rfl⟩ := Option.map_eq_some_iff.mp hd
      have hm := List.mem_of_getElem? hpt
      have e1 := itemss_take hpt
      have hz2 : zs.length = (Tm.itemss (ps.take i)).length := by rw [hzd.length, List.length_map]; unfold one; rw [List.length_map]
      have hle : (Tm.itemss (ps.take (i + 1))).length ≤ 100 := by
        have : Tm.itemss ps = Tm.itemss (ps.take (i + 1)) ++ Tm.itemss (ps.drop (i + 1)) := by rw [← itemss_append, List.take_append_drop]
        rw [this, List.length_append] at hlen
        omega
      refine ⟨_, rfl, .inl ⟨rfl, _, SqL.of hzs⟩, _, rfl, y, pt, rfl, hyd.mono (same_tups sH), hps pt hm, fun l2 ws H2 s2 hl2 hw2 => ?_⟩
      have hw3 : ws.length = pt.items.length := by rw [hw2.length, List.length_map]; unfold one; rw [List.length_map]
      rw [e1, List.length_append] at hle
      refine ⟨lw, l2, zs, ws, rfl, rfl, s2 _ _ hzs, hl2, by omega, ?_⟩
      have t2 : Tups H2 (upd H2 lw (.lst (zs ++ ws))) := tups_upd (s2 _ _ hzs)
      refine ⟨⟨_, _, rfl⟩, same_upd (sH.trans s2) hlw, zs ++ ws, upd_same, ?_⟩
      rw [e1]
      unfold one
      rw [List.map_append, List.map_append]
      exact DVs.append ((hzd.mono (same_tups s2)).mono t2) (hw2.mono t2)
    · obtain ⟨⟨o1, o3, rfl⟩, sH, zs, hzs, hzd⟩ := hP
      rw [hyl, List.take_length] at hzd
      refine ⟨_, rfl, ?_⟩
      refine q lw zs H' sH hzs ?_
      have e : (Tm.mix ps).items = Tm.itemss ps := by unfold Tm.items; rfl
      rw [e]
      exact hzd
end
end K04
end
section
set_option Elab.async false
set_option linter.all false
set_option maxRecDepth 100000
set_option maxHeartbeats 4000000
namespace K04
open PySem PySem.W PySem.Spec PyProof.Rows L2 Mx K02
abbrev sItems : Stmt := top 13
theorem scItems : FnScope ["_law_term_here", "_law_found", "_law_part"] ["_law_term_here"] (defScope sItems) := ⟨rfl, rfl, rfl, by decide +kernel, rfl, by decide +kernel, by decide +kernel⟩
theorem ndLPart : (["_law_part"] : List Str).Nodup := by decide +kernel
section
variable {P : Program} {w : World} {K : PySem.W.Frag} {mg : Str → Option Value} {base : Heap}
def spItems (k : Nat) : Sp := fun vs H Q _ => ∃ v t, vs = [v] ∧ DV H v (Tm.dat t) ∧ TmI k t ∧ ∀ l xs H', Same H H' → H' l = some (.lst xs) → DVs H' xs t.items → Q (.ref l) H'
theorem ok_items' {k j : Nat} {f g p : Addr} {fd gd pd : FuncData} (F : Fun K "_law_items" "_law_items" sItems f fd) (GF : FnOk P w K mg base CX0 (j + 1) g gd ["_law_term_here"] (spForm k)) (bF : Binds K gd ["_law_term_here"] []) (kF : PySem.W.keepIn K (.ref g) = true) (mF : mg "_law_form" = some (.ref g))
    (GP : FnOk P w K mg base CX0 j p pd ["_law_term_here"] (spItems k)) (bP : Binds K pd ["_law_term_here"] []) (kP : PySem.W.keepIn K (.ref p) = true) (mP : mg "_law_items" = some (.ref p)) (mt : mg "tuple" = none) : FnOk P w K mg base CX0 (j + 2) f fd ["_law_term_here"] (spItems (k + 1)) := by
  refine F.ok scItems (fun vs H Q E h => ?_) (fun cdv A outer s H vs Q E hr h => ?_)
  · obtain ⟨v, t, rfl, _⟩ := h
    rfl
  obtain ⟨v, t, rfl, hv, ht, q⟩ := h
  refine ⟨_, pss_cons (ps_if (pt_cmpR op_eq (pe_ix ix_tup (pv 0) pe_int (fun _ _ => rfl)) pe_str (nomark _)) (pss_one (ps_ret (pe_lst (pa_cons (pv 0) pa_nil)))) pss_nil)
    (pss_cons (ps_if (pt_cmpR op_eq (pe_ix ix_tup (pv 0) pe_int (fun _ _ => rfl)) pe_str (nomark _))
        (pss_one (ps_ret (pe_lst (pa_cons (pe_tup (pa_cons pe_str (pa_cons (pe_ix ix_tup (pv 0) pe_int (fun _ _ => rfl)) (pa_cons (pe_callTy call_tuple_of rfl mt PyProof.Rows.boot_tuple (pa_cons (pe_comp (N' := ["_law_part"]) (cap := [none]) rfl (blk_of (defScope sItems).names ["_law_term_here", "_law_found", "_law_part"] rfl rfl rfl (by decide +kernel)) (pi_tup (pe_ix ix_tup (pv 0) pe_int (fun _ _ => rfl))) (ge_name rfl) (fun _ _ _ _ => pg_name (i := 0) ndLPart rfl (Or.inl rfl)) (fun _ _ _ _ => pts_nil) (fun _ _ _ _ => pe_call GF (hr.mono (by omega)) rfl mF kF bF .nil pass0 (pa_cons (pv 0) pa_nil))) pa_nil)) pa_nil)))) pa_nil))))
        pss_nil)
    (pss_cons (ps_set (i := 1) scItems.nd rfl (Or.inl rfl) (pe_lst pa_nil))
    (pss_cons (ps_for PassesOwn.never rfl (pi_tup (pe_ix ix_tup (pv 0) pe_int (fun _ _ => rfl))) (pg_name (i := 2) scItems.nd rfl (Or.inl rfl))
        (pss_one (ps_set (i := 1) scItems.nd rfl (Or.inl rfl) (pe_op op_cat (pv 1) (pe_call GP (hr.mono (by omega)) rfl mP kP bP .nil pass0 (pa_cons (pv 2) pa_nil))))))
    (pss_one (ps_ret (pv 1)))))), ?_⟩
  have hsz := sizeLine_eq
  cases t with
  | any x =>
    have hv' := hv
    unfold Tm.dat at hv'
    obtain ⟨a, xs, rfl, ha, hs⟩ := hv'.tup_inv
    obtain ⟨x0, r0, rfl, h0, hs0⟩ := hs.cons_inv
    cases h0.str_inv
    refine sq_ifn ?_
    refine ⟨_, rfl, a, _, 0, _, rfl, rfl, SqT.of ha, at0, rfl, _, rfl, ?_⟩
    refine ite2 (fun c => ?_) (fun c => absurd (decide_eq_true rfl) c)
    refine rt_ldat (e_lst (e_cons (e_var rfl hv) e_nil)) fun l vs ds H2 s2 hl hd hp => ?_
    subst hp
    exact q l vs H2 s2 hl hd
  | of x ps =>
    obtain ⟨hx, h3, hps⟩ := ht.of_inv
    have hv' := hv
    unfold Tm.dat at hv'
    obtain ⟨a, xs, rfl, ha, hs⟩ := hv'.tup_inv
    obtain ⟨x0, r0, rfl, h0, hs0⟩ := hs.cons_inv
    obtain ⟨x1, r1, rfl, h1, hs1⟩ := hs0.cons_inv
    obtain ⟨x2, r2, rfl, h2, hs2⟩ := hs1.cons_inv
    cases hs2.nil_inv
    cases h0.str_inv
    obtain ⟨b, ys, rfl, hb, hys⟩ := h2.tup_inv
    rw [dats_map] at hys
    have hyl := hys.length
    rw [List.length_map] at hyl
    refine sq_ifn ?_
    refine ⟨_, rfl, a, _, 0, _, rfl, rfl, SqT.of ha, at0, rfl, _, rfl, ?_⟩
    refine ite2 (fun c => absurd (of_decide_eq_true c) (by decide)) (fun c => ?_)
    refine sq_ifn ?_
    refine ⟨_, rfl, a, _, 0, _, rfl, rfl, SqT.of ha, at0, rfl, _, rfl, ?_⟩
    refine ite2 (fun c => ?_) (fun c => absurd (decide_eq_true rfl) c)
    refine ⟨_, rfl, a, _, 1, _, rfl, rfl, SqT.of ha, at1, _, rfl, a, _, 2, _, rfl, rfl, SqT.of ha, rfl, b, rfl, ⟨ys, SqT.of hb⟩, fun Dl hD => comp_tup hb hD (fun i => (ps.take i).map fun p => fD p.items) rfl (by omega) (fun i y Hc hy sc N M hN hM => ?_) (fun Hc acc sc hDc hacc => ?_)⟩
    · obtain ⟨d, hd, hyd⟩ := hys.get hy
      rw [List.getElem?_map] at hd
      obtain ⟨pt, hpt, rfl⟩ := Option.map_eq_some_iff.mp hd
      exact iteT (B := M Hc) ⟨_, rfl, y, pt, rfl, hyd.mono (same_tups sc), hps pt (List.mem_of_getElem? hpt), fun r H4 s4 hr4 => hN _ _ _ s4 hr4 (take_map_succ _ _ _ _ hpt)⟩
    · rw [hyl, List.take_length] at hacc
      refine ⟨Dl, acc, rfl, .inl ⟨SqL.of hDc, fun np hnp => ?_⟩⟩
      have sn := same_new hnp (.tup acc)
      have hf : DV (upd Hc np (.tup acc)) (.ref np) (.tup (Tm.forms ps)) := by
        rw [forms_map]
        exact DV.tup upd_same (hacc.mono (same_tups sn))
      have ss := sc.trans sn
      refine ⟨(by show 3 ≤ sizeLine; omega), fun tp htp => ⟨(by show 1 ≤ sizeLine; omega), fun ln hln => ?_⟩⟩
      have s3 := same_new htp (.tup [.str "of", x1, .ref np])
      have s4 := same_new hln (.lst [.ref tp])
      have sa := ss.trans (s3.trans s4)
      refine q ln _ _ sa upd_same ?_
      have e : (Tm.of x ps).items = [D.tup [.str "of", .str x, .tup (Tm.forms ps)]] := by unfold Tm.items; rfl
      rw [e]
      exact DVs.cons (DV.tup (s4 _ _ upd_same) (DVs.cons DV.str (DVs.cons (h1.mono (same_tups sa)) (DVs.cons (hf.mono (same_tups (s3.trans s4))) DVs.nil)))) DVs.nil
  | mix ps =>
    obtain ⟨h5, hps⟩ := ht.mix_inv
    have hlen := ht.len
    unfold Tm.items at hlen
    have hv' := hv
    unfold Tm.dat at hv'
    obtain ⟨a, xs, rfl, ha, hs⟩ := hv'.tup_inv
    obtain ⟨x0, r0, rfl, h0, hs0⟩ := hs.cons_inv
    obtain ⟨x1, r1, rfl, h1, hs1⟩ := hs0.cons_inv
    cases hs1.nil_inv
    cases h0.str_inv
    obtain ⟨b, ys, rfl, hb, hys⟩ := h1.tup_inv
    rw [dats_map] at hys
    have hyl := hys.length
    rw [List.length_map] at hyl
    refine sq_ifn ?_
    refine ⟨_, rfl, a, _, 0, _, rfl, rfl, SqT.of ha, at0, rfl, _, rfl, ?_⟩
    refine ite2 (fun c => absurd (of_decide_eq_true c) (by decide)) (fun c => ?_)
    refine sq_ifn ?_
    refine ⟨_, rfl, a, _, 0, _, rfl, rfl, SqT.of ha, at0, rfl, _, rfl, ?_⟩
    refine ite2 (fun c => absurd (of_decide_eq_true c) (by decide)) (fun c => ?_)
    refine sq_asg ?_
    refine ⟨(by show 0 ≤ sizeLine; omega), fun lw hlw => ?_⟩
    have s0 := same_new hlw (.lst [])
    refine ⟨_, rfl, a, _, 1, _, rfl, rfl, SqT.of (s0 _ _ ha), at1, b, rfl, ⟨ys, SqT.of (s0 _ _ hb)⟩, for_tup (fun i σ H' => ∃ lz o2, σ = [some (.ref a), some (.ref lz), o2] ∧ Same H H' ∧ ∃ zs, H' lz = some (.lst zs) ∧ DVs H' zs (Tm.itemss (ps.take i)))
      ⟨lw, _, rfl, s0, [], upd_same, DVs.nil⟩ (fun i σ H' _ hP => by obtain ⟨_, _, _, sH, _⟩ := hP; exact SqT.of (sH _ _ hb)) (fun i y σ H' hy hP => ?_) (fun σ H' hP => ?_)⟩
    · obtain ⟨lz, o2, rfl, sH, zs, hzs, hzd⟩ := hP
      obtain ⟨d, hd, hyd⟩ := hys.get hy
      rw [List.getElem?_map] at hd
      obtain ⟨pt, hpt, rfl⟩ := Option.map_eq_some_iff.mp hd
      have hm := List.mem_of_getElem? hpt
      have e1 := itemss_take hpt
      have hz2 : zs.length = (Tm.itemss (ps.take i)).length := hzd.length
      have hle : (Tm.itemss (ps.take (i + 1))).length ≤ 100 := by
        have : Tm.itemss ps = Tm.itemss (ps.take (i + 1)) ++ Tm.itemss (ps.drop (i + 1)) := by rw [← itemss_append, List.take_append_drop]
        rw [this, List.length_append] at hlen
        omega
      refine ⟨_, rfl, _, rfl, y, pt, rfl, hyd.mono (same_tups sH), hps pt hm, fun l2 ws H2 s2 hl2 hw2 => ?_⟩
      have hw3 : ws.length = pt.items.length := hw2.length
      rw [e1, List.length_append] at hle
      refine ⟨lz, l2, zs, ws, rfl, rfl, s2 _ _ hzs, hl2, by omega, fun na hna => ?_⟩
      have sn := same_new hna (.lst (zs ++ ws))
      refine ⟨na, _, rfl, (sH.trans s2).trans sn, zs ++ ws, upd_same, ?_⟩
      rw [e1]
      exact DVs.append (hzd.mono (same_tups (s2.trans sn))) (hw2.mono (same_tups sn))
    · obtain ⟨lz, o2, rfl, sH, zs, hzs, hzd⟩ := hP
      rw [hyl, List.take_length] at hzd
      refine ⟨_, rfl, ?_⟩
      refine q lz zs H' sH hzs ?_
      have e : (Tm.mix ps).items = Tm.itemss ps := by unfold Tm.items; rfl
      rw [e]
      exact hzd
end
end K04
end
section
set_option Elab.async false
set_option linter.all false
set_option maxRecDepth 100000
set_option maxHeartbeats 4000000
namespace K04
open PySem PySem.W PySem.Spec PyProof.Rows L2 Mx K02
abbrev sLForm : Stmt := top 14
theorem scLForm : FnScope ["_law_term_here", "_law_found", "_law_item"] ["_law_term_here"] (defScope sLForm) := ⟨rfl, rfl, rfl, by decide +kernel, rfl, by decide +kernel, by decide +kernel⟩
theorem one_take {es : List D} {i : Nat} {d : D} (h : es[i]? = some d) : gath (one (es.take (i + 1))) = step (gath (one (es.take i))) (d, 1) := by
  have e : ∀ n, one (es.take n) = (one es).take n := fun n => by unfold one; rw [List.map_take]
  rw [e, e]
  exact gath_take (by unfold one; rw [List.getElem?_map, h]; rfl)
section
variable {P : Program} {w : World} {K : PySem.W.Frag} {mg : Str → Option Value} {base : Heap}
theorem ok_lform {k j : Nat} {f p : Addr} {fd pd : FuncData} (F : Fun K "_law_form" "_law_form" sLForm f fd)
    (GP : FnOk P w K mg base CX0 j p pd ["_law_term_here"] (spItems k)) (bP : Binds K pd ["_law_term_here"] []) (kP : PySem.W.keepIn K (.ref p) = true) (mP : mg "_law_items" = some (.ref p)) (mso : mg "sorted" = none) (mt : mg "tuple" = none) (ml : mg "len" = none) : FnOk P w K mg base CX0 (j + 1) f fd ["_law_term_here"] (spForm k) := by
  refine F.ok scLForm (fun vs H Q E h => ?_) (fun cdv A outer s H vs Q E hr h => ?_)
  · obtain ⟨v, t, rfl, _⟩ := h
    rfl
  obtain ⟨v, t, rfl, hv, ht, q⟩ := h
  have hu : (A.deeper (envOfC "_law_form" (defScope sLForm) s.heap.objs.size f cdv)).units + 150 < cLine := by have := hr.un; omega
  refine ⟨_, pss_cons (ps_set (i := 1) scLForm.nd rfl (Or.inl rfl) (pe_lst pa_nil))
    (pss_cons (ps_for PassesOwn.never rfl (pi_list (pe_callB (call_sorted2 hu) rfl mso PyProof.Rows.boot_sorted (pa_cons (pe_call GP (hr.mono (by omega)) rfl mP kP bP .nil pass0 (pa_cons (pv 0) pa_nil)) pa_nil))) (pg_name (i := 2) scLForm.nd rfl (Or.inl rfl))
      (pss_one (ps_if (PW.pt (pw_and (pt_cmpR op_gt (pe_callB call_len_seq rfl ml PySem.boot_len (pa_cons (pv 1) pa_nil)) pe_int (nomark _)) (pw_and1 (pt_cmpR (op_eqD hu) (pe_ix ix_tup (pe_ix ix_list (pv 1) (pe_un un_neg pe_int) (fun _ _ => rfl)) pe_int (fun _ _ => rfl)) (pv 2) (nomark _)))))
        (pss_one (ps_asg (pe_tup (pa_cons (pv 2) (pa_cons (pe_op op_add (pe_ix ix_tup (pe_ix ix_list (pv 1) (pe_un un_neg pe_int) (fun _ _ => rfl)) pe_int (fun _ _ => rfl)) pe_int) pa_nil))) (pg_sub (pv 1) (pe_un un_neg pe_int) set_list)))
        (pss_one (ps_expr (pe_bm PySem.F.plainAttrs_list PySem.F.slot_list_append PySem.F.type_list_append mt_append (pv 1) (pa_cons (pe_tup (pa_cons (pv 2) (pa_cons pe_int pa_nil))) pa_nil)))))))
    (pss_one (ps_ret (pe_callTy call_tuple_of rfl mt PyProof.Rows.boot_tuple (pa_cons (pv 1) pa_nil))))), ?_⟩
  have hsz := sizeLine_eq
  have hlen := ht.len
  refine sq_asg ?_
  refine ⟨(by show 0 ≤ sizeLine; omega), fun lw hlw => ?_⟩
  have s0 := same_new hlw (.lst [])
  refine ⟨_, rfl, v, t, rfl, hv.mono (same_tups s0), ht, fun li xi H1 s1 hli hxi => ?_⟩
  obtain ⟨c1, c2, ⟨b, c3⟩, c4⟩ := can_sortI (by omega) ht.its
  refine ⟨li, xi, t.items, b, rfl, .inl (SqL.of hli), hxi, by rw [hxi.length]; exact c1, c2, c3, c4, fun ls zs es hls hzs hso => ?_⟩
  have hlsw : ls ≠ lw := fun e => by rw [e, s1 _ _ upd_same] at hls; cases hls
  have s2 := same_new hls (.lst zs)
  have hzl : zs.length = es.length := hzs.length
  have hel : es.length = t.items.length := hso.1.length_eq
  refine ⟨ls, rfl, ⟨zs, SqL.of upd_same⟩, for_list (fun i σ H' => (∃ o2, σ = [some v, some (.ref lw), o2]) ∧ Same H H' ∧ H' ls = some (.lst zs) ∧ DVs H' zs es ∧ ∃ xs, H' lw = some (.lst xs) ∧ DVs H' xs ((gath (one (es.take i))).map toD) ∧ (gath (one (es.take i))).length ≤ i)
    ⟨⟨_, rfl⟩, (s0.trans s1).trans s2, upd_same, hzs.mono (same_tups s2), [], s2 _ _ (s1 _ _ upd_same), DVs.nil, Nat.le_refl _⟩ (fun i σ H' _ hP => SqL.of hP.2.2.1) (fun i y σ H' hy hP => ?_) (fun σ H' hP => ?_)⟩
  · obtain ⟨⟨o2, rfl⟩, sH, hls', hzs', xs, hxs, hxd, hgl⟩ := hP
    obtain ⟨d, hd, hx⟩ := hzs'.get hy
    have gt := one_take hd
    have gl2 := step_len (gath (one (es.take i))) (d, 1)
    rw [← gt] at gl2
    have hi : i < es.length := (List.getElem?_eq_some_iff.mp hd).1
    have okp : okIt3 d := ht.its d (hso.1.mem_iff.mp (List.mem_of_getElem? hd))
    obtain ⟨dsi, hdi, hdd⟩ := okIt3_tup okp
    have hxl : xs.length = (gath (one (es.take i))).length := by rw [hxd.length, List.length_map]
    refine ⟨_, rfl, lw, xs, rfl, .inl (SqL.of hxs), _, _, rfl, rfl, _, rfl, ?_⟩
    have fin : ∀ (H2 : Hp) (ys : List V), Same H' H2 → DVs H2 ys ((gath (one (es.take (i + 1)))).map toD) → (∃ o2, [some v, some (V.ref lw), some y] = [some v, some (V.ref lw), o2]) ∧ Same H (upd H2 lw (.lst ys)) ∧ upd H2 lw (.lst ys) ls = some (.lst zs) ∧ DVs (upd H2 lw (.lst ys)) zs es ∧ ∃ xs, upd H2 lw (.lst ys) lw = some (.lst xs) ∧ DVs (upd H2 lw (.lst ys)) xs ((gath (one (es.take (i + 1)))).map toD) ∧ (gath (one (es.take (i + 1)))).length ≤ i + 1 := fun H2 ys s2 hys => by
      have t2 : Tups H2 (upd H2 lw (.lst ys)) := tups_upd (s2 _ _ hxs)
      refine ⟨⟨_, rfl⟩, same_upd (sH.trans s2) hlw, ?_, (hzs'.mono (same_tups s2)).mono t2, ys, upd_same, hys.mono t2, by omega⟩
      rw [upd_ne hlsw]
      exact s2 _ _ hls'
    by_cases e : gath (one (es.take i)) = []
    · have ex : xs = [] := List.eq_nil_of_length_eq_zero (by rw [hxl, e]; rfl)
      subst ex
      refine iteF (iteF ?_)
      refine ⟨_, rfl, .inl ⟨rfl, _, SqL.of hxs⟩, _, rfl, (by show 2 ≤ sizeLine; omega), fun np hnp => ?_⟩
      have sn := same_new hnp (.tup [y, .int 1])
      refine ⟨lw, _, _, rfl, rfl, sn _ _ hxs, (by show 0 < sizeLine; omega), ?_⟩
      refine fin _ [.ref np] sn ?_
      rw [gt, e, step_nil]
      exact DVs.cons (pair_mk upd_same (hx.mono (same_tups sn))) DVs.nil
    · obtain ⟨pre, lst, hpre⟩ := last_of e
      have hxd2 := hxd
      rw [hpre, List.map_append] at hxd2
      obtain ⟨pv', lv, rfl, hpv, hlv⟩ := DVs.snoc_inv hxd2
      obtain ⟨la, lx, rfl, hla, hlx⟩ := pair_inv hlv
      obtain ⟨r0, hr0, er0⟩ : ∃ r ∈ es, lst.1 = r := by
        have huw : upw (one (es.take i)) := by unfold upw one; rw [List.pairwise_map]; exact hso.2.sublist (List.take_sublist _ _)
        obtain ⟨r, hr, er⟩ := (gath_all _ huw).2.1 lst (by rw [hpre]; simp)
        obtain ⟨d2, hd2, rfl⟩ := List.mem_map.mp hr
        exact ⟨d2, List.mem_of_mem_take hd2, er⟩
      have okl : okIt3 lst.1 := by rw [er0]; exact ht.its r0 (hso.1.mem_iff.mp hr0)
      obtain ⟨dsl, hdl, hddl⟩ := okIt3_tup okl
      rw [hdl] at hlx
      have hx2 := hx
      rw [hdi] at hx2
      refine ite_t (decide_eq_true (by show (0 : Int) < ((pv' ++ [V.ref la]).length : Int); simp)) ?_
      refine ⟨_, rfl, 1, rfl, lw, _, _, _, rfl, rfl, SqL.of hxs, Mx.atI_last _ _, la, _, 0, _, rfl, rfl, SqT.of hla, at0, _, rfl, dsl, dsi, hlx, hx2, hddl, _, rfl, ?_⟩
      by_cases c : lst.1 = d
      · have cd : dsl = dsi := by rw [hdl, hdi] at c; injection c
        refine ite_t (decide_eq_true cd) ?_
        refine ⟨_, rfl, _, rfl, 1, rfl, lw, _, _, _, rfl, rfl, SqL.of hxs, Mx.atI_last _ _, la, _, 1, _, rfl, rfl, SqT.of hla, at1, _, _, rfl, rfl, (by show 2 ≤ sizeLine; omega), fun np hnp => ?_⟩
        have sn := same_new hnp (.tup [y, .int (lst.2 + 1)])
        refine ⟨_, rfl, 1, rfl, lw, _, _, _, rfl, rfl, sn _ _ hxs, ixN_last _ _, ?_⟩
        rw [set_last]
        refine fin _ (pv' ++ [.ref np]) sn ?_
        rw [gt, hpre, step_eq c, List.map_append]
        exact DVs.append (hpv.mono (same_tups sn)) (DVs.cons (pair_mk upd_same (hx.mono (same_tups sn))) DVs.nil)
      · have cd : dsl ≠ dsi := fun z => c (by rw [hdl, hdi, z])
        refine ite_f (decide_eq_false cd) ?_
        refine ⟨_, rfl, .inl ⟨rfl, _, SqL.of hxs⟩, _, rfl, (by show 2 ≤ sizeLine; omega), fun np hnp => ?_⟩
        have sn := same_new hnp (.tup [y, .int 1])
        refine ⟨lw, _, _, rfl, rfl, sn _ _ hxs, by omega, ?_⟩
        refine fin _ (pv' ++ [V.ref la] ++ [.ref np]) sn ?_
        rw [gt, hpre, step_ne c, List.map_append]
        rw [hpre] at hxd
        exact DVs.append (hxd.mono (same_tups sn)) (DVs.cons (pair_mk upd_same (hx.mono (same_tups sn))) DVs.nil)
  · obtain ⟨⟨o2, rfl⟩, sH, hls', hzs', xs, hxs, hxd, hgl⟩ := hP
    rw [hzl, List.take_length] at hxd hgl
    refine ⟨_, rfl, lw, xs, rfl, .inl ⟨SqL.of hxs, fun np hnp => ?_⟩⟩
    have sn := same_new hnp (.tup xs)
    refine q _ _ (sH.trans sn) ?_
    have e : gath (one es) = fr t.items := (Frm.of_sorted hso).eq
    rw [e] at hxd
    exact DV.tup upd_same (hxd.mono (same_tups sn))
end
end K04
end
section
set_option Elab.async false
set_option linter.all false
set_option maxRecDepth 100000
set_option maxHeartbeats 4000000
namespace K04
open PySem PySem.W PySem.Spec PyProof.Rows L2 Mx K02
mutual
theorem ok_succ : ∀ (n : Nat) (t : Tm), t.ok n → t.ok (n + 1)
  | n, .any x, h => by unfold Tm.ok at h ⊢; exact h
  | 0, .of x ps, h => by
    unfold Tm.ok at h ⊢
    rw [h.2]
    exact ⟨h.1, by simp, by unfold Tm.oks; trivial, fun p hp => absurd hp (by simp)⟩
  | n + 1, .of x ps, h => by
    unfold Tm.ok at h ⊢
    exact ⟨h.1, h.2.1, oks_succ n ps h.2.2.1, h.2.2.2⟩
  | 0, .mix ps, h => by
    unfold Tm.ok at h ⊢
    exact ⟨h.1, oks_succ 0 ps h.2⟩
  | n + 1, .mix ps, h => by
    unfold Tm.ok at h ⊢
    exact ⟨h.1, oks_succ (n + 1) ps h.2⟩
theorem oks_succ : ∀ (n : Nat) (ps : List Tm), Tm.oks n ps → Tm.oks (n + 1) ps
  | n, [], _ => by unfold Tm.oks; trivial
  | n, p :: ps, h => by
    unfold Tm.oks at h ⊢
    exact ⟨ok_succ n p h.1, oks_succ n ps h.2⟩
end
mutual
/-- mixes of at most four parts, things' parts of at most sixteen items -/
def Tm.nar : Tm → Prop
  | .any _ => True
  | .of _ ps => Tm.nars ps ∧ ∀ p ∈ ps, p.items.length ≤ 16
  | .mix ps => ps.length ≤ 4 ∧ Tm.nars ps
def Tm.nars : List Tm → Prop
  | [] => True
  | p :: ps => p.nar ∧ Tm.nars ps
end
theorem nars_iff : ∀ ps : List Tm, Tm.nars ps ↔ ∀ p ∈ ps, p.nar
  | [] => by unfold Tm.nars; simp
  | p :: ps => by unfold Tm.nars; rw [nars_iff ps]; simp
structure Gen (n : Nat) (t : Tm) : Prop where
  ok : t.ok n
  len : t.items.length ≤ 4 ^ n
  dp : t.dp ≤ n + 1
  nar : t.nar
theorem gen_any {n : Nat} {x : Str} (h : nmOk x) : Gen n (.any x) := by
  refine ⟨by unfold Tm.ok; exact h, ?_, by unfold Tm.dp; omega, by unfold Tm.nar; trivial⟩
  unfold Tm.items
  exact Nat.one_le_pow _ _ (by decide)
theorem gen_of0 {n : Nat} {x : Str} (h : nmOk x) : Gen n (.of x []) := by
  refine ⟨?_, ?_, by unfold Tm.dp Tm.dps; omega, by unfold Tm.nar; exact ⟨(nars_iff []).mpr (fun p hp => absurd hp (by simp)), fun p hp => absurd hp (by simp)⟩⟩
  · cases n with
    | zero => unfold Tm.ok; exact ⟨h, rfl⟩
    | succ n => unfold Tm.ok; exact ⟨h, by simp, by unfold Tm.oks; trivial, fun p hp => absurd hp (by simp)⟩
  · unfold Tm.items
    exact Nat.one_le_pow _ _ (by decide)
theorem dps_le {n : Nat} : ∀ {ps : List Tm}, (∀ p ∈ ps, p.dp ≤ n) → Tm.dps ps ≤ n
  | [], _ => by unfold Tm.dps; omega
  | p :: ps, h => by
    unfold Tm.dps
    have h1 := h p List.mem_cons_self
    have h2 := dps_le fun q hq => h q (List.mem_cons_of_mem _ hq)
    omega
theorem itemss_len {b : Nat} : ∀ {ps : List Tm}, (∀ p ∈ ps, p.items.length ≤ b) → (Tm.itemss ps).length ≤ ps.length * b
  | [], _ => by unfold Tm.itemss; simp
  | p :: ps, h => by
    unfold Tm.itemss
    rw [List.length_append, List.length_cons, Nat.succ_mul]
    have h1 := h p List.mem_cons_self
    have h2 := itemss_len (ps := ps) fun q hq => h q (List.mem_cons_of_mem _ hq)
    omega
theorem gen_of {n : Nat} (hn : n ≤ 2) {x : Str} (h : nmOk x) {ps : List Tm} (hl : ps.length ≤ 3) (hp : ∀ p ∈ ps, Gen n p) : Gen (n + 1) (.of x ps) := by
  have h16 : ∀ p ∈ ps, p.items.length ≤ 16 := fun p hq => Nat.le_trans (hp p hq).len (Nat.pow_le_pow_right (by decide) hn)
  refine ⟨?_, ?_, ?_, by unfold Tm.nar; exact ⟨(nars_iff ps).mpr fun p hq => (hp p hq).nar, h16⟩⟩
  · unfold Tm.ok
    refine ⟨h, hl, (oks_iff n ps).mpr fun p hq => (hp p hq).ok, fun p hq => Nat.le_trans (h16 p hq) (by omega)⟩
  · unfold Tm.items
    exact Nat.one_le_pow _ _ (by decide)
  · unfold Tm.dp
    have := dps_le (n := n + 1) fun p hq => (hp p hq).dp
    omega
theorem gen_mix {n : Nat} {ps : List Tm} (hl : ps.length ≤ 4) (hp : ∀ p ∈ ps, Gen n p) : Gen (n + 1) (.mix ps) := by
  refine ⟨?_, ?_, ?_, by unfold Tm.nar; exact ⟨hl, (nars_iff ps).mpr fun p hq => (hp p hq).nar⟩⟩
  · unfold Tm.ok
    exact ⟨by omega, (oks_iff (n + 1) ps).mpr fun p hq => ok_succ n p (hp p hq).ok⟩
  · unfold Tm.items
    have := itemss_len fun p hq => (hp p hq).len
    rw [Nat.pow_succ]
    refine Nat.le_trans this ?_
    rw [Nat.mul_comm]
    exact Nat.mul_le_mul_left _ hl
  · unfold Tm.dp
    have := dps_le (n := n + 1) fun p hq => (hp p hq).dp
    omega
def okN (N : List Str) : Prop := N.length = 3 ∧ ∀ x ∈ N, nmOk x
theorem at_nm {N : List Str} (h : okN N) {i : Int} (h0 : 0 ≤ i) (h3 : i < 3) : ∃ x, atI (N.map V.str) i = some (.str x) ∧ nmOk x := by
  have hl := h.1
  have hk : i.toNat < N.length := by omega
  have ek : i = ((i.toNat : Nat) : Int) := by omega
  refine ⟨N[i.toNat], ?_, h.2 _ (List.getElem_mem hk)⟩
  have q : atI (N.map V.str) ((i.toNat : Nat) : Int) = some (.str N[i.toNat]) := atI_nat (by simp [hk])
  rw [← ek] at q
  exact q
end K04
end
section
set_option Elab.async false
set_option linter.all false
set_option maxRecDepth 100000
set_option maxHeartbeats 4000000
/-! list(reversed(a list)) -/
namespace Mx
open PySem PySem.W PySem.Spec PyProof.Rows L2
theorem nolen_lri : typeLookup (.type "list_reverseiterator") "__len__" = pure none := by rw [typeLookup_type, builtinLookup_eq_fast]; kernel_rfl
theorem hint_lri : typeLookup (.type "list_reverseiterator") "__length_hint__" = pure (some (.builtin "list_reverseiterator.__length_hint__")) := by rw [typeLookup_type, builtinLookup_eq_fast]; kernel_rfl
section
variable {prog : Program} {w : World} {A : Around} {E : Value → Shared → Prop} {s : Shared}
theorem extend_rev {R : Result → Shared → Prop} {I l : Addr} {items : Array Value} (hh : A.handled = none) (hlI : l ≠ I) (hit : s.heap.IsRevIter I l ((items.size : Int) - 1)) (hl : s.heap.IsList l items) (hz : items.size ≤ sizeLine)
    (S : Addr) (res : Value) (c₀ : Nat) (hSI : S ≠ I) (hSl : S ≠ l) (hS : s.heap.get? S = some { cls := .type "list", data := .seq #[] c₀ })
    (hR : ∀ h' tk acc' c', (∀ b o, b ≠ S → b ≠ I → s.heap.get? b = some o → h'.get? b = some o) → h'.get? S = some { cls := .type "list", dict := none, data := .seq acc' c', slots := #[] } →
      ItemsOf (fun i v => items[items.size - 1 - i]? = some v) acc' items.size → R (.ok (.ret res)) { s with heap := h', toks := tk }) :
    wpAny (model prog w) A.in1 (Builtin.List.listExtendWith (.ref S) (.ref I) res)
      (fun fin s' => match fin with | .done f => R (.ok f) s' | .again c' => c'.quiet = true ∧ codeAny (model prog w) A c' R s') (fun e s' => R (.error e) s') s := by
  have W := (Walks.listRev (prog := prog) (w := w) (A := A.in1) hh I l hlI items).toS
  have hSf : S ∉ [I, l] := by simp [hSI, hSl]
  have hT : s.TypeIs (.ref I) "list_reverseiterator" := hit.typeIs
  have h1 : Builtin.List.listSameRef (.ref S) (.ref I) = false := by simp [Builtin.List.listSameRef, hSI]
  unfold Builtin.List.listExtendWith
  refine wpAny_bind (wpAny_typeOf hT ?_)
  rw [if_neg (by rw [h1]; decide)]
  refine wpAny_bind (wpAny_pyIter_revIter hit ?_)
  refine wpAny_bind (wpAny_holding ?_)
  unfold Builtin.List.listLengthHint
  refine wpAny_bind (wpAny_specialOf hT nolen_lri ?_)
  show wpAny _ A.in1 (specialOf (Value.ref I) (Str.ofString "__length_hint__") >>= _) _ _ _
  refine wpAny_bind (wpAny_specialOf hT hint_lri ?_)
  (generalize hid : ("list_reverseiterator.__length_hint__" : String) = id0; (fail_if_success (clear hid id0)); wp_delta; rw [show splitId id0 = some ("list_reverseiterator", "__length_hint__") from by subst hid; decide +kernel]; subst hid)
  refine wpAny_bind (wpAny_isInstance (b := true) hT (by rw [isSubtype_type]; kernel_rfl) ?_)
  refine wpAny_pure ?_
  rw [if_neg (by decide)]
  refine wpAny_pure ⟨plainId_quiet F.plain_extend_loop _, codeAny_extend_loopS W hz S hSf res items.size 0 _ #[] c₀ rfl (Nat.zero_le _) ⟨Nat.zero_le _, ?_, hl⟩ hS (ItemsOf.nil _) fun s' acc' c' hm hS' hacc => ?_⟩
  · rw [show (items.size : Int) - 1 - ((0 : Nat) : Int) = (items.size : Int) - 1 by omega]
    exact hit
  · rw [Moved.eq_with hm]
    refine hR s'.heap s'.toks acc' c' (fun b o hb hb2 e => hm.heap b o (fun hmem => ?_) e) hS' hacc
    rcases List.mem_cons.mp hmem with e' | hmem
    · exact hb e'
    · exact hb2 (List.mem_singleton.mp hmem)
theorem init_rev {R : Result → Shared → Prop} {I l : Addr} {items : Array Value} (hh : A.handled = none) (hlI : l ≠ I) (hit : s.heap.IsRevIter I l ((items.size : Int) - 1)) (hl : s.heap.IsList l items) (hz : items.size ≤ sizeLine)
    (S : Addr) (hSI : S ≠ I) (hSl : S ≠ l) (hS : s.heap.get? S = some { cls := .type "list", data := .seq #[] })
    (hR : ∀ h' tk acc' c', (∀ b o, b ≠ S → b ≠ I → s.heap.get? b = some o → h'.get? b = some o) → h'.get? S = some { cls := .type "list", dict := none, data := .seq acc' c', slots := #[] } →
      ItemsOf (fun i v => items[items.size - 1 - i]? = some v) acc' items.size → R (.ok (.ret .none)) { s with heap := h', toks := tk }) :
    wpAny (model prog w) A.in1 (Builtin.«list.__init__» ⟨[.ref S, .ref I], []⟩)
      (fun fin s' => match fin with | .done f => R (.ok f) s' | .again c' => c'.quiet = true ∧ codeAny (model prog w) A c' R s') (fun e s' => R (.error e) s') s := by
  show wpAny _ _ (do let old ← Builtin.List.listItems (.ref S); Builtin.List.listUpdate (.ref S) (fun _ => #[]); letGo old.toList.reverse; Builtin.List.listExtendWith (.ref S) (.ref I) .none) _ _ s
  refine wpAny_bind ?_
  unfold Builtin.List.listItems
  refine wpAny_bind (wpAny_seqItems hS rfl (wpAny_pure ?_))
  show wpAny _ _ (updateSeq S (fun _ => #[]) >>= fun _ => letGo (#[] : Array Value).toList.reverse >>= fun _ => Builtin.List.listExtendWith (.ref S) (.ref I) .none) _ _ s
  refine wpAny_bind (wpAny_updateSeq hS rfl ?_)
  have hS₂ := Heap.get?_update_self (Obj.mapSeq (fun _ => (#[] : Array Value))) hS rfl
  have oth : ∀ b o, b ≠ S → s.heap.get? b = some o → (s.heap.update S (Obj.mapSeq (fun _ => (#[] : Array Value)))).get? b = some o :=
    fun b o hb e => (Heap.get?_update_other _ _ (Ne.symm hb)).trans e
  refine wpAny_bind (wpAny_letGo ?_)
  refine extend_rev hh hlI (hit.at fun o e => oth I o (Ne.symm hSI) e) (hl.at fun o e => oth l o (Ne.symm hSl) e) hz S .none _ hSI hSl hS₂ fun h' tk acc' c' hk hS' hacc => ?_
  exact hR h' tk acc' c' (fun b o hb hb2 e => hk b o hb hb2 (oth b o hb e)) hS' hacc
theorem call_list_rev {Q : Value → Shared → Prop} {I l : Addr} {items : Array Value} (hh : A.handled = none) (hlI : l ≠ I) (hit : s.heap.IsRevIter I l ((items.size : Int) - 1)) (hl : s.heap.IsList l items) (hz : items.size ≤ sizeLine)
    (hQ : ∀ h' tk acc' c', (∀ b o, b ≠ I → s.heap.get? b = some o → h'.get? b = some o) →
      h'.get? s.heap.objs.size = some { cls := .type "list", dict := none, data := .seq acc' c', slots := #[] } → ItemsOf (fun i v => items[items.size - 1 - i]? = some v) acc' items.size → Q (.ref s.heap.objs.size) { s with heap := h', toks := tk }) :
    wpAny (model prog w) A (call (.type "list") [.ref I]) Q E s := by
  refine callType_codes (Q₁ := fun obj s₁ => obj = .ref s.heap.objs.size ∧ s₁ = { s with heap := s.heap.push { cls := .type "list", data := .seq #[] } }) F.called_list (F.typeCall_list_1 _) F.entry_list_init
    (code_list_new _ ⟨rfl, rfl⟩) fun obj s₁ h₁ => ?_
  obtain ⟨rfl, rfl⟩ := h₁
  have hS : (s.heap.push { cls := .type "list", data := .seq #[] }).get? s.heap.objs.size = some { cls := .type "list", data := .seq #[] } := Heap.get?_push_size _ rfl
  have hI : s.heap.objs.size ≠ I := by obtain ⟨o, ho, _⟩ := hit; exact fun e => Nat.lt_irrefl _ (e ▸ Heap.lt_size ho)
  have hl' : s.heap.objs.size ≠ l := by obtain ⟨o, ho, _⟩ := hl; exact fun e => Nat.lt_irrefl _ (e ▸ Heap.lt_size ho)
  refine ⟨⟨_, hS, rfl⟩, F.args_list_init_2 _ _, init_rev (A := A.in1) hh hlI (hit.at fun o e => Heap.get?_push_of_some _ e) (hl.at fun o e => Heap.get?_push_of_some _ e) hz _ hI hl' hS fun h' tk acc' c' hk hS' hacc => ?_⟩
  exact ⟨rfl, hQ h' tk acc' c' (fun b o hb e => hk b o (Nat.ne_of_lt (Heap.lt_size e)) hb (Heap.get?_push_of_some _ e)) hS' hacc⟩
theorem items_rev {items acc : Array Value} (h : ItemsOf (fun i v => items[items.size - 1 - i]? = some v) acc items.size) : acc = items.toList.reverse.toArray := by
  refine Array.ext (by simp [h.1]) fun i h1 h2 => ?_
  have hi : i < items.size := by rw [← h.1]; exact h1
  have q : items[items.size - 1 - i]? = some acc[i] := h.2 i _ (Array.getElem?_eq_getElem h1)
  have q' : items[items.size - 1 - i]'(by omega) = acc[i] := by
    rw [Array.getElem?_eq_getElem (by omega)] at q
    exact Option.some.inj q
  rw [← q']
  simp
end
def tRev (te : TE) : TE := fun σ H Q => te σ H fun v H1 => ∃ l xs, v = .ref l ∧ H1 l = some (.lst xs) ∧ ∀ n, H1 n = none → Q (.ref n) (upd H1 n (.lst xs.reverse))
theorem pe_listRev {X : Cx} {e : Expr} {te : TE} {p p2 pos pos2 : Pos} (hc : X.calm = true) (hg : Gl X "list") (hm : X.mg "list" = none) (hg2 : Gl X "reversed") (hm2 : X.mg "reversed" = none) (he : PE X e te)
    (hs : starEach [e] X.env = [(false, eval e X.env)] := by rfl) (hs2 : starEach [.Call (.Name "reversed" p2) [e] [] pos2] X.env = [(false, eval (.Call (.Name "reversed" p2) [e] [] pos2) X.env)] := by rfl) :
    PE X (.Call (.Name "list" p) [.Call (.Name "reversed" p2) [e] [] pos2] [] pos) (tRev te) := by
  intro pins s σ H Q I h
  refine wpAny_Call_Name_kw (ld_blt I hg hm PyProof.Rows.boot_list ?_ (by decide) (by decide))
  refine PyProof.Rows.callWith_type1 ?_ (by rw [hs2]; rfl) (by rfl)
  rw [hs2]
  show wpAny _ _ (spliced ((false, eval (.Call (.Name "reversed" p2) [e] [] pos2) X.env) :: backTo pos [])) _ _ s
  refine Calls.spliced_cons ?_
  refine wpAny_Call_Name_kw (ld_blt I hg2 hm2 PyProof.Rows.boot_reversed ?_ (by decide) (by decide))
  refine PyProof.Rows.callWith_type1 ?_ (by rw [hs]; rfl) (by rfl)
  rw [hs]
  show wpAny _ _ (spliced ((false, eval e X.env) :: backTo pos2 [])) _ _ s
  refine Calls.spliced_cons (thn (he pins s σ H _ I h) fun u s1 ⟨v, H1, I1, r1, l, xs, e1, hl, q⟩ => ?_)
  subst e1
  cases r1
  refine Calls.spliced_nil ?_
  obtain ⟨its, r', pl, hz⟩ := I1.list (.inl (.inl hl))
  have hlen := r'.length
  refine call_reversed_list pl.isList ?_
  refine Calls.spliced_nil ?_
  have hlt : l < s1.heap.objs.size := by obtain ⟨o, ho, _⟩ := pl.isList; exact Heap.lt_size ho
  have I2 : Inv X pins σ H1 { s1 with heap := s1.heap.push (revObj l (((its.toArray).size : Int) - 1)), toks := s1.toks } := I1.kept fun b o e => Heap.get?_push_of_some _ e
  refine call_list_rev (I := s1.heap.objs.size) (l := l) (items := its.toArray) (I1.ok.hd hc) (Nat.ne_of_lt hlt) ⟨_, Heap.get?_push_size _ rfl, rfl, rfl⟩ (pl.isList.at fun o e => Heap.get?_push_of_some _ e) (by simp only [List.size_toArray]; omega) fun h' tk acc' c' hk hS' hacc => ?_
  have ea := items_rev hacc
  subst ea
  have fk : ∀ b o, s1.heap.get? b = some o → h'.get? b = some o := fun b o e => hk b o (Nat.ne_of_lt (Heap.lt_size e)) (Heap.get?_push_of_some _ e)
  refine ⟨.ref _, _, I1.laid (t' := tk) (a := (s1.heap.push (revObj l (((its.toArray).size : Int) - 1))).objs.size) (o := .lst xs.reverse) fk ?_ ⟨?_, _, c', r'.reverse, hS'⟩, rfl, q _ (I1.hok.fresh ?_)⟩
  · simp [Heap.push]
  · rw [List.length_reverse]; exact hz
  · simp [Heap.push]
end Mx
end
section
set_option Elab.async false
set_option linter.all false
set_option maxRecDepth 100000
set_option maxHeartbeats 4000000
/-! what turning keeps -/
namespace K04
open PySem PySem.W PySem.Spec PyProof.Rows L2 Mx K02
structure Tur0 (t u : Tm) : Prop where
  eq : TEq t u
  ok : ∀ n, t.ok n → u.ok n
  dp : u.dp ≤ 4 * t.dp
structure Tur (t u : Tm) : Prop where
  eq : TEq t u
  ok : ∀ n, t.ok n → u.ok n
  dp : u.dp ≤ 4 * t.dp + 2
inductive Turs : List Tm → List Tm → Prop where
  | nil : Turs [] []
  | cons {t u : Tm} {ts us : List Tm} (h : Tur t u) (hs : Turs ts us) : Turs (t :: ts) (u :: us)
theorem Turs.snoc {ts us : List Tm} {t u : Tm} (h : Turs ts us) (hu : Tur t u) : Turs (ts ++ [t]) (us ++ [u]) := by
  induction h with
  | nil => exact .cons hu .nil
  | cons h _ ih => exact .cons h ih
theorem Turs.teqs {ts us : List Tm} (h : Turs ts us) : TEqs ts us := by
  induction h with
  | nil => exact .nil
  | cons h _ ih => exact .cons h.eq ih
theorem Turs.mem {ts us : List Tm} (h : Turs ts us) : ∀ u ∈ us, ∃ t ∈ ts, Tur t u := by
  induction h with
  | nil => intro u hu; exact absurd hu (by simp)
  | cons h _ ih =>
    intro u hu
    rcases List.mem_cons.mp hu with rfl | hu
    · exact ⟨_, List.mem_cons_self, h⟩
    · obtain ⟨t, ht, z⟩ := ih u hu
      exact ⟨t, List.mem_cons_of_mem _ ht, z⟩
theorem ok_mix (n : Nat) (ps : List Tm) : (Tm.mix ps).ok n ↔ ps.length ≤ 5 ∧ ∀ p ∈ ps, p.ok n := by
  rw [← oks_iff]
  cases n with
  | zero => rw [Tm.ok]
  | succ n => rw [Tm.ok]
theorem Turs.dps {ts us : List Tm} (h : Turs ts us) : ∀ u ∈ us, u.dp ≤ 4 * Tm.dps ts + 2 := fun u hu => by
  obtain ⟨t, ht, z⟩ := h.mem u hu
  have := dp_mem ht
  have := z.dp
  omega
theorem tur_of {x : Str} {ps us : List Tm} (h : Turs ps us) : Tur0 (.of x ps) (.of x us) := by
  have hl := h.teqs.length
  refine ⟨teq_of h.teqs, fun n hn => ?_, ?_⟩
  · cases n with
    | zero =>
      unfold Tm.ok at hn ⊢
      refine ⟨hn.1, ?_⟩
      rw [hn.2] at hl
      exact List.length_eq_zero_iff.mp hl.symm
    | succ n =>
      unfold Tm.ok at hn ⊢
      refine ⟨hn.1, by omega, (oks_iff n us).mpr fun u hu => ?_, fun u hu => ?_⟩
      · obtain ⟨t, ht, z⟩ := h.mem u hu
        exact z.ok n ((oks_iff n ps).mp hn.2.2.1 t ht)
      · obtain ⟨t, ht, z⟩ := h.mem u hu
        rw [← z.eq.length_eq]
        exact hn.2.2.2 t ht
  · unfold Tm.dp
    have := dps_le h.dps
    omega
theorem tur_mix {ps us vs : List Tm} (h : Turs ps us) (hv : vs.Perm us) : Tur0 (.mix ps) (.mix vs) := by
  have hl := h.teqs.length
  refine ⟨(teq_mix h.teqs).trans (teq_perm hv.symm), fun n hn => ?_, ?_⟩
  · rw [ok_mix] at hn ⊢
    refine ⟨by rw [hv.length_eq]; omega, fun v hv' => ?_⟩
    obtain ⟨t, ht, z⟩ := h.mem v (hv.mem_iff.mp hv')
    exact z.ok n (hn.2 t ht)
  · unfold Tm.dp
    have := dps_le (ps := vs) fun v hv' => h.dps v (hv.mem_iff.mp hv')
    omega
theorem tur_group {ps us a b : List Tm} (h : Turs ps us) (hv : (a ++ b).Perm us) (h4 : ps.length ≤ 4) : Tur0 (.mix ps) (.mix (a ++ [.mix b])) := by
  have hl := h.teqs.length
  have hv' := hv.length_eq
  rw [List.length_append] at hv'
  refine ⟨((teq_mix h.teqs).trans (teq_perm hv.symm)).trans (teq_group a b), fun n hn => ?_, ?_⟩
  · rw [ok_mix] at hn
    have go : ∀ v ∈ a ++ b, v.ok n := fun v hm => by
      obtain ⟨t, ht, z⟩ := h.mem v (hv.mem_iff.mp hm)
      exact z.ok n (hn.2 t ht)
    rw [ok_mix]
    refine ⟨by rw [List.length_append, List.length_singleton]; omega, fun v hm => ?_⟩
    rcases List.mem_append.mp hm with hm | hm
    · exact go v (List.mem_append_left _ hm)
    · rw [List.mem_singleton.mp hm, ok_mix]
      exact ⟨by omega, fun v hm => go v (List.mem_append_right _ hm)⟩
  · have go : ∀ v ∈ a ++ b, v.dp ≤ 4 * Tm.dps ps + 2 := fun v hm => h.dps v (hv.mem_iff.mp hm)
    have hb := dps_le (ps := b) fun v hm => go v (List.mem_append_right _ hm)
    have ha := dps_le (n := 4 * Tm.dps ps + 3) (ps := a ++ [.mix b]) fun v hm => by
      rcases List.mem_append.mp hm with hm | hm
      · have := go v (List.mem_append_left _ hm)
        omega
      · rw [List.mem_singleton.mp hm]
        unfold Tm.dp
        omega
    unfold Tm.dp
    omega
theorem Tur0.tur {t u : Tm} (h : Tur0 t u) : Tur t u := ⟨h.eq, h.ok, by have := h.dp; omega⟩
theorem Tur0.wrap1 {t u : Tm} (h : Tur0 t u) : Tur t (.mix [.mix [], u]) := by
  refine ⟨h.eq.trans (teq_wrap1 u), fun n hn => ?_, ?_⟩
  · rw [ok_mix]
    refine ⟨by simp, fun p hp => ?_⟩
    rcases List.mem_cons.mp hp with rfl | hp
    · rw [ok_mix]; exact ⟨by simp, fun q hq => absurd hq (by simp)⟩
    · rw [List.mem_singleton.mp hp]; exact h.ok n hn
  · have hd := h.dp
    simp only [Tm.dp, Tm.dps]
    omega
theorem Tur0.wrap2 {t u : Tm} (h : Tur0 t u) : Tur t (.mix [.mix [u]]) := by
  refine ⟨h.eq.trans (teq_wrap2 u), fun n hn => ?_, ?_⟩
  · rw [ok_mix]
    refine ⟨by simp, fun p hp => ?_⟩
    rw [List.mem_singleton.mp hp, ok_mix]
    refine ⟨by simp, fun p hp => ?_⟩
    rw [List.mem_singleton.mp hp]; exact h.ok n hn
  · have hd := h.dp
    simp only [Tm.dp, Tm.dps]
    omega
theorem cut_lo (xs : List V) (k : Nat) : cutV xs none (some (k : Int)) = xs.take k := by
  unfold cutV
  rw [HT.sIx_none, HT.sIx_nat, Nat.sub_zero, List.drop_zero]
  rcases Nat.le_total k xs.length with h | h
  · rw [Nat.min_eq_left h]
  · rw [Nat.min_eq_right h, List.take_of_length_le (Nat.le_refl _), List.take_of_length_le h]
theorem cut_hi (xs : List V) (k : Nat) (h : k ≤ xs.length) : cutV xs (some (k : Int)) none = xs.drop k := by
  unfold cutV
  rw [HT.sIx_none, HT.sIx_nat, Nat.min_eq_left h, List.take_of_length_le (by rw [List.length_drop]; omega)]
theorem DVs_rev {H : Hp} : ∀ {xs : List V} {ds : List D}, DVs H xs ds → DVs H xs.reverse ds.reverse
  | [], ds, h => by
    cases ds with
    | nil => exact h
    | cons d ds => obtain ⟨_, _, e, _⟩ := h.cons_inv; cases e
  | x :: xs, ds, h => by
    cases ds with
    | nil => cases h.nil_inv
    | cons d ds =>
      obtain ⟨x', r, e, h1, h2⟩ := h.cons_inv
      cases e
      rw [List.reverse_cons, List.reverse_cons]
      exact DVs.append (DVs_rev h2) (DVs.cons h1 DVs.nil)
end K04
end
section
set_option Elab.async false
set_option linter.all false
set_option maxRecDepth 100000
set_option maxHeartbeats 4000000
/-! all is kept but one list of ints, from which is drawn -/
namespace Mx
open PySem PySem.W PySem.Spec PyProof.Rows L2
def Drw (l : Addr) (H : Hp) : Prop := ∃ zs : List Int, H l = some (.lst (zs.map V.int))
structure Kp (l : Addr) (H H' : Hp) : Prop where
  keep : ∀ a o, a ≠ l → H a = some o → H' a = some o
  drw : Drw l H'
section
variable {l : Addr} {H H1 H2 : Hp}
theorem Kp.refl (h : Drw l H) : Kp l H H := ⟨fun _ _ _ e => e, h⟩
theorem Kp.trans (h : Kp l H H1) (g : Kp l H1 H2) : Kp l H H2 := ⟨fun a o n e => g.keep a o n (h.keep a o n e), g.drw⟩
theorem Drw.same (h : Drw l H) (s : Same H H1) : Drw l H1 := by obtain ⟨zs, e⟩ := h; exact ⟨zs, s _ _ e⟩
theorem Drw.kp (h : Drw l H) (s : Same H H1) : Kp l H H1 := ⟨fun a o _ e => s a o e, h.same s⟩
theorem Kp.same (h : Kp l H H1) (s : Same H1 H2) : Kp l H H2 := h.trans (h.drw.kp s)
theorem Kp.tups (h : Drw l H) (k : Kp l H H1) : Tups H H1 := fun a xs e => by
  refine k.keep a _ (fun z => ?_) e
  obtain ⟨zs, e'⟩ := h
  rw [z, e'] at e
  cases e
theorem Kp.tup (h : Drw l H) (k : Kp l H H1) {a : Addr} {xs : List V} (e : H a = some (.tup xs)) : H1 a = some (.tup xs) := k.tups h a xs e
theorem Drw.ne (h : Drw l H) {a : Addr} (e : H a = none) : a ≠ l := fun z => by
  obtain ⟨zs, e'⟩ := h
  rw [z, e'] at e
  cases e
theorem Kp.set (h : Kp l H H1) {zs : List Int} : Kp l H (upd H1 l (.lst (zs.map V.int))) := ⟨fun a o n e => by rw [upd_ne n]; exact h.keep a o n e, zs, upd_same⟩
theorem Kp.upd {D : Addr} {o : HO} (hl : Drw l H) (h : Kp l H H1) (hD : H D = none) : Kp l H (upd H1 D o) := by
  have n := hl.ne hD
  refine ⟨fun a u z e => ?_, ?_⟩
  · rw [upd_ne (ne_of_none e hD)]; exact h.keep a u z e
  · obtain ⟨zs, e⟩ := h.drw
    exact ⟨zs, by rw [upd_ne (Ne.symm n)]; exact e⟩
end
section
variable {K : PySem.W.Frag} {g : TG} {tt : TT} {te : TE} {σ0 : L2.St} {D : Addr} {F : Hp → Prop} {H1 : Hp} {l : Addr}
theorem comp_invK {J : It} {n : Nat} (hl : Drw l H1) (hD : H1 D = none) (I : Nat → List Mx.D → Prop) (h0 : I 0 []) (hn : n < sizeLine) (go : ∀ i H, i < n → Kp l H1 H → J.go i H) (stop : ∀ H, Kp l H1 H → J.stop n H)
    (hs : ∀ i x H H' ds, i < n → Kp l H1 H → J.yld i H x H' → I i ds → Kp l H H' ∧ ∀ (N : V → Hp → Prop) (M : Hp → Prop), (∀ v H4 e, Kp l H' H4 → DV H4 v e → I (i + 1) (ds ++ [e]) → N v H4) → (∀ H3, Kp l H' H3 → I (i + 1) ds → M H3) →
      g x σ0 H' fun σ2 H2 => tt σ2 H2 fun b H3 => if b = true then te σ2 H3 N else M H3)
    (hd : ∀ H acc ds, Kp l H1 H → H D = some (.lst acc) → DVs H acc ds → I n ds → F H) : CompW J g tt te σ0 D F H1 := by
  have hDl := hl.ne hD
  refine ⟨fun i m acc H => m = n - i ∧ i ≤ n ∧ Kp l H1 H ∧ H D = some (.lst acc) ∧ (∃ ds, DVs H acc ds ∧ I i ds) ∧ acc.length ≤ i, ⟨n, by simp, Nat.zero_le _, hl.kp (same_new hD _), upd_same, ⟨[], DVs.nil, h0⟩, Nat.le_refl _⟩, ?_⟩
  rintro i m acc H ⟨rfl, hi, hS, hDa, ⟨ds, hdv, hI⟩, hla⟩
  by_cases hlt : i < n
  · refine .inr ⟨go i H hlt hS, fun x H' y => ?_⟩
    obtain ⟨s1, st⟩ := hs i x H H' ds hlt hS y hI
    refine st _ _ (fun v H4 e s4 he e4 => ?_) (fun H3 s3 e3 => ?_)
    · have s14 := s1.trans s4
      have hD4 := s14.keep _ _ hDl hDa
      refine ⟨acc, hD4, by omega, n - (i + 1), by omega, rfl, hlt, (hS.trans s14).upd hl hD, upd_same, ⟨ds ++ [e], ?_, e4⟩, by simp; omega⟩
      exact (DVs.append (hdv.mono (s14.tups hS.drw)) (DVs.cons he DVs.nil)).mono (tups_upd hD4)
    · have s13 := s1.trans s3
      exact ⟨n - (i + 1), by omega, rfl, hlt, hS.trans s13, s13.keep _ _ hDl hDa, ⟨ds, hdv.mono (s13.tups hS.drw), e3⟩, by omega⟩
  · have e : i = n := by omega
    subst e
    exact .inl ⟨stop H hS, hd H acc ds hS hDa hdv hI⟩
theorem comp_tupK {a : Addr} {xs : List V} (hl : Drw l H1) (ha : H1 a = some (.tup xs)) (hD : H1 D = none) (I : Nat → List Mx.D → Prop) (h0 : I 0 []) (hn : xs.length < sizeLine)
    (hs : ∀ i x H ds, xs[i]? = some x → Kp l H1 H → I i ds → ∀ (N : V → Hp → Prop) (M : Hp → Prop), (∀ v H4 e, Kp l H H4 → DV H4 v e → I (i + 1) (ds ++ [e]) → N v H4) → (∀ H3, Kp l H H3 → I (i + 1) ds → M H3) →
      g x σ0 H fun σ2 H2 => tt σ2 H2 fun b H3 => if b = true then te σ2 H3 N else M H3)
    (hd : ∀ H acc ds, Kp l H1 H → H D = some (.lst acc) → DVs H acc ds → I xs.length ds → F H) : CompW (Itt K a) g tt te σ0 D F H1 :=
  comp_invK hl hD I h0 hn (fun i H hi s => ⟨xs, xs[i], SqT.of (s.tup hl ha), by simp [hi]⟩) (fun H s => ⟨xs, SqT.of (s.tup hl ha), Nat.le_refl _⟩)
    (fun i x H H' ds hi s y hI => by
      obtain ⟨rfl, y⟩ := y
      exact ⟨Kp.refl s.drw, hs i x _ ds (y xs (SqT.of (s.tup hl ha))) s hI⟩) hd
theorem comp_rangeK {lo : Int} {n : Nat} (hl : Drw l H1) (hD : H1 D = none) (I : Nat → List Mx.D → Prop) (h0 : I 0 []) (hn : n < sizeLine)
    (hs : ∀ (i : Nat) H ds, i < n → Kp l H1 H → I i ds → ∀ (N : V → Hp → Prop) (M : Hp → Prop), (∀ v H4 e, Kp l H H4 → DV H4 v e → I (i + 1) (ds ++ [e]) → N v H4) → (∀ H3, Kp l H H3 → I (i + 1) ds → M H3) →
      g (.int (lo + i)) σ0 H fun σ2 H2 => tt σ2 H2 fun b H3 => if b = true then te σ2 H3 N else M H3)
    (hd : ∀ H acc ds, Kp l H1 H → H D = some (.lst acc) → DVs H acc ds → I n ds → F H) : CompW (Itr lo n) g tt te σ0 D F H1 :=
  comp_invK hl hD I h0 hn (fun i H hi s => hi) (fun H s => Nat.le_refl _)
    (fun i x H H' ds hi s y hI => by
      obtain ⟨rfl, rfl⟩ := y
      exact ⟨Kp.refl s.drw, hs i _ ds hi s hI⟩) hd
end
end Mx
end
section
set_option Elab.async false
set_option linter.all false
set_option maxRecDepth 100000
set_option maxHeartbeats 4000000
/-! tuple(reversed(a list)) -/
namespace Mx
open PySem PySem.W PySem.Spec PyProof.Rows L2
section
variable {prog : Program} {w : World} {A : Around} {E : Value → Shared → Prop} {s : Shared}
theorem collect_rev {Q : List Value → Shared → Prop} {I l : Addr} {items : Array Value} (hh : A.handled = none) (hlI : l ≠ I) (hit : s.heap.IsRevIter I l ((items.size : Int) - 1)) (hl : s.heap.IsList l items) (hz : items.size ≤ sizeLine)
    (hQ : ∀ s' acc, Moved [I] (fun a b => b = a) s s' → ItemsOf (fun i v => items[items.size - 1 - i]? = some v) acc items.size → Q acc.toList s') : wpAny (model prog w) A (collect (.ref I)) Q E s := by
  have W := (Walks.listRev (prog := prog) (w := w) (A := A.in1) hh I l hlI items).toS
  have hIlt : I < s.heap.objs.size := by obtain ⟨o, ho, _⟩ := hit; exact Heap.lt_size ho
  have hllt : l < s.heap.objs.size := by obtain ⟨o, ho, _⟩ := hl; exact Heap.lt_size ho
  have hSf : s.heap.objs.size ∉ [I, l] := by
    simp only [List.mem_cons, List.not_mem_nil, or_false, not_or]
    exact ⟨Nat.ne_of_gt hIlt, Nat.ne_of_gt hllt⟩
  have hSI : s.heap.objs.size ≠ I := Nat.ne_of_gt hIlt
  unfold collect
  refine wpAny_bind (wpAny_runValue (codeAny_builtin F.entry_proto_collect ?_))
  rw [Around.under_plainId F.plain_proto_collect _]
  show wpAny _ A.in1 (newList [] >>= fun l => again (.builtin "list.__iadd__" ⟨[l, .ref I], []⟩)) _ _ s
  refine wpAny_bind (wpAny_newObj_type ?_)
  refine wpAny_pure ⟨plainId_quiet F.plain_list_iadd _, codeAny_builtin F.entry_list_iadd ?_⟩
  rw [Around.under_plainId F.plain_list_iadd _]
  have hS₁ : (s.heap.push { cls := .type "list", data := .seq ([] : List Value).toArray }).get? s.heap.objs.size = some { cls := .type "list", data := .seq ([] : List Value).toArray } := Heap.get?_push_size _ rfl
  have hit₁ : (s.heap.push { cls := .type "list", data := .seq ([] : List Value).toArray }).IsRevIter I l ((items.size : Int) - 1) := hit.at fun o e => Heap.get?_push_of_some _ e
  have hl₁ : (s.heap.push { cls := .type "list", data := .seq ([] : List Value).toArray }).IsList l items := hl.at fun o e => Heap.get?_push_of_some _ e
  have h1 : Builtin.List.listSameRef (.ref s.heap.objs.size) (.ref I) = false := by simp [Builtin.List.listSameRef, hSI]
  show wpAny _ A.in1 (Builtin.List.listExtendWith (.ref s.heap.objs.size) (.ref I) (.ref s.heap.objs.size)) _ _ _
  have hT : Shared.TypeIs { s with heap := s.heap.push { cls := .type "list", data := .seq ([] : List Value).toArray } } (.ref I) "list_reverseiterator" := hit₁.typeIs
  unfold Builtin.List.listExtendWith
  refine wpAny_bind (wpAny_typeOf hT ?_)
  rw [if_neg (by rw [h1]; decide)]
  refine wpAny_bind (wpAny_pyIter_revIter hit₁ ?_)
  refine wpAny_bind (wpAny_holding ?_)
  unfold Builtin.List.listLengthHint
  refine wpAny_bind (wpAny_specialOf hT nolen_lri ?_)
  show wpAny _ A.in1 (specialOf (Value.ref I) (Str.ofString "__length_hint__") >>= _) _ _ _
  refine wpAny_bind (wpAny_specialOf hT hint_lri ?_)
  (generalize hid : ("list_reverseiterator.__length_hint__" : String) = id0; (fail_if_success (clear hid id0)); wp_delta; rw [show splitId id0 = some ("list_reverseiterator", "__length_hint__") from by subst hid; decide +kernel]; subst hid)
  refine wpAny_bind (wpAny_isInstance (b := true) hT (by rw [isSubtype_type]; kernel_rfl) ?_)
  refine wpAny_pure ?_
  rw [if_neg (by decide)]
  refine wpAny_pure ⟨plainId_quiet F.plain_extend_loop _, codeAny_extend_loopS W hz _ hSf _ items.size 0 _ _ _ rfl (Nat.zero_le _) ⟨Nat.zero_le _, ?_, hl₁⟩ hS₁ (ItemsOf.nil _) fun s' acc' c' hm hS' hacc => ?_⟩
  · rw [show (items.size : Int) - 1 - ((0 : Nat) : Int) = (items.size : Int) - 1 by omega]
    exact hit₁
  · show wpAny _ A (load s.heap.objs.size >>= _) _ _ s'
    refine wpAny_bind (wpAny_load hS' ?_)
    exact wpAny_pure (hQ s' acc' (Moved.drop_new (o := { cls := .type "list", data := .seq ([] : List Value).toArray }) (tk := s.toks) hm (Nat.le_refl _)) hacc)
theorem code_tuple_new_rev {Q₁ : Value → Shared → Prop} {I l : Addr} {items : Array Value} (hh : A.handled = none) (hlI : l ≠ I) (hit : s.heap.IsRevIter I l ((items.size : Int) - 1)) (hl : s.heap.IsList l items) (hz : items.size ≤ sizeLine)
    (h : ∀ s' acc, Moved [I] (fun a b => b = a) s s' → ItemsOf (fun i v => items[items.size - 1 - i]? = some v) acc items.size → Q₁ (.ref s'.heap.objs.size) { s' with heap := s'.heap.push { cls := .type "tuple", data := .seq acc } }) :
    codeAny (model prog w) A (.call (.builtin "tuple.__new__") ⟨[.type "tuple", .ref I], []⟩) (wants Q₁ E) s := by
  refine codeAny_of_tree ?_
  show wpAny _ A.in1 (do checkBuiltinCall "tuple.__new__" ⟨[.type "tuple", .ref I], []⟩; again (.builtin "tuple.__new__" ⟨[.type "tuple", .ref I], []⟩)) _ _ s
  refine wpAny_bind (wpAny_of_eq (F.newCall_tuple_1 _) (wpAny_pure ⟨plainId_quiet F.plain_tuple_new _, codeAny_builtin F.entry_tuple_new ?_⟩))
  rw [Around.under_plainId F.plain_tuple_new _]
  have hsub := sub_tuple_self
  have hinit := init_tuple_lookup
  have hmh := madeHere_tuple
  have hTI : s.TypeIs (.ref I) "list_reverseiterator" := hit.typeIs
  have hh1 : A.in1.handled = none := hh
  wp_walk using wpAny_typeOf hTI, collect_rev hh1 hlI hit hl hz
  intro s' acc hm hacc
  show wpAny _ _ (Builtin.Tuple.tupleExact acc.toList.toArray >>= fun v => ret v) _ _ _
  unfold Builtin.Tuple.tupleExact
  refine wpAny_bind (wpAny_newObj_type ?_ (by show acc.toList.toArray.size ≤ sizeLine; simp only [Array.toArray_toList]; rw [hacc.1]; exact hz))
  refine wpAny_pure ?_
  have e : acc.toList.toArray = acc := by simp
  rw [e]
  exact h s' acc hm hacc
theorem call_tuple_rev {Q : Value → Shared → Prop} {I l : Addr} {items : Array Value} (hh : A.handled = none) (hlI : l ≠ I) (hit : s.heap.IsRevIter I l ((items.size : Int) - 1)) (hl : s.heap.IsList l items) (hz : items.size ≤ sizeLine)
    (hQ : ∀ s' acc, Moved [I] (fun a b => b = a) s s' → ItemsOf (fun i v => items[items.size - 1 - i]? = some v) acc items.size → Q (.ref s'.heap.objs.size) { s' with heap := s'.heap.push { cls := .type "tuple", data := .seq acc } }) :
    wpAny (model prog w) A (call (.type "tuple") [.ref I]) Q E s := by
  refine callType_codes (Q₁ := fun obj s₁ => s₁.TypeIs obj "tuple" ∧ Q obj s₁) F.called_tuple (F.typeCall_tuple_1 _) F.entry_object_init
    (code_tuple_new_rev (A := A.in1) hh hlI hit hl hz fun s' acc hm hacc => ⟨⟨_, Heap.get?_push_size _ rfl, rfl⟩, hQ s' acc hm hacc⟩) fun obj s₁ h₁ => ?_
  exact ⟨h₁.1, F.args_object_init_2 obj _, object_init_meets F.called_tuple.init.lookup F.called_tuple.made (by decide) prog w A.in1 _ s₁ ⟨h₁.1, rfl, h₁.2⟩⟩
end
def tRevT (te : TE) : TE := fun σ H Q => te σ H fun v H1 => ∃ l xs, v = .ref l ∧ H1 l = some (.lst xs) ∧ ∀ n, H1 n = none → Q (.ref n) (upd H1 n (.tup xs.reverse))
theorem pe_tupRev {X : Cx} {e : Expr} {te : TE} {p p2 pos pos2 : Pos} (hc : X.calm = true) (hg : Gl X "tuple") (hm : X.mg "tuple" = none) (hg2 : Gl X "reversed") (hm2 : X.mg "reversed" = none) (he : PE X e te)
    (hs : starEach [e] X.env = [(false, eval e X.env)] := by rfl) (hs2 : starEach [.Call (.Name "reversed" p2) [e] [] pos2] X.env = [(false, eval (.Call (.Name "reversed" p2) [e] [] pos2) X.env)] := by rfl) :
    PE X (.Call (.Name "tuple" p) [.Call (.Name "reversed" p2) [e] [] pos2] [] pos) (tRevT te) := by
  intro pins s σ H Q I h
  refine wpAny_Call_Name_kw (ld_blt I hg hm PyProof.Rows.boot_tuple ?_ (by decide) (by decide))
  refine PyProof.Rows.callWith_type1 ?_ (by rw [hs2]; rfl) (by rfl)
  rw [hs2]
  show wpAny _ _ (spliced ((false, eval (.Call (.Name "reversed" p2) [e] [] pos2) X.env) :: backTo pos [])) _ _ s
  refine Calls.spliced_cons ?_
  refine wpAny_Call_Name_kw (ld_blt I hg2 hm2 PyProof.Rows.boot_reversed ?_ (by decide) (by decide))
  refine PyProof.Rows.callWith_type1 ?_ (by rw [hs]; rfl) (by rfl)
  rw [hs]
  show wpAny _ _ (spliced ((false, eval e X.env) :: backTo pos2 [])) _ _ s
  refine Calls.spliced_cons (thn (he pins s σ H _ I h) fun u s1 ⟨v, H1, I1, r1, l, xs, e1, hl, q⟩ => ?_)
  subst e1
  cases r1
  refine Calls.spliced_nil ?_
  obtain ⟨its, r', pl, hz⟩ := I1.list (.inl (.inl hl))
  have hlen := r'.length
  refine call_reversed_list pl.isList ?_
  refine Calls.spliced_nil ?_
  have hlt : l < s1.heap.objs.size := by obtain ⟨o, ho, _⟩ := pl.isList; exact Heap.lt_size ho
  refine call_tuple_rev (I := s1.heap.objs.size) (l := l) (items := its.toArray) (I1.ok.hd hc) (Nat.ne_of_lt hlt) ⟨_, Heap.get?_push_size _ rfl, rfl, rfl⟩ (pl.isList.at fun o e => Heap.get?_push_of_some _ e) (by simp only [List.size_toArray]; omega) fun s' acc' hm hacc => ?_
  have ea := items_rev hacc
  subst ea
  rw [Moved.eq_with hm]
  have fk : ∀ b o, s1.heap.get? b = some o → s'.heap.get? b = some o := fun b o e => hm.heap b o (by simp only [List.mem_singleton]; exact Nat.ne_of_lt (Heap.lt_size e)) (Heap.get?_push_of_some _ e)
  have I2 : Inv X pins σ H1 { s1 with heap := s'.heap, toks := s'.toks } := I1.kept fk
  have I3 : Inv X pins σ (upd H1 s'.heap.objs.size (.tup xs.reverse)) { s1 with heap := s'.heap.push { cls := .type "tuple", data := .seq its.reverse.toArray }, toks := s'.toks } :=
    I2.laid (t' := s'.toks) (fun b o e => Heap.get?_push_of_some _ e) (Nat.le_refl _) (show ObjOk X.prog X.w _ _ _ (.tup xs.reverse) from ⟨by rw [List.length_reverse]; exact hz, its.reverse, r'.reverse, IsTup.new _ _⟩)
  exact ⟨.ref s'.heap.objs.size, _, I3, rfl, q _ (I2.hok.fresh (Nat.le_refl _))⟩
end Mx
end
section
set_option Elab.async false
set_option linter.all false
set_option maxRecDepth 100000
set_option maxHeartbeats 4000000
namespace K04
open PySem PySem.W PySem.Spec PyProof.Rows L2 Mx K02
theorem op_fdivL {X : Cx} : OpR X (binaryOp .FloorDiv) (rI (fun _ j => 0 < j ∧ j.natAbs.log2 < 9000) fun i j => .int (i / j)) := opI fun i j _ _ _ _ _ hc q => by
  have h1 : (0 : Int) < j := hc.1
  exact floordiv_int (by omega) (by rw [Int.fdiv_eq_ediv_of_nonneg i (by omega)]; exact q) (.inl (PyProof.noPylong_of_log2 hc.2))
abbrev sDraws : Stmt := top 6
abbrev sTake : Stmt := top 7
abbrev nDraws : List Str := ["_law_script", "_law_cells", "_law_left", "_law_draws_here", "_law_k", "_law_at", "_law_number"]
theorem scDraws : FnScope nDraws ["_law_script"] (defScope sDraws) := ⟨rfl, rfl, rfl, by decide +kernel, rfl, by decide +kernel, by decide +kernel⟩
theorem scTake : FnScope ["_law_draws_here", "_law_many"] ["_law_draws_here", "_law_many"] (defScope sTake) := ⟨rfl, rfl, rfl, by decide +kernel, rfl, by decide +kernel, by decide +kernel⟩
theorem at_int {ns : List Int} {k : Int} (h0 : 0 ≤ k) (h : k < (ns.length : Int)) : ∃ v : Int, atI (ns.map V.int) k = some (.int v) := by
  have hk : k.toNat < ns.length := by omega
  have ek : k = ((k.toNat : Nat) : Int) := by omega
  have q : atI (ns.map V.int) ((k.toNat : Nat) : Int) = some (.int ns[k.toNat]) := atI_nat (by simp [hk])
  rw [← ek] at q
  exact ⟨_, q⟩
theorem ix_int {n : Nat} {k : Int} (h0 : 0 ≤ k) (h : k < (n : Int)) : ∃ j, ixN n k = some j := by
  unfold ixN
  first
  | exact ⟨_, by rw [if_pos ⟨h0, h⟩]⟩
  | (split <;> first | exact ⟨_, rfl⟩ | omega)
section
variable {P : Program} {w : World} {K : PySem.W.Frag} {mg : Str → Option Value} {base : Heap}
def spDraws (K : PySem.W.Frag) : Sp := fun vs H Q _ => ∃ (a : Addr) (ns : List Int), vs = [.ref a] ∧ SqL K H a (ns.map V.int) ∧ ns.length ≤ 63 ∧ ∀ l H', Same H H' → Drw l H' → Q (.ref l) H'
def spTake : Sp := fun vs H Q _ => ∃ (l : Addr) (m : Int), vs = [.ref l, .int m] ∧ Drw l H ∧ 1 ≤ m ∧ ∀ i H', 0 ≤ i → i < m → Kp l H H' → Q (.int i) H'
theorem ok_take {f : Addr} {fd : FuncData} (F : Fun K "_law_take" "_law_take" sTake f fd) (ml : mg "len" = none) : FnOk P w K mg base CX0 1 f fd ["_law_draws_here", "_law_many"] spTake := by
  refine F.ok scTake (fun vs H Q E h => ?_) (fun cdv A outer s H vs Q E hr h => ?_)
  · obtain ⟨l, m, rfl, _⟩ := h
    rfl
  obtain ⟨l, m, rfl, hl, hm, q⟩ := h
  refine ⟨_, pss_cons (ps_if (pt_cmpR op_eq (pe_callB call_len_seq rfl ml PySem.boot_len (pa_cons (pv 0) pa_nil)) pe_int (nomark _)) (pss_one (ps_ret pe_int)) pss_nil)
    (pss_one (ps_ret (pe_op op_mod (pe_bm0 PySem.F.plainAttrs_list PySem.F.slot_list_pop PySem.F.type_list_pop mt_pop (pv 0)) (pv 1)))), ?_⟩
  obtain ⟨zs, hzs⟩ := id hl
  refine sq_ifn ?_
  refine ⟨_, rfl, l, _, rfl, .inl (SqL.of hzs), rfl, _, rfl, ?_⟩
  refine ite2 (fun c => ?_) (fun c => ?_)
  · exact q 0 H (Int.le_refl _) (by omega) (Kp.refl hl)
  · have hne : zs ≠ [] := fun e => c (by rw [e]; rfl)
    obtain ⟨ys, y, rfl⟩ : ∃ ys y, zs = ys ++ [y] := ⟨zs.dropLast, zs.getLast hne, (List.dropLast_concat_getLast hne).symm⟩
    refine ⟨_, rfl, .inl ⟨rfl, _, SqL.of hzs⟩, l, _, .int y, rfl, rfl, hzs, by simp, _, rfl, _, _, rfl, rfl, (show 0 < m by omega), ?_⟩
    have e : ((ys ++ [y]).map V.int).dropLast = ys.map V.int := by simp
    rw [e]
    exact q _ _ (Int.emod_nonneg _ (by omega)) (Int.emod_lt_of_pos _ (by omega)) (Kp.refl hl).set
theorem ok_draws {f : Addr} {fd : FuncData} (F : Fun K "_law_draws" "_law_draws" sDraws f fd) (ml : mg "len" = none) (mr : mg "range" = none) (mm : mg "max" = none) (mli : mg "list" = none) : FnOk P w K mg base CX0 1 f fd ["_law_script"] (spDraws K) := by
  refine F.ok scDraws (fun vs H Q E h => ?_) (fun cdv A outer s H vs Q E hr h => ?_)
  · obtain ⟨a, ns, rfl, _⟩ := h
    rfl
  obtain ⟨a, ns, rfl, hS, h63, q⟩ := h
  refine ⟨_, pss_cons (ps_set (i := 1) scDraws.nd rfl (Or.inl rfl) (pe_callTy call_list_of rfl mli PyProof.Rows.boot_list (pa_cons (pe_slice sl_list (pv 0) po_none (po_some pe_int)) pa_nil)))
    (pss_cons (ps_set (i := 2) scDraws.nd rfl (Or.inl rfl) (pe_callTy call_list_of rfl mli PyProof.Rows.boot_list (pa_cons (pv 1) pa_nil)))
    (pss_cons (ps_set (i := 3) scDraws.nd rfl (Or.inl rfl) (pe_lst pa_nil))
    (pss_cons (ps_for PassesOwn.never rfl (pi_range1 rfl mr (pa_cons pe_int pa_nil)) (pg_name (i := 4) scDraws.nd rfl (Or.inl rfl))
      (pss_cons (ps_set (i := 5) scDraws.nd rfl (Or.inl rfl) (pe_op op_mod (pv 4) (pe_callB (call_max2 rfl) rfl mm PyProof.Rows.boot_max (pa_cons pe_int (pa_cons (pe_callB call_len_seq rfl ml PySem.boot_len (pa_cons (pv 1) pa_nil)) pa_nil)))))
      (pss_cons (ps_set (i := 6) scDraws.nd rfl (Or.inl rfl) (pe_op op_add (pe_op op_mul (pv 4) pe_int) pe_int))
      (pss_cons (ps_if (pt_cmpR op_gt (pe_callB call_len_seq rfl ml PySem.boot_len (pa_cons (pv 1) pa_nil)) pe_int (nomark _))
        (pss_cons (ps_set (i := 6) scDraws.nd rfl (Or.inl rfl) (pe_op op_mul (pe_op op_mod (pe_ix ix_list (pv 1) (pv 5) (fun _ _ => rfl)) pe_int) pe_int))
        (pss_one (ps_set (i := 6) scDraws.nd rfl (Or.inl rfl) (pe_op op_add (pe_op op_add (pv 6) (pe_op op_mul (pe_op op_mul (pv 4) (pv 4)) pe_int)) pe_int)))) pss_nil)
      (pss_cons (ps_set (i := 6) scDraws.nd rfl (Or.inl rfl) (pe_op op_add (pe_op op_mod (pe_op op_mul (pv 6) (pv 6)) pe_int) (pe_op op_mul pe_int (pv 4))))
      (pss_cons (ps_set (i := 6) scDraws.nd rfl (Or.inl rfl) (pe_op op_fdiv (pe_op op_mod (pe_op op_mul (pv 6) (pv 6)) pe_int) pe_int))
      (pss_cons (ps_if (PW.pt (pw_and (pt_cmpR op_gt (pe_callB call_len_seq rfl ml PySem.boot_len (pa_cons (pv 1) pa_nil)) pe_int (nomark _)) (pw_and (pt_cmpR op_ge (pe_ix ix_list (pv 1) (pv 5) (fun _ _ => rfl)) (pe_op op_pow pe_int pe_int) (nomark _)) (pw_and1 (pt_cmpR op_gt (pe_ix ix_list (pv 2) (pv 5) (fun _ _ => rfl)) pe_int (nomark _))))))
        (pss_cons (ps_set (i := 6) scDraws.nd rfl (Or.inl rfl) (pe_op op_mod (pe_ix ix_list (pv 2) (pv 5) (fun _ _ => rfl)) pe_int))
        (pss_one (ps_asg (pe_op op_fdivL (pe_ix ix_list (pv 2) (pv 5) (fun _ _ => rfl)) pe_int) (pg_sub (pv 2) (pv 5) set_list)))) pss_nil)
      (pss_one (ps_expr (pe_bm PySem.F.plainAttrs_list PySem.F.slot_list_append PySem.F.type_list_append mt_append (pv 3) (pa_cons (pv 6) pa_nil)))))))))))
    (pss_cons (ps_expr (pe_bm0 PySem.F.plainAttrs_list PySem.F.slot_list_reverse PySem.F.type_list_reverse mt_reverse (pv 3)))
    (pss_one (ps_ret (pv 3))))))), ?_⟩
  have hsz := sizeLine_eq
  refine sq_asg ?_
  refine ⟨_, rfl, 63, rfl, a, _, rfl, hS, fun p1 hp1 => ⟨p1, _, rfl, .inl (SqL.of upd_same), fun lc hlc => ?_⟩⟩
  obtain ⟨cs, ecs⟩ : ∃ cs : List Int, cutV (ns.map V.int) none (some 63) = cs.map V.int := ⟨ns.take 63, by rw [show (63 : Int) = ((63 : Nat) : Int) from rfl, cut_lo, List.map_take]⟩
  rw [ecs] at hlc ⊢
  have hcl : cs.length ≤ 63 := by
    have := cutV_length (ns.map V.int) none (some 63)
    rw [ecs, List.length_map, List.length_map] at this
    omega
  have s1 := (same_new hp1 (.lst (cs.map V.int))).trans (same_new hlc (.lst (cs.map V.int)))
  have hc1 : upd (upd H p1 (.lst (cs.map V.int))) lc (.lst (cs.map V.int)) lc = some (.lst (cs.map V.int)) := upd_same
  generalize upd (upd H p1 (.lst (cs.map V.int))) lc (.lst (cs.map V.int)) = H1 at s1 hc1
  refine sq_asg ?_
  refine ⟨_, rfl, lc, _, rfl, .inl (SqL.of hc1), fun ll hll => ?_⟩
  have n1 : ll ≠ lc := fun e => by rw [e, hc1] at hll; cases hll
  have s2 := same_new hll (.lst (cs.map V.int))
  refine sq_asg ?_
  refine ⟨(by show 0 ≤ sizeLine; omega), fun ld hld => ?_⟩
  have n2 : ld ≠ ll := fun e => by rw [e, upd_same] at hld; cases hld
  have n3 : ld ≠ lc := fun e => by rw [e, upd_ne (Ne.symm n1), hc1] at hld; cases hld
  have s3 := same_new hld (.lst [])
  have hH1ll : H1 ll = none := hll
  have hH1ld : H1 ld = none := by rw [upd_ne n2] at hld; exact hld
  have hHll : H ll = none := by
    cases e : H ll with
    | none => rfl
    | some o => rw [s1 _ _ e] at hH1ll; cases hH1ll
  have hHld : H ld = none := by
    cases e : H ld with
    | none => rfl
    | some o => rw [s1 _ _ e] at hH1ld; cases hH1ld
  refine ⟨1500, rfl, by decide, by decide, ?_⟩
  refine for_range (fun i σ H' => (∃ o4 o5 o6, σ = [some (.ref a), some (.ref lc), some (.ref ll), some (.ref ld), o4, o5, o6]) ∧ Same H H' ∧ H' lc = some (.lst (cs.map V.int)) ∧ ∃ ls zs : List Int, H' ll = some (.lst (ls.map V.int)) ∧ ls.length = cs.length ∧ H' ld = some (.lst (zs.map V.int)) ∧ zs.length = i)
    ⟨⟨_, _, _, rfl⟩, s1.trans (s2.trans s3), (s2.trans s3) _ _ hc1, cs, [], s3 _ _ upd_same, rfl, upd_same, rfl⟩ (fun i σ H' hi hP => ?_) (fun σ H' hP => ?_)
  · obtain ⟨⟨o4, o5, o6, rfl⟩, sH, hc', ls, zs, hls, hll', hzs, hzl⟩ := hP
    have hi' : i < 1500 := hi
    refine gn ?_
    have hmp : ∀ L : Int, 0 ≤ L → (0 : Int) < (if L > 1 then L else 1) := fun L _ => by split <;> omega
    refine sq_asg ?_
    refine ⟨_, rfl, _, rfl, lc, _, rfl, .inl (SqL.of hc'), _, _, rfl, _, _, rfl, rfl, hmp _ (by omega), ?_⟩
    rw [List.length_map]
    dsimp only
    generalize hat : ((0 : Int) + (i : Int)) % (if (cs.length : Int) > 1 then (cs.length : Int) else 1) = at'
    have a0 : 0 ≤ at' := by rw [← hat]; exact Int.emod_nonneg _ (by have := hmp (cs.length : Int) (by omega); omega)
    have a1 : 0 < cs.length → at' < (cs.length : Int) := fun hp => by
      have := Int.emod_lt_of_pos ((0 : Int) + (i : Int)) (hmp (cs.length : Int) (by omega))
      rw [hat] at this
      split at this <;> omega
    refine sq_asg ?_
    refine ⟨_, rfl, _, _, rfl, rfl, .inr ⟨by decide, by decide⟩, _, _, rfl, rfl, ?_⟩
    have kk : ((0 : Int) + (i : Int)) * ((0 : Int) + (i : Int)) ≤ 1500 * 1500 := Int.mul_le_mul (by omega) (by omega) (by omega) (by decide)
    have kk0 : 0 ≤ ((0 : Int) + (i : Int)) * ((0 : Int) + (i : Int)) := Int.mul_nonneg (by omega) (by omega)
    refine sq_if_k (fun σ' H'' => ∃ z : Int, σ' = [some (.ref a), some (.ref lc), some (.ref ll), some (.ref ld), some (.int (0 + (i : Int))), some (.int at'), some (.int z)] ∧ H' = H'' ∧ -(2 ^ 63) < z ∧ z < 2 ^ 63) (fun R hR => ?_) (fun σ' H'' hC => ?_)
    · refine ⟨_, rfl, lc, _, rfl, .inl (SqL.of hc'), _, _, rfl, rfl, _, rfl, ?_⟩
      rw [List.length_map]
      refine ite2 (fun c => ?_) (fun c => ?_)
      · have hp : 0 < cs.length := by have := of_decide_eq_true c; omega
        obtain ⟨v, hv⟩ := at_int (ns := cs) a0 (a1 hp)
        have b0 : 0 ≤ v % 2147483647 := Int.emod_nonneg _ (by decide)
        have b1 : v % 2147483647 < 2147483647 := Int.emod_lt_of_pos _ (by decide)
        refine sq_asg ?_
        refine ⟨_, rfl, _, rfl, lc, _, _, _, rfl, rfl, SqL.of hc', hv, _, _, rfl, rfl, (by show (0 : Int) < 2147483647; decide), _, _, rfl, rfl, .inr ⟨by decide, by decide⟩, ?_⟩
        refine ⟨_, rfl, _, rfl, _, rfl, _, _, rfl, rfl, .inl ⟨by omega, by omega⟩, _, _, rfl, rfl, .inr ⟨by decide, by decide⟩, _, _, rfl, rfl, _, _, rfl, rfl, ?_⟩
        exact hR _ _ ⟨_, rfl, rfl, by omega, by omega⟩
      · exact hR _ _ ⟨_, rfl, rfl, by omega, by omega⟩
    obtain ⟨z, rfl, rfl, z0, z1⟩ := hC
    refine sq_asg ?_
    refine ⟨_, rfl, _, rfl, _, _, rfl, rfl, .inl ⟨by omega, by omega⟩, _, _, rfl, rfl, (by show (0 : Int) < 2147483629; decide), _, rfl, _, _, rfl, rfl, .inl ⟨by decide, by decide⟩, _, _, rfl, rfl, ?_⟩
    have c0 : 0 ≤ z * z % 2147483629 := Int.emod_nonneg _ (by decide)
    have c1 : z * z % 2147483629 < 2147483629 := Int.emod_lt_of_pos _ (by decide)
    refine sq_asg ?_
    refine ⟨_, rfl, _, rfl, _, _, rfl, rfl, .inl ⟨by omega, by omega⟩, _, _, rfl, rfl, (by show (0 : Int) < 2147483587; decide), _, _, rfl, rfl, ⟨by decide, by decide⟩, ?_⟩
    refine sq_if_k (fun σ' H'' => ∃ z : Int, σ' = [some (.ref a), some (.ref lc), some (.ref ll), some (.ref ld), some (.int (0 + (i : Int))), some (.int at'), some (.int z)] ∧ Same H H'' ∧ H'' lc = some (.lst (cs.map V.int)) ∧ H'' ld = some (.lst (zs.map V.int)) ∧ ∃ ls : List Int, H'' ll = some (.lst (ls.map V.int)) ∧ ls.length = cs.length) (fun R hR => ?_) (fun σ' H'' hC => ?_)
    · refine ⟨_, rfl, lc, _, rfl, .inl (SqL.of hc'), _, _, rfl, rfl, _, rfl, ?_⟩
      rw [List.length_map]
      refine ite2 (fun c => ?_) (fun c => iteF (hR _ _ ⟨_, rfl, sH, hc', hzs, ls, hls, hll'⟩))
      have hp : 0 < cs.length := by have := of_decide_eq_true c; omega
      obtain ⟨v, hv⟩ := at_int (ns := cs) a0 (a1 hp)
      obtain ⟨u, hu⟩ := at_int (ns := ls) (k := at') a0 (by rw [hll']; exact a1 hp)
      refine ⟨_, rfl, _, rfl, lc, _, _, _, rfl, rfl, SqL.of hc', hv, _, _, rfl, rfl, ⟨by decide, by decide, by decide⟩, _, _, rfl, rfl, _, rfl, ?_⟩
      refine ite2 (fun c => ?_) (fun c => iteF (hR _ _ ⟨_, rfl, sH, hc', hzs, ls, hls, hll'⟩))
      refine ⟨_, rfl, _, rfl, ll, _, _, _, rfl, rfl, SqL.of hls, hu, _, _, rfl, rfl, _, rfl, ?_⟩
      refine ite2 (fun c => ?_) (fun c => hR _ _ ⟨_, rfl, sH, hc', hzs, ls, hls, hll'⟩)
      refine sq_asg ?_
      refine ⟨_, rfl, _, rfl, ll, _, _, _, rfl, rfl, SqL.of hls, hu, _, _, rfl, rfl, (by show (0 : Int) < 2147483629; decide), ?_⟩
      obtain ⟨j, hj⟩ := ix_int (n := (ls.map V.int).length) a0 (by rw [List.length_map, hll']; exact a1 hp)
      refine ⟨_, rfl, _, rfl, ll, _, _, _, rfl, rfl, SqL.of hls, hu, _, _, rfl, rfl, ⟨by decide, by decide +kernel⟩, _, rfl, _, rfl, ll, _, _, j, rfl, rfl, hls, hj, ?_⟩
      rw [← List.map_set]
      refine hR _ _ ⟨_, rfl, same_upd sH hHll, ?_, ?_, _, upd_same, by rw [List.length_set]; exact hll'⟩
      · rw [upd_ne (Ne.symm n1)]; exact hc'
      · rw [upd_ne n2]; exact hzs
    obtain ⟨z, rfl, sH2, hc2, hz2, ls2, hl2, hll2⟩ := hC
    refine ⟨_, rfl, .inl ⟨rfl, _, SqL.of hz2⟩, _, rfl, ld, _, _, rfl, rfl, hz2, by rw [List.length_map]; omega, ?_⟩
    refine ⟨⟨_, _, _, rfl⟩, same_upd sH2 hHld, ?_, ls2, zs ++ [z], ?_, hll2, ?_, by simp [hzl]⟩
    · rw [upd_ne (Ne.symm n3)]; exact hc2
    · rw [upd_ne (Ne.symm n2)]; exact hl2
    · rw [upd_same, List.map_append]; rfl
  · obtain ⟨⟨o4, o5, o6, rfl⟩, sH, hc', ls, zs, hls, hll', hzs, hzl⟩ := hP
    refine ⟨_, rfl, .inl ⟨rfl, _, SqL.of hzs⟩, ld, _, rfl, rfl, hzs, ?_⟩
    refine ⟨_, rfl, q ld _ (same_upd sH hHld) ⟨zs.reverse, ?_⟩⟩
    rw [upd_same, List.map_reverse]
end
end K04
end
section
set_option Elab.async false
set_option linter.all false
set_option maxRecDepth 100000
set_option maxHeartbeats 4000000
namespace K04
open PySem PySem.W PySem.Spec PyProof.Rows L2 Mx K02
abbrev sNames : Stmt := top 8
abbrev sUnk : Stmt := top 9
abbrev sSig : Stmt := top 10
abbrev nNames : List Str := ["_law_draws_here", "_law_letters", "_law_word", "_law_j", "_law_at", "_law_first", "_law_names_here", "_law_sign"]
theorem scNames : FnScope nNames ["_law_draws_here", "_law_letters"] (defScope sNames) := ⟨rfl, rfl, rfl, by decide +kernel, rfl, by decide +kernel, by decide +kernel⟩
theorem scUnk : FnScope ["_law_draws_here"] ["_law_draws_here"] (defScope sUnk) := ⟨rfl, rfl, rfl, by decide +kernel, rfl, by decide +kernel, by decide +kernel⟩
theorem scSig : FnScope ["_law_draws_here"] ["_law_draws_here"] (defScope sSig) := ⟨rfl, rfl, rfl, by decide +kernel, rfl, by decide +kernel, by decide +kernel⟩
theorem at_str {L : Str} {i : Int} (hL : L.length = 26) (h0 : 0 ≤ i) (h : i < 26) : ∃ c, atI L.cps.toList i = some c := by
  have hl : L.cps.toList.length = 26 := by simpa [Str.length] using hL
  have ek : i = ((i.toNat : Nat) : Int) := by omega
  have q : atI L.cps.toList ((i.toNat : Nat) : Int) = some (L.cps.toList[i.toNat]'(by omega)) := atI_nat (by simp)
  rw [← ek] at q
  exact ⟨_, q⟩
theorem len1 (c : Nat) : (⟨#[c]⟩ : Str).length = 1 := rfl
section
variable {P : Program} {w : World} {K : PySem.W.Frag} {mg : Str → Option Value} {base : Heap}
def spNames : Sp := fun vs H Q _ => ∃ l L, vs = [.ref l, .str L] ∧ Drw l H ∧ L.length = 26 ∧ ∀ r N H', Kp l H H' → H' r = some (.lst (N.map V.str)) → r ≠ l → okN N → Q (.ref r) H'
def spNames2 : Sp := fun vs H Q _ => ∃ l, vs = [.ref l] ∧ Drw l H ∧ ∀ r N H', Kp l H H' → H' r = some (.lst (N.map V.str)) → r ≠ l → okN N → Q (.ref r) H'
theorem ok_names {f g : Addr} {fd gd : FuncData} (F : Fun K "_law_names" "_law_names" sNames f fd) (G : FnOk P w K mg base CX0 1 g gd ["_law_draws_here", "_law_many"] spTake) (bG : Binds K gd ["_law_draws_here", "_law_many"] []) (kG : PySem.W.keepIn K (.ref g) = true) (mG : mg "_law_take" = some (.ref g))
    (ml : mg "len" = none) (mr : mg "range" = none) : FnOk P w K mg base CX0 2 f fd ["_law_draws_here", "_law_letters"] spNames := by
  refine F.ok scNames (fun vs H Q E h => ?_) (fun cdv A outer s H vs Q E hr h => ?_)
  · obtain ⟨l, L, rfl, _⟩ := h
    rfl
  obtain ⟨l, L, rfl, hD, hL, q⟩ := h
  refine ⟨_, pss_cons (ps_set (i := 2) scNames.nd rfl (Or.inl rfl) pe_str)
    (pss_cons (ps_for PassesOwn.never rfl (pi_range1 rfl mr (pa_cons (pe_call G hr rfl mG kG bG .nil pass0 (pa_cons (pv 0) (pa_cons pe_int pa_nil))) pa_nil)) (pg_name (i := 3) scNames.nd rfl (Or.inl rfl))
      (pss_one (ps_set (i := 2) scNames.nd rfl (Or.inl rfl) (pe_op op_add_str (pv 2) (pe_ix ix_str (pv 1) (pe_call G hr rfl mG kG bG .nil pass0 (pa_cons (pv 0) (pa_cons pe_int pa_nil))) (fun _ _ => rfl))))))
    (pss_cons (ps_set (i := 4) scNames.nd rfl (Or.inl rfl) (pe_call G hr rfl mG kG bG .nil pass0 (pa_cons (pv 0) (pa_cons (pe_op op_add (pe_callB call_len_str rfl ml PySem.boot_len (pa_cons (pv 2) pa_nil)) pe_int) pa_nil))))
    (pss_cons (ps_set (i := 5) scNames.nd rfl (Or.inl rfl) (pe_call G hr rfl mG kG bG .nil pass0 (pa_cons (pv 0) (pa_cons pe_int pa_nil))))
    (pss_cons (ps_if (pt_cmpR op_eq (pe_call G hr rfl mG kG bG .nil pass0 (pa_cons (pv 0) (pa_cons pe_int pa_nil))) pe_int (nomark _))
      (pss_cons (ps_set (i := 2) scNames.nd rfl (Or.inl rfl) (pe_op op_add_str (pe_slice sl_str (pv 2) po_none (po_some pe_int)) (pe_ix ix_str (pv 1) (pv 5) (fun _ _ => rfl))))
      (pss_one (ps_ret (pe_lst (pa_cons (pv 2) (pa_cons (pe_op op_add_str (pv 2) (pe_ix ix_str (pv 1) (pv 4) (fun _ _ => rfl))) (pa_cons (pe_op op_add_str (pe_op op_add_str (pv 2) (pe_ix ix_str (pv 1) (pv 4) (fun _ _ => rfl))) (pe_ix ix_str (pv 1) (pv 5) (fun _ _ => rfl))) pa_nil))))))) pss_nil)
    (pss_cons (ps_set (i := 6) scNames.nd rfl (Or.inl rfl) (pe_lst pa_nil))
    (pss_cons (ps_for PassesOwn.never rfl (pi_range1 rfl mr (pa_cons pe_int pa_nil)) (pg_name (i := 3) scNames.nd rfl (Or.inl rfl))
      (pss_cons (ps_set (i := 7) scNames.nd rfl (Or.inl rfl) (pe_ix ix_str (pv 1) (pe_op op_mod (pe_op op_add (pv 5) (pe_op op_mul pe_int (pv 3))) pe_int) (fun _ _ => rfl)))
      (pss_one (ps_expr (pe_bm PySem.F.plainAttrs_list PySem.F.slot_list_append PySem.F.type_list_append mt_append (pv 6) (pa_cons (pe_op op_add_str (pe_op op_add_str (pe_slice sl_str (pv 2) po_none (po_some (pv 4))) (pv 7)) (pe_slice sl_str (pv 2) (po_some (pv 4)) po_none)) pa_nil))))))
    (pss_one (ps_ret (pv 6))))))))), ?_⟩
  have hsz := sizeLine_eq
  have hLs : L.length ≤ sizeLine := by rw [hL, hsz]; decide
  refine sq_asg ?_
  refine ⟨_, rfl, l, 6, rfl, hD, by decide, fun j H1 j0 j1 k1 => ⟨j, rfl, by omega, by omega, ?_⟩⟩
  refine for_range (fun i σ H' => ∃ wd o3, σ = [some (.ref l), some (.str L), some (.str wd), o3, none, none, none, none] ∧ wd.length = i ∧ Kp l H H') ⟨_, _, rfl, rfl, k1⟩ (fun i σ H' hi hP => ?_) (fun σ H2 hP => ?_)
  · obtain ⟨wd, o3, rfl, hw, kH⟩ := hP
    refine ⟨_, rfl, _, rfl, _, rfl, l, 26, rfl, kH.drw, by decide, fun i2 H3 i20 i21 k3 => ?_⟩
    obtain ⟨c, hc⟩ := at_str hL i20 i21
    refine ⟨L, i2, c, rfl, rfl, hLs, hc, wd, ⟨#[c]⟩, rfl, rfl, ?_, ⟨_, _, rfl, ?_, kH.trans k3⟩⟩
    · rw [len1]; omega
    · rw [Str.length_append, len1]; omega
  obtain ⟨wd, o3, rfl, hw, k2⟩ := hP
  have hw5 : wd.length ≤ 5 := by omega
  refine ⟨_, rfl, _, rfl, wd, rfl, by omega, _, _, rfl, rfl, l, _, rfl, k2.drw, by omega, fun at' H3 at0' at1' k3 => ?_⟩
  refine ⟨_, rfl, l, 26, rfl, k3.drw, by decide, fun fi H4 fi0 fi1 k4 => ?_⟩
  refine ⟨_, rfl, l, 3, rfl, k4.drw, by decide, fun p3 H5 p30 p31 k5 => ?_⟩
  have kH := ((k2.trans k3).trans k4).trans k5
  obtain ⟨cf, hcf⟩ := at_str hL fi0 fi1
  obtain ⟨ca, hca⟩ := at_str (i := at') hL (by omega) (by omega)
  refine ⟨rfl, _, rfl, ?_⟩
  refine ite2 (fun e => ?_) (fun e => ?_)
  · have hs3 := PySem.Txt.slice_le wd none (some 3)
    refine ⟨_, rfl, _, rfl, wd, rfl, by omega, _, rfl, _, rfl, L, fi, cf, rfl, rfl, hLs, hcf, _, _, rfl, rfl, ?_, ?_⟩
    · rw [len1]; omega
    · refine ⟨_, rfl, _, rfl, _, rfl, _, rfl, L, at', ca, rfl, rfl, hLs, hca, _, _, rfl, rfl, ?_, _, rfl, _, rfl, _, rfl, L, at', ca, rfl, rfl, hLs, hca, _, _, rfl, rfl, ?_, _, rfl, _, rfl, L, fi, cf, rfl, rfl, hLs, hcf, _, _, rfl, rfl, ?_, (by show 3 ≤ sizeLine; decide), fun r hr' => ?_⟩
      · simp only [Str.length_append, len1]; omega
      · simp only [Str.length_append, len1]; omega
      · simp only [Str.length_append, len1]; omega
      · refine q r [_, _, _] _ (kH.same (same_new hr' _)) upd_same (kH.drw.ne hr') ⟨rfl, fun x hx => ?_⟩
        simp only [List.mem_cons, List.not_mem_nil, or_false] at hx
        rcases hx with rfl | rfl | rfl <;> refine ⟨?_, ?_⟩ <;> (simp only [Str.length_append, len1]; omega)
  · refine ⟨(by show 0 ≤ sizeLine; decide), fun r hr' => ?_⟩
    have hrl := kH.drw.ne hr'
    have hs1 := PySem.Txt.slice_le wd none (some at')
    have hs2 := PySem.Txt.slice_le wd (some at') none
    refine ⟨3, rfl, by decide, by decide, for_range (fun i σ H' => (∃ o3 o7, σ = [some (.ref l), some (.str L), some (.str wd), o3, some (.int at'), some (.int fi), some (.ref r), o7]) ∧ Same H5 H' ∧ ∃ N : List Str, N.length = i ∧ H' r = some (.lst (N.map V.str)) ∧ ∀ x ∈ N, nmOk x)
      ⟨⟨_, _, rfl⟩, same_new hr' _, [], rfl, upd_same, fun x hx => absurd hx (by simp)⟩ (fun i σ H' hi hP => ?_) (fun σ H' hP => ?_)⟩
    · obtain ⟨⟨o3, o7, rfl⟩, sH, N, hxl, hxs, hok⟩ := hP
      obtain ⟨cs, hcs⟩ := at_str (L := L) (i := (fi + 7 * (0 + (i : Int))) % 26) hL (Int.emod_nonneg _ (by decide)) (Int.emod_lt_of_pos _ (by decide))
      refine ⟨_, rfl, _, rfl, _, rfl, _, _, rfl, rfl, .inl ⟨by decide, by decide⟩, _, _, rfl, rfl, _, _, rfl, rfl, (by show (0 : Int) < 26; decide), L, _, cs, rfl, rfl, hLs, hcs, ?_⟩
      refine ⟨_, rfl, .inl ⟨rfl, _, SqL.of hxs⟩, _, rfl, _, rfl, _, rfl, wd, rfl, by omega, _, rfl, _, _, rfl, rfl, ?_, _, rfl, _, rfl, _, rfl, wd, rfl, by omega, _, _, rfl, rfl, ?_, r, _, _, rfl, rfl, hxs, ?_, ⟨_, _, rfl⟩, same_upd sH hr', N ++ [PySem.Txt.slice wd none (some at') ++ ⟨#[cs]⟩ ++ PySem.Txt.slice wd (some at') none], ?_, ?_, ?_⟩
      · rw [len1]; omega
      · simp only [Str.length_append, len1]; omega
      · rw [List.length_map, hxl]; omega
      · simp [hxl]
      · rw [upd_same, List.map_append]; rfl
      · intro x hx
        rcases List.mem_append.mp hx with hx | hx
        · exact hok x hx
        · rw [List.mem_singleton.mp hx]
          refine ⟨?_, ?_⟩ <;> (simp only [Str.length_append, len1]; omega)
    · obtain ⟨⟨o3, o7, rfl⟩, sH, N, hxl, hxs, hok⟩ := hP
      exact ⟨_, rfl, q r N H' (kH.same sH) hxs hrl ⟨hxl, hok⟩⟩
theorem ok_unk {f g : Addr} {fd gd : FuncData} (F : Fun K "_law_unknowns" "_law_unknowns" sUnk f fd) (G : FnOk P w K mg base CX0 2 g gd ["_law_draws_here", "_law_letters"] spNames) (bG : Binds K gd ["_law_draws_here", "_law_letters"] []) (kG : PySem.W.keepIn K (.ref g) = true) (mG : mg "_law_names" = some (.ref g)) :
    FnOk P w K mg base CX0 3 f fd ["_law_draws_here"] spNames2 := by
  refine F.ok scUnk (fun vs H Q E h => ?_) (fun cdv A outer s H vs Q E hr h => ?_)
  · obtain ⟨l, rfl, _⟩ := h
    rfl
  obtain ⟨l, rfl, hD, q⟩ := h
  exact ⟨_, pss_one (ps_ret (pe_call G hr rfl mG kG bG .nil pass0 (pa_cons (pv 0) (pa_cons pe_str pa_nil)))), _, rfl, l, _, rfl, hD, by decide +kernel, q⟩
theorem ok_sig {f g : Addr} {fd gd : FuncData} (F : Fun K "_law_signs" "_law_signs" sSig f fd) (G : FnOk P w K mg base CX0 2 g gd ["_law_draws_here", "_law_letters"] spNames) (bG : Binds K gd ["_law_draws_here", "_law_letters"] []) (kG : PySem.W.keepIn K (.ref g) = true) (mG : mg "_law_names" = some (.ref g)) :
    FnOk P w K mg base CX0 3 f fd ["_law_draws_here"] spNames2 := by
  refine F.ok scSig (fun vs H Q E h => ?_) (fun cdv A outer s H vs Q E hr h => ?_)
  · obtain ⟨l, rfl, _⟩ := h
    rfl
  obtain ⟨l, rfl, hD, q⟩ := h
  exact ⟨_, pss_one (ps_ret (pe_call G hr rfl mG kG bG .nil pass0 (pa_cons (pv 0) (pa_cons pe_str pa_nil)))), _, rfl, l, _, rfl, hD, by decide +kernel, q⟩
end
end K04
end
section
set_option Elab.async false
set_option linter.all false
set_option maxRecDepth 100000
set_option maxHeartbeats 4000000
namespace K04
open PySem PySem.W PySem.Spec PyProof.Rows L2 Mx K02
abbrev sTerm : Stmt := top 11
abbrev pTerm : List Str := ["_law_draws_here", "_law_deep", "_law_names_here", "_law_signs_here"]
abbrev nTerm : List Str := ["_law_draws_here", "_law_deep", "_law_names_here", "_law_signs_here", "_law_way", "_law_sign", "_law_many"]
theorem scTerm : FnScope nTerm pTerm (defScope sTerm) := ⟨rfl, rfl, rfl, by decide +kernel, rfl, by decide +kernel, by decide +kernel⟩
abbrev nTC : List Str := ["_law_j", "_law_draws_here", "_law_deep", "_law_names_here", "_law_signs_here"]
theorem ndTC : nTC.Nodup := by decide +kernel
section
variable {P : Program} {w : World} {K : PySem.W.Frag} {mg : Str → Option Value} {base : Heap}
/-- names in a list that isn't the one drawn from -/
structure Nms (l r : Addr) (H : Hp) : Prop where
  ne : r ≠ l
  at' : ∃ N, H r = some (.lst (N.map V.str)) ∧ okN N
theorem Nms.kp {l r : Addr} {H H' : Hp} (h : Nms l r H) (k : Kp l H H') : Nms l r H' := by
  obtain ⟨N, e, ok⟩ := h.at'
  exact ⟨h.ne, N, k.keep _ _ h.ne e, ok⟩
theorem Nms.get {l r : Addr} {H : Hp} (h : Nms l r H) {i : Int} (h0 : 0 ≤ i) (h3 : i < 3) : ∃ (N : List Str) (x : Str), H r = some (.lst (N.map V.str)) ∧ atI (N.map V.str) i = some (.str x) ∧ nmOk x := by
  obtain ⟨N, e, ok⟩ := h.at'
  obtain ⟨x, hx, nx⟩ := at_nm ok h0 h3
  exact ⟨N, x, e, hx, nx⟩
def spTerm (n : Nat) : Sp := fun vs H Q _ => ∃ (l : Addr) (d : Nat) (r1 r2 : Addr), vs = [.ref l, .int d, .ref r1, .ref r2] ∧ Drw l H ∧ d < n ∧ d ≤ 3 ∧ Nms l r1 H ∧ Nms l r2 H ∧
  ∀ v t H', Kp l H H' → DV H' v (Tm.dat t) → Gen d t → Q v H'
theorem ok_term {n j : Nat} {f g p : Addr} {fd gd pd : FuncData} (F : Fun K "_law_term" "_law_term" sTerm f fd)
    (G : FnOk P w K mg base CX0 (j + 1) g gd pTerm (spTerm n)) (bG : Binds K gd pTerm []) (kG : PySem.W.keepIn K (.ref g) = true) (mG : mg "_law_term" = some (.ref g))
    (PK : FnOk P w K mg base CX0 1 p pd ["_law_draws_here", "_law_many"] spTake) (bP : Binds K pd ["_law_draws_here", "_law_many"] []) (kP : PySem.W.keepIn K (.ref p) = true) (mP : mg "_law_take" = some (.ref p))
    (mr : mg "range" = none) (mt : mg "tuple" = none) : FnOk P w K mg base CX0 (j + 2) f fd pTerm (spTerm (n + 1)) := by
  refine F.ok scTerm (fun vs H Q E h => ?_) (fun cdv A outer s H vs Q E hr h => ?_)
  · obtain ⟨l, d, r1, r2, rfl, _⟩ := h
    rfl
  obtain ⟨l, d, r1, r2, rfl, hD, hd, hd3, hr1, hr2, q⟩ := h
  refine ⟨_, pss_cons (ps_set (i := 4) scTerm.nd rfl (Or.inl rfl) (pe_call PK (hr.mono (by omega)) rfl mP kP bP .nil pass0 (pa_cons (pv 0) (pa_cons pe_int pa_nil))))
    (pss_cons (ps_if (PW.pt (pw_or (pt_cmpR op_eq (pv 1) pe_int (nomark _)) (pw_or1 (pt_cmpR op_lt (pv 4) pe_int (nomark _)))))
      (pss_cons (ps_if (pt_cmpR op_eq (pe_call PK (hr.mono (by omega)) rfl mP kP bP .nil pass0 (pa_cons (pv 0) (pa_cons pe_int pa_nil))) pe_int (nomark _))
          (pss_one (ps_ret (pe_tup (pa_cons pe_str (pa_cons (pe_ix ix_list (pv 2) (pe_call PK (hr.mono (by omega)) rfl mP kP bP .nil pass0 (pa_cons (pv 0) (pa_cons pe_int pa_nil))) (fun _ _ => rfl)) pa_nil))))) pss_nil)
        (pss_one (ps_ret (pe_tup (pa_cons pe_str (pa_cons (pe_ix ix_list (pv 3) (pe_call PK (hr.mono (by omega)) rfl mP kP bP .nil pass0 (pa_cons (pv 0) (pa_cons pe_int pa_nil))) (fun _ _ => rfl)) (pa_cons (pe_tup pa_nil) pa_nil)))))))
      pss_nil)
    (pss_cons (ps_if (pt_cmpR op_lt (pv 4) pe_int (nomark _))
      (pss_cons (ps_set (i := 5) scTerm.nd rfl (Or.inl rfl) (pe_ix ix_list (pv 3) (pe_call PK (hr.mono (by omega)) rfl mP kP bP .nil pass0 (pa_cons (pv 0) (pa_cons pe_int pa_nil))) (fun _ _ => rfl)))
      (pss_cons (ps_set (i := 6) scTerm.nd rfl (Or.inl rfl) (pe_op op_add pe_int (pe_call PK (hr.mono (by omega)) rfl mP kP bP .nil pass0 (pa_cons (pv 0) (pa_cons pe_int pa_nil)))))
      (pss_one (ps_ret (pe_tup (pa_cons pe_str (pa_cons (pv 5) (pa_cons (pe_callTy call_tuple_of rfl mt PyProof.Rows.boot_tuple (pa_cons (pe_comp (N' := nTC) (cap := [none, some 0, some 1, some 2, some 3]) rfl (blk_of (defScope sTerm).names nTerm rfl rfl rfl (by decide +kernel)) (pi_range1 rfl mr (pa_cons (pv 6) pa_nil)) (ge_name rfl) (fun _ _ _ _ => pg_name (i := 0) ndTC rfl (Or.inl rfl)) (fun _ _ _ _ => pts_nil)
        (fun _ _ _ _ => pe_call G (hr.mono (by omega)) rfl mG kG bG .nil pass0 (pa_cons (pv 1) (pa_cons (pe_op op_sub (pv 2) pe_int) (pa_cons (pv 3) (pa_cons (pv 4) pa_nil)))))) pa_nil)) pa_nil))))))))
      pss_nil)
    (pss_cons (ps_set (i := 6) scTerm.nd rfl (Or.inl rfl) (pe_call PK (hr.mono (by omega)) rfl mP kP bP .nil pass0 (pa_cons (pv 0) (pa_cons pe_int pa_nil))))
    (pss_one (ps_ret (pe_tup (pa_cons pe_str (pa_cons (pe_callTy call_tuple_of rfl mt PyProof.Rows.boot_tuple (pa_cons (pe_comp (N' := nTC) (cap := [none, some 0, some 1, some 2, some 3]) rfl (blk_of (defScope sTerm).names nTerm rfl rfl rfl (by decide +kernel)) (pi_range1 rfl mr (pa_cons (pv 6) pa_nil)) (ge_name rfl) (fun _ _ _ _ => pg_name (i := 0) ndTC rfl (Or.inl rfl)) (fun _ _ _ _ => pts_nil)
        (fun _ _ _ _ => pe_call G (hr.mono (by omega)) rfl mG kG bG .nil pass0 (pa_cons (pv 1) (pa_cons (pe_op op_sub (pv 2) pe_int) (pa_cons (pv 3) (pa_cons (pv 4) pa_nil)))))) pa_nil)) pa_nil)))))))), ?_⟩
  have hsz := sizeLine_eq
  refine sq_asg ?_
  refine ⟨_, rfl, l, 9, rfl, hD, by decide, fun wy H1 w0 w1 k1 => ?_⟩
  have hr11 := hr1.kp k1
  have hr21 := hr2.kp k1
  refine sq_ifn ?_
  refine ⟨_, rfl, rfl, _, rfl, ?_⟩
  refine ite2 (fun c => ?_) (fun c => ?_)
  · refine iteT ?_
    refine sq_ifn ?_
    refine ⟨_, rfl, l, 2, rfl, k1.drw, by decide, fun i H2 i0 i1 k2 => ⟨rfl, _, rfl, ?_⟩⟩
    refine ite2 (fun c => ?_) (fun c => ?_)
    · refine ⟨_, rfl, _, rfl, l, 3, rfl, k2.drw, by decide, fun i2 H3 i20 i21 k3 => ?_⟩
      obtain ⟨N, x, eN, hx, nx⟩ := ((hr11.kp k2).kp k3).get i20 i21
      refine ⟨r1, _, _, _, rfl, rfl, SqL.of eN, hx, (by show 2 ≤ sizeLine; omega), fun np hnp => q _ (.any x) _ (((k1.trans k2).trans k3).same (same_new hnp _)) ?_ (gen_any nx)⟩
      unfold Tm.dat
      exact DV.tup upd_same (DVs.cons DV.str (DVs.cons DV.str DVs.nil))
    · refine ⟨_, rfl, _, rfl, l, 3, rfl, k2.drw, by decide, fun i2 H3 i20 i21 k3 => ?_⟩
      obtain ⟨N, x, eN, hx, nx⟩ := ((hr21.kp k2).kp k3).get i20 i21
      refine ⟨r2, _, _, _, rfl, rfl, SqL.of eN, hx, (by show 0 ≤ sizeLine; omega), fun n0 hn0 => ⟨(by show 3 ≤ sizeLine; omega), fun np hnp => ?_⟩⟩
      have sn := same_new hnp (.tup [.str "of", .str x, .ref n0])
      refine q _ (.of x []) _ (((k1.trans k2).trans k3).same ((same_new hn0 _).trans sn)) ?_ (gen_of0 nx)
      unfold Tm.dat Tm.dats
      exact DV.tup upd_same (DVs.cons DV.str (DVs.cons DV.str (DVs.cons (DV.tup (sn _ _ upd_same) DVs.nil) DVs.nil)))
  · refine ⟨_, rfl, _, _, rfl, rfl, _, rfl, ?_⟩
    have hd0 : d ≠ 0 := fun e => c (decide_eq_true (by rw [e]; rfl))
    obtain ⟨d', rfl⟩ : ∃ d', d = d' + 1 := ⟨d - 1, by omega⟩
    refine ite2 (fun c2 => ?_) (fun c2 => ?_)
    · skip
      refine sq_ifn ?_
      refine ⟨_, rfl, l, 2, rfl, k1.drw, by decide, fun i H2 i0 i1 k2 => ⟨rfl, _, rfl, ?_⟩⟩
      refine ite2 (fun c => ?_) (fun c => ?_)
      · refine ⟨_, rfl, _, rfl, l, 3, rfl, k2.drw, by decide, fun i2 H3 i20 i21 k3 => ?_⟩
        obtain ⟨N, x, eN, hx, nx⟩ := ((hr11.kp k2).kp k3).get i20 i21
        refine ⟨r1, _, _, _, rfl, rfl, SqL.of eN, hx, (by show 2 ≤ sizeLine; omega), fun np hnp => q _ (.any x) _ (((k1.trans k2).trans k3).same (same_new hnp _)) ?_ (gen_any nx)⟩
        unfold Tm.dat
        exact DV.tup upd_same (DVs.cons DV.str (DVs.cons DV.str DVs.nil))
      · refine ⟨_, rfl, _, rfl, l, 3, rfl, k2.drw, by decide, fun i2 H3 i20 i21 k3 => ?_⟩
        obtain ⟨N, x, eN, hx, nx⟩ := ((hr21.kp k2).kp k3).get i20 i21
        refine ⟨r2, _, _, _, rfl, rfl, SqL.of eN, hx, (by show 0 ≤ sizeLine; omega), fun n0 hn0 => ⟨(by show 3 ≤ sizeLine; omega), fun np hnp => ?_⟩⟩
        have sn := same_new hnp (.tup [.str "of", .str x, .ref n0])
        refine q _ (.of x []) _ (((k1.trans k2).trans k3).same ((same_new hn0 _).trans sn)) ?_ (gen_of0 nx)
        unfold Tm.dat Tm.dats
        exact DV.tup upd_same (DVs.cons DV.str (DVs.cons DV.str (DVs.cons (DV.tup (sn _ _ upd_same) DVs.nil) DVs.nil)))
    refine sq_ifn ?_
    refine ⟨_, rfl, _, _, rfl, rfl, _, rfl, ?_⟩
    refine ite2 (fun c3 => ?_) (fun c3 => ?_)
    · refine sq_asg ?_
      refine ⟨_, rfl, _, rfl, l, 3, rfl, k1.drw, by decide, fun i2 H2 i20 i21 k2 => ?_⟩
      obtain ⟨N, x, eN, hx, nx⟩ := (hr21.kp k2).get i20 i21
      refine ⟨r2, _, _, _, rfl, rfl, SqL.of eN, hx, ?_⟩
      refine sq_asg ?_
      refine ⟨_, rfl, l, 3, rfl, k2.drw, by decide, fun mi H3 m0 m1 k3 => ⟨_, _, rfl, rfl, ?_⟩⟩
      refine ⟨_, rfl, _, rfl, 1 + mi, rfl, by omega, by omega, fun D hDn => ?_⟩
      refine comp_rangeK k3.drw hDn (fun i ds => ∃ ts : List Tm, ds = ts.map Tm.dat ∧ ts.length = i ∧ ∀ t ∈ ts, Gen d' t) ⟨[], rfl, rfl, fun t ht => absurd ht (by simp)⟩ (by omega) (fun i H4 ds hi k4 hI N M hN hM => ?_) (fun H4 acc ds k4 hDl hdv hI => ?_)
      · obtain ⟨ts, rfl, hts, htg⟩ := hI
        refine iteT (B := M H4) ⟨_, rfl, _, rfl, _, _, rfl, rfl, _, rfl, _, rfl, l, d', r1, r2, ?_, k4.drw, by omega, by omega, ((hr11.kp k2).kp k3).kp k4, ((hr21.kp k2).kp k3).kp k4, fun v t H5 k5 hv hg => hN v H5 (Tm.dat t) k5 hv ⟨ts ++ [t], by simp, by simp [hts], fun u hu => ?_⟩⟩
        · show [V.ref l, V.int (((d' + 1 : Nat) : Int) - 1), V.ref r1, V.ref r2] = _
          rw [show (((d' + 1 : Nat) : Int) - 1) = (d' : Int) by omega]
        · rcases List.mem_append.mp hu with hu | hu
          · exact htg u hu
          · rw [List.mem_singleton.mp hu]; exact hg
      · obtain ⟨ts, rfl, hts, htg⟩ := hI
        refine ⟨D, acc, rfl, .inl ⟨SqL.of hDl, fun np hnp => ⟨(by show 3 ≤ sizeLine; omega), fun tp htp => ?_⟩⟩⟩
        have sa := same_new hnp (.tup acc)
        have sb := same_new htp (.tup [.str "of", .str x, .ref np])
        refine q _ (.of x ts) _ ((((k1.trans k2).trans k3).trans k4).same (sa.trans sb)) ?_ (gen_of (by omega) nx (by omega) htg)
        unfold Tm.dat
        rw [dats_map]
        exact DV.tup upd_same (DVs.cons DV.str (DVs.cons DV.str (DVs.cons (DV.tup (sb _ _ upd_same) (hdv.mono (same_tups (sa.trans sb)))) DVs.nil)))
    · refine sq_asg ?_
      refine ⟨_, rfl, l, 5, rfl, k1.drw, by decide, fun mi H2 m0 m1 k2 => ?_⟩
      refine ⟨_, rfl, mi, rfl, by omega, by omega, fun D hDn => ?_⟩
      refine comp_rangeK k2.drw hDn (fun i ds => ∃ ts : List Tm, ds = ts.map Tm.dat ∧ ts.length = i ∧ ∀ t ∈ ts, Gen d' t) ⟨[], rfl, rfl, fun t ht => absurd ht (by simp)⟩ (by omega) (fun i H4 ds hi k4 hI N M hN hM => ?_) (fun H4 acc ds k4 hDl hdv hI => ?_)
      · obtain ⟨ts, rfl, hts, htg⟩ := hI
        refine iteT (B := M H4) ⟨_, rfl, _, rfl, _, _, rfl, rfl, _, rfl, _, rfl, l, d', r1, r2, ?_, k4.drw, by omega, by omega, (hr11.kp k2).kp k4, (hr21.kp k2).kp k4, fun v t H5 k5 hv hg => hN v H5 (Tm.dat t) k5 hv ⟨ts ++ [t], by simp, by simp [hts], fun u hu => ?_⟩⟩
        · show [V.ref l, V.int (((d' + 1 : Nat) : Int) - 1), V.ref r1, V.ref r2] = _
          rw [show (((d' + 1 : Nat) : Int) - 1) = (d' : Int) by omega]
        · rcases List.mem_append.mp hu with hu | hu
          · exact htg u hu
          · rw [List.mem_singleton.mp hu]; exact hg
      · obtain ⟨ts, rfl, hts, htg⟩ := hI
        refine ⟨D, acc, rfl, .inl ⟨SqL.of hDl, fun np hnp => ⟨(by show 2 ≤ sizeLine; omega), fun tp htp => ?_⟩⟩⟩
        have sa := same_new hnp (.tup acc)
        have sb := same_new htp (.tup [.str "mix", .ref np])
        refine q _ (.mix ts) _ (((k1.trans k2).trans k4).same (sa.trans sb)) ?_ (gen_mix (by omega) htg)
        unfold Tm.dat
        rw [dats_map]
        exact DV.tup upd_same (DVs.cons DV.str (DVs.cons (DV.tup (sb _ _ upd_same) (hdv.mono (same_tups (sa.trans sb)))) DVs.nil))
end
end K04
end
section
set_option Elab.async false
set_option linter.all false
set_option maxRecDepth 100000
set_option maxHeartbeats 4000000
namespace K04
open PySem PySem.W PySem.Spec PyProof.Rows L2 Mx K02
theorem ok_of_inv {n : Nat} {x : Str} {ps : List Tm} (h : (Tm.of x ps).ok n) : nmOk x ∧ ps.length ≤ 3 ∧ ∀ p ∈ ps, ∃ m, p.ok m := by
  cases n with
  | zero => unfold Tm.ok at h; rw [h.2]; exact ⟨h.1, by simp, fun p hp => absurd hp (by simp)⟩
  | succ n => unfold Tm.ok at h; exact ⟨h.1, h.2.1, fun p hp => ⟨n, (oks_iff n ps).mp h.2.2.1 p hp⟩⟩
abbrev sTurned : Stmt := top 12
abbrev nTurned : List Str := ["_law_draws_here", "_law_term_here", "_law_way", "_law_parts", "_law_at"]
abbrev pTurned : List Str := ["_law_draws_here", "_law_term_here"]
theorem scTurned : FnScope nTurned pTurned (defScope sTurned) := ⟨rfl, rfl, rfl, by decide +kernel, rfl, by decide +kernel, by decide +kernel⟩
abbrev nTuC : List Str := ["_law_part", "_law_draws_here"]
theorem ndTuC : nTuC.Nodup := by decide +kernel
section
variable {P : Program} {w : World} {K : PySem.W.Frag} {mg : Str → Option Value} {base : Heap}
def spTurned (m : Nat) : Sp := fun vs H Q _ => ∃ (l : Addr) (v : V) (t : Tm), vs = [.ref l, v] ∧ Drw l H ∧ DV H v (Tm.dat t) ∧ (∃ n, t.ok n) ∧ t.nar ∧ t.dp < m ∧
  ∀ v' t' H', Kp l H H' → DV H' v' (Tm.dat t') → Tur t t' → Q v' H'
theorem ok_turned {m j : Nat} {f g p : Addr} {fd gd pd : FuncData} (F : Fun K "_law_turned" "_law_turned" sTurned f fd)
    (G : FnOk P w K mg base CX0 (j + 1) g gd pTurned (spTurned m)) (bG : Binds K gd pTurned []) (kG : PySem.W.keepIn K (.ref g) = true) (mG : mg "_law_turned" = some (.ref g))
    (PK : FnOk P w K mg base CX0 1 p pd ["_law_draws_here", "_law_many"] spTake) (bP : Binds K pd ["_law_draws_here", "_law_many"] []) (kP : PySem.W.keepIn K (.ref p) = true) (mP : mg "_law_take" = some (.ref p))
    (mt : mg "tuple" = none) (ml : mg "len" = none) (mli : mg "list" = none) (mre : mg "reversed" = none) : FnOk P w K mg base CX0 (j + 2) f fd pTurned (spTurned (m + 1)) := by
  refine F.ok scTurned (fun vs H Q E h => ?_) (fun cdv A outer s H vs Q E hr h => ?_)
  · obtain ⟨l, v, t, rfl, _⟩ := h
    rfl
  obtain ⟨l, v, t, rfl, hL, hv, hok, hnar, hdp, q⟩ := h
  refine ⟨_, pss_cons (ps_set (i := 2) scTurned.nd rfl (Or.inl rfl) (pe_call PK (hr.mono (by omega)) rfl mP kP bP .nil pass0 (pa_cons (pv 0) (pa_cons pe_int pa_nil))))
    (pss_cons (ps_if (pt_cmpR op_eq (pe_ix ix_tup (pv 1) pe_int (fun _ _ => rfl)) pe_str (nomark _))
      (pss_one (ps_set (i := 1) scTurned.nd rfl (Or.inl rfl) (pe_tup (pa_cons pe_str (pa_cons (pe_ix ix_tup (pv 1) pe_int (fun _ _ => rfl)) (pa_cons (pe_callTy call_tuple_of rfl mt PyProof.Rows.boot_tuple (pa_cons (pe_comp (N' := nTuC) (cap := [none, some 0]) rfl (blk_of (defScope sTurned).names nTurned rfl rfl rfl (by decide +kernel)) (pi_tup (pe_ix ix_tup (pv 1) pe_int (fun _ _ => rfl))) (ge_name rfl) (fun _ _ _ _ => pg_name (i := 0) ndTuC rfl (Or.inl rfl)) (fun _ _ _ _ => pts_nil)
        (fun _ _ _ _ => pe_call G (hr.mono (by omega)) rfl mG kG bG .nil pass0 (pa_cons (pv 1) (pa_cons (pv 0) pa_nil)))) pa_nil)) pa_nil))))))
      (pss_one (ps_if (pt_cmpR op_eq (pe_ix ix_tup (pv 1) pe_int (fun _ _ => rfl)) pe_str (nomark _))
        (pss_cons (ps_setComp (i := 3) rfl scTurned.nd rfl rfl (N' := nTuC) (cap := [none, some 0]) (blk_of (defScope sTurned).names nTurned rfl rfl rfl (by decide +kernel)) (pi_tup (pe_ix ix_tup (pv 1) pe_int (fun _ _ => rfl))) (ge_name rfl) (fun _ _ _ _ => pg_name (i := 0) ndTuC rfl (Or.inl rfl)) (fun _ _ _ _ => pts_nil)
          (fun _ _ _ _ => pe_call G (hr.mono (by omega)) rfl mG kG bG .nil pass0 (pa_cons (pv 1) (pa_cons (pv 0) pa_nil))))
        (pss_cons (ps_set (i := 4) scTurned.nd rfl (Or.inl rfl) (pe_call PK (hr.mono (by omega)) rfl mP kP bP .nil pass0 (pa_cons (pv 0) (pa_cons (pe_op op_add (pe_callB call_len_seq rfl ml PySem.boot_len (pa_cons (pv 3) pa_nil)) pe_int) pa_nil))))
        (pss_cons (ps_set (i := 3) scTurned.nd rfl (Or.inl rfl) (pe_op op_cat (pe_slice sl_list (pv 3) (po_some (pv 4)) po_none) (pe_slice sl_list (pv 3) po_none (po_some (pv 4)))))
        (pss_cons (ps_if (pt_cmpR op_lt (pv 2) pe_int (nomark _)) (pss_one (ps_set (i := 3) scTurned.nd rfl (Or.inl rfl) (pe_listRev rfl rfl mli rfl mre (pv 3)))) pss_nil)
        (pss_cons (ps_if (pt_cmpR op_eq (pe_op op_mod (pv 2) pe_int) pe_int (nomark _)) (pss_one (ps_set (i := 3) scTurned.nd rfl (Or.inl rfl) (pe_op op_cat (pe_slice sl_list (pv 3) po_none (po_some (pv 4))) (pe_lst (pa_cons (pe_tup (pa_cons pe_str (pa_cons (pe_callTy call_tuple_of rfl mt PyProof.Rows.boot_tuple (pa_cons (pe_slice sl_list (pv 3) (po_some (pv 4)) po_none) pa_nil)) pa_nil))) pa_nil))))) pss_nil)
        (pss_one (ps_set (i := 1) scTurned.nd rfl (Or.inl rfl) (pe_tup (pa_cons pe_str (pa_cons (pe_callTy call_tuple_of rfl mt PyProof.Rows.boot_tuple (pa_cons (pv 3) pa_nil)) pa_nil))))))))))
        pss_nil)))
    (pss_cons (ps_if (pt_cmpR op_eq (pv 2) pe_int (nomark _)) (pss_one (ps_ret (pe_tup (pa_cons pe_str (pa_cons (pe_tup (pa_cons (pe_tup (pa_cons pe_str (pa_cons (pe_tup pa_nil) pa_nil))) (pa_cons (pv 1) pa_nil))) pa_nil))))) pss_nil)
    (pss_cons (ps_if (pt_cmpR op_eq (pv 2) pe_int (nomark _)) (pss_one (ps_ret (pe_tup (pa_cons pe_str (pa_cons (pe_tup (pa_cons (pe_tup (pa_cons pe_str (pa_cons (pe_tup (pa_cons (pv 1) pa_nil)) pa_nil))) pa_nil)) pa_nil))))) pss_nil)
    (pss_one (ps_ret (pv 1)))))), ?_⟩
  have hsz := sizeLine_eq
  refine sq_asg ?_
  refine ⟨_, rfl, l, 6, rfl, hL, by decide, fun wy H0 w0 w1 k0 => ?_⟩
  have hv0 := hv.mono (k0.tups hL)
  have hL0 := k0.drw
  refine sq_if_k (fun σ' H' => ∃ v' t' o4 o5, σ' = [some (.ref l), some v', some (.int wy), o4, o5] ∧ Kp l H0 H' ∧ DV H' v' (Tm.dat t') ∧ Tur0 t t') (fun R hR => ?_) (fun σ' H' hC => ?_)
  · cases t with
    | any x =>
      have hv' := hv0
      unfold Tm.dat at hv'
      obtain ⟨b, xs, rfl, hb, hs⟩ := hv'.tup_inv
      obtain ⟨x0, r0, rfl, h0, hs0⟩ := hs.cons_inv
      cases h0.str_inv
      refine ⟨_, rfl, b, _, 0, _, rfl, rfl, SqT.of hb, at0, rfl, _, rfl, ?_⟩
      refine ite2 (fun c => absurd (of_decide_eq_true c) (by decide)) (fun c => ?_)
      refine ⟨_, rfl, b, _, 0, _, rfl, rfl, SqT.of hb, at0, rfl, _, rfl, ?_⟩
      refine ite2 (fun c => absurd (of_decide_eq_true c) (by decide)) (fun c => ?_)
      exact hR _ _ ⟨_, .any x, _, _, rfl, Kp.refl hL0, hv0, ⟨List.Perm.refl _, fun n h => h, by unfold Tm.dp; omega⟩⟩
    | of x ps =>
      obtain ⟨n, hn⟩ := hok
      obtain ⟨_, h3, hps⟩ := ok_of_inv hn
      unfold Tm.nar at hnar
      rw [nars_iff] at hnar
      obtain ⟨hnar, _⟩ := hnar
      unfold Tm.dp at hdp
      have hv' := hv0
      unfold Tm.dat at hv'
      obtain ⟨b, xs, rfl, hb, hs⟩ := hv'.tup_inv
      obtain ⟨x0, r0, rfl, h0, hs0⟩ := hs.cons_inv
      obtain ⟨x1, r1, rfl, h1, hs1⟩ := hs0.cons_inv
      obtain ⟨x2, r2, rfl, h2, hs2⟩ := hs1.cons_inv
      cases hs2.nil_inv
      cases h0.str_inv
      obtain ⟨cc, ys, rfl, hcc, hys⟩ := h2.tup_inv
      rw [dats_map] at hys
      have hyl := hys.length
      rw [List.length_map] at hyl
      refine ⟨_, rfl, b, _, 0, _, rfl, rfl, SqT.of hb, at0, rfl, _, rfl, ?_⟩
      refine ite2 (fun c => ?_) (fun c => absurd (decide_eq_true rfl) c)
      refine ⟨_, rfl, b, _, 1, _, rfl, rfl, SqT.of hb, at1, _, rfl, b, _, 2, _, rfl, rfl, SqT.of hb, at2, cc, rfl, ⟨ys, SqT.of hcc⟩, fun D hD => ?_⟩
      refine comp_tupK hL0 hcc hD (fun i ds => ∃ ts : List Tm, ds = ts.map Tm.dat ∧ Turs (ps.take i) ts) ⟨[], rfl, .nil⟩ (by omega) (fun i y H1 ds hy s1 hI N M hN hM => ?_) (fun H1 acc ds s1 hDl hdv hI => ?_)
      · obtain ⟨ts, rfl, hts⟩ := hI
        obtain ⟨d, hd, hyd⟩ := hys.get hy
        rw [List.getElem?_map] at hd
        obtain ⟨pt, hpt, rfl⟩ := Option.map_eq_some_iff.mp hd
        have hm := List.mem_of_getElem? hpt
        have hdm := dp_mem hm
        refine iteT (B := M H1) ⟨_, rfl, _, rfl, l, y, pt, rfl, s1.drw, hyd.mono (s1.tups hL0), hps pt hm, hnar pt hm, by omega, fun v' t' H4 s4 hv4 hT => hN v' H4 (Tm.dat t') s4 hv4 ⟨ts ++ [t'], by simp, ?_⟩⟩
        rw [List.take_add_one, hpt]
        exact hts.snoc hT
      · obtain ⟨ts, rfl, hts⟩ := hI
        rw [hyl, List.take_length] at hts
        refine ⟨D, acc, rfl, .inl ⟨SqL.of hDl, fun np hnp => ⟨(by show 3 ≤ sizeLine; omega), fun tp htp => ?_⟩⟩⟩
        have sa := same_new hnp (.tup acc)
        have sb := same_new htp (.tup [.str "of", x1, .ref np])
        refine hR _ _ ⟨.ref tp, .of x ts, _, _, rfl, s1.same (sa.trans sb), ?_, tur_of hts⟩
        unfold Tm.dat
        rw [dats_map]
        exact DV.tup upd_same (DVs.cons DV.str (DVs.cons (h1.mono ((s1.same (sa.trans sb)).tups hL0)) (DVs.cons (DV.tup (sb _ _ upd_same) (hdv.mono (same_tups (sa.trans sb)))) DVs.nil)))
    | mix ps =>
      obtain ⟨n, hn⟩ := hok
      have hps := ((ok_mix n ps).mp hn).2
      unfold Tm.nar at hnar
      rw [nars_iff] at hnar
      obtain ⟨h4, hnar⟩ := hnar
      unfold Tm.dp at hdp
      have hv' := hv0
      unfold Tm.dat at hv'
      obtain ⟨b, xs, rfl, hb, hs⟩ := hv'.tup_inv
      obtain ⟨x0, r0, rfl, h0, hs0⟩ := hs.cons_inv
      obtain ⟨x1, r1, rfl, h1, hs1⟩ := hs0.cons_inv
      cases hs1.nil_inv
      cases h0.str_inv
      obtain ⟨cc, ys, rfl, hcc, hys⟩ := h1.tup_inv
      rw [dats_map] at hys
      have hyl := hys.length
      rw [List.length_map] at hyl
      refine ⟨_, rfl, b, _, 0, _, rfl, rfl, SqT.of hb, at0, rfl, _, rfl, ?_⟩
      refine ite2 (fun c => absurd (of_decide_eq_true c) (by decide)) (fun c => ?_)
      refine ⟨_, rfl, b, _, 0, _, rfl, rfl, SqT.of hb, at0, rfl, _, rfl, ?_⟩
      refine ite2 (fun c => ?_) (fun c => absurd (decide_eq_true rfl) c)
      refine sq_asg ?_
      refine ⟨_, rfl, b, _, 1, _, rfl, rfl, SqT.of hb, at1, cc, rfl, ⟨ys, SqT.of hcc⟩, fun D hD => ?_⟩
      refine comp_tupK hL0 hcc hD (fun i ds => ∃ ts : List Tm, ds = ts.map Tm.dat ∧ Turs (ps.take i) ts) ⟨[], rfl, .nil⟩ (by omega) (fun i y H1 ds hy s1 hI N M hN hM => ?_) (fun H1 acc ds s1 hDl hdv hI => ?_)
      · obtain ⟨ts, rfl, hts⟩ := hI
        obtain ⟨d, hd, hyd⟩ := hys.get hy
        rw [List.getElem?_map] at hd
        obtain ⟨pt, hpt, rfl⟩ := Option.map_eq_some_iff.mp hd
        have hm := List.mem_of_getElem? hpt
        have hdm := dp_mem hm
        refine iteT (B := M H1) ⟨_, rfl, _, rfl, l, y, pt, rfl, s1.drw, hyd.mono (s1.tups hL0), ⟨n, hps pt hm⟩, hnar pt hm, by omega, fun v' t' H4 s4 hv4 hT => hN v' H4 (Tm.dat t') s4 hv4 ⟨ts ++ [t'], by simp, ?_⟩⟩
        rw [List.take_add_one, hpt]
        exact hts.snoc hT
      obtain ⟨us, rfl, hts⟩ := hI
      rw [hyl, List.take_length] at hts
      have hul := hts.teqs.length
      have hal := hdv.length
      rw [List.length_map] at hal
      have nD := hL0.ne hD
      refine sq_asg ?_
      refine ⟨_, rfl, _, rfl, D, acc, rfl, .inl (SqL.of hDl), _, _, rfl, rfl, l, _, rfl, s1.drw, by omega, fun ia H1b i0 i1 kb => ?_⟩
      obtain ⟨kk, rfl⟩ : ∃ kk : Nat, ia = (kk : Int) := ⟨ia.toNat, by omega⟩
      have hkk : kk ≤ acc.length := by omega
      have hDlb := kb.keep _ _ nD hDl
      have hdvb := hdv.mono (kb.tups s1.drw)
      have s1b := s1.trans kb
      have e1 : cutV acc (some (kk : Int)) none = acc.drop kk := cut_hi _ _ hkk
      have e2 : cutV acc none (some (kk : Int)) = acc.take kk := cut_lo _ _
      refine sq_asg ?_
      refine ⟨_, rfl, _, rfl, _, rfl, D, acc, rfl, SqL.of hDlb, fun p1 hp1 => ?_⟩
      rw [e1]
      have sa := same_new hp1 (.lst (acc.drop kk))
      refine ⟨_, rfl, _, rfl, _, rfl, D, acc, rfl, SqL.of (sa _ _ hDlb), fun p2 hp2 => ?_⟩
      rw [e2]
      have sb := same_new hp2 (.lst (acc.take kk))
      refine ⟨p1, p2, _, _, rfl, rfl, sb _ _ upd_same, upd_same, (by rw [List.length_drop, List.length_take]; omega), fun p3 hp3 => ?_⟩
      have sc := same_new hp3 (.lst (acc.drop kk ++ acc.take kk))
      have s2 := s1b.same ((sa.trans sb).trans sc)
      have hd2 : DVs (upd (upd (upd H1b p1 (.lst (acc.drop kk))) p2 (.lst (acc.take kk))) p3 (.lst (acc.drop kk ++ acc.take kk))) (acc.drop kk ++ acc.take kk) ((us.drop kk ++ us.take kk).map Tm.dat) := by
        rw [List.map_append, List.map_drop, List.map_take]
        exact ((hdvb.drop kk).append (hdvb.take kk)).mono (same_tups ((sa.trans sb).trans sc))
      have hp2' : (us.drop kk ++ us.take kk).Perm us := List.perm_append_comm.trans (by rw [List.take_append_drop])
      have hl3 : upd (upd (upd H1b p1 (.lst (acc.drop kk))) p2 (.lst (acc.take kk))) p3 (.lst (acc.drop kk ++ acc.take kk)) p3 = _ := upd_same
      generalize upd (upd (upd H1b p1 (.lst (acc.drop kk))) p2 (.lst (acc.take kk))) p3 (.lst (acc.drop kk ++ acc.take kk)) = H2 at s2 hd2 hl3
      generalize acc.drop kk ++ acc.take kk = zs at hd2 hl3
      generalize us.drop kk ++ us.take kk = vs at hd2 hp2'
      refine sq_if_k (fun σ' H' => ∃ l' zs vs, σ' = [some (.ref l), some (.ref b), some (.int wy), some (.ref l'), some (.int (kk : Int))] ∧ Kp l H0 H' ∧ H' l' = some (.lst zs) ∧ DVs H' zs (List.map Tm.dat vs) ∧ vs.Perm us) (fun R1 hR1 => ?_) (fun σ' H3 hC => ?_)
      · refine ⟨_, rfl, _, _, rfl, rfl, _, rfl, ?_⟩
        refine ite2 (fun c => ?_) (fun c => ?_)
        · refine ⟨_, rfl, p3, zs, rfl, hl3, fun p4 hp4 => ?_⟩
          have sd := same_new hp4 (.lst zs.reverse)
          refine hR1 _ _ ⟨p4, zs.reverse, vs.reverse, rfl, s2.same sd, upd_same, ?_, (List.reverse_perm _).trans hp2'⟩
          rw [List.map_reverse]
          exact DVs_rev (hd2.mono (same_tups sd))
        · exact hR1 _ _ ⟨p3, zs, vs, rfl, s2, hl3, hd2, hp2'⟩
      obtain ⟨l', zs, vs, rfl, s3, hl, hd3, hpm⟩ := hC
      have hvl := hpm.length_eq
      have hzl := hd3.length
      rw [List.length_map] at hzl
      refine sq_if_k (fun σ' H' => ∃ l' zs ws, σ' = [some (.ref l), some (.ref b), some (.int wy), some (.ref l'), some (.int (kk : Int))] ∧ Kp l H0 H' ∧ H' l' = some (.lst zs) ∧ DVs H' zs (List.map Tm.dat ws) ∧ Tur0 (.mix ps) (.mix ws)) (fun R1 hR1 => ?_) (fun σ' H4 hC => ?_)
      · refine ⟨_, rfl, _, _, rfl, rfl, (by show (0 : Int) < 2; decide), rfl, _, rfl, ?_⟩
        refine ite2 (fun c => ?_) (fun c => ?_)
        · have e1 : cutV zs (some (kk : Int)) none = zs.drop kk := cut_hi _ _ (by omega)
          have e2 : cutV zs none (some (kk : Int)) = zs.take kk := cut_lo _ _
          refine ⟨_, rfl, _, rfl, _, rfl, l', zs, rfl, SqL.of hl, fun p1 hp1 => ?_⟩
          rw [e2]
          have sa := same_new hp1 (.lst (zs.take kk))
          refine ⟨_, rfl, _, rfl, _, rfl, l', zs, rfl, SqL.of (sa _ _ hl), fun p2 hp2 => ?_⟩
          rw [e1]
          have sb := same_new hp2 (.lst (zs.drop kk))
          refine ⟨p2, _, rfl, .inl ⟨SqL.of upd_same, fun p3 hp3 => ⟨(by show 2 ≤ sizeLine; omega), fun p4 hp4 => ⟨(by show 1 ≤ sizeLine; omega), fun p5 hp5 => ?_⟩⟩⟩⟩
          have sc := same_new hp3 (.tup (zs.drop kk))
          have sd := same_new hp4 (.tup [.str "mix", .ref p3])
          have se := same_new hp5 (.lst [.ref p4])
          refine ⟨p1, p5, _, _, rfl, rfl, (sb.trans (sc.trans (sd.trans se))) _ _ upd_same, upd_same, (by rw [List.length_take, List.length_singleton]; omega), fun p6 hp6 => ?_⟩
          have sf := same_new hp6 (.lst (zs.take kk ++ [.ref p4]))
          refine hR1 _ _ ⟨p6, _, vs.take kk ++ [.mix (vs.drop kk)], rfl, s3.same (sa.trans (sb.trans (sc.trans (sd.trans (se.trans sf))))), upd_same, ?_, tur_group hts (by rw [List.take_append_drop]; exact hpm) h4⟩
          rw [List.map_append, List.map_take, List.map_singleton]
          refine DVs.append ((hd3.take kk).mono (same_tups (sa.trans (sb.trans (sc.trans (sd.trans (se.trans sf))))))) (DVs.cons ?_ DVs.nil)
          unfold Tm.dat
          rw [dats_map, List.map_drop]
          exact DV.tup ((se.trans sf) _ _ upd_same) (DVs.cons DV.str (DVs.cons (DV.tup ((sd.trans (se.trans sf)) _ _ upd_same) ((hd3.drop kk).mono (same_tups (sa.trans (sb.trans (sc.trans (sd.trans (se.trans sf)))))))) DVs.nil))
        · exact hR1 _ _ ⟨l', zs, vs, rfl, s3, hl, hd3, tur_mix hts hpm⟩
      obtain ⟨l', zs, ws, rfl, s4, hl, hd4, hT⟩ := hC
      refine ⟨_, rfl, l', zs, rfl, .inl ⟨SqL.of hl, fun np hnp => ⟨(by show 2 ≤ sizeLine; omega), fun tp htp => ?_⟩⟩⟩
      have sa := same_new hnp (.tup zs)
      have sb := same_new htp (.tup [.str "mix", .ref np])
      refine hR _ _ ⟨.ref tp, .mix ws, _, _, rfl, s4.same (sa.trans sb), ?_, hT⟩
      unfold Tm.dat
      rw [dats_map]
      exact DV.tup upd_same (DVs.cons DV.str (DVs.cons (DV.tup (sb _ _ upd_same) (hd4.mono (same_tups (sa.trans sb)))) DVs.nil))
  · obtain ⟨v', t', o4, o5, rfl, sH0, hv', hT⟩ := hC
    have sH := k0.trans sH0
    refine sq_ifn ?_
    refine ⟨_, rfl, rfl, _, rfl, ?_⟩
    refine ite2 (fun c => ?_) (fun c => ?_)
    · refine rt_dat (e_tup (e_cons e_str (e_cons (e_tup (e_cons (e_tup (e_cons e_str (e_cons (e_tup e_nil) e_nil))) (e_cons (e_var rfl hv') e_nil))) e_nil))) fun u d H2 s2 hu hp => ?_
      subst hp
      refine q u (.mix [.mix [], t']) H2 (sH.same s2) ?_ hT.wrap1
      simp only [Tm.dat, Tm.dats]
      exact hu
    refine sq_ifn ?_
    refine ⟨_, rfl, rfl, _, rfl, ?_⟩
    refine ite2 (fun c => ?_) (fun c => ?_)
    · refine rt_dat (e_tup (e_cons e_str (e_cons (e_tup (e_cons (e_tup (e_cons e_str (e_cons (e_tup (e_cons (e_var rfl hv') e_nil)) e_nil))) e_nil)) e_nil))) fun u d H2 s2 hu hp => ?_
      subst hp
      refine q u (.mix [.mix [t']]) H2 (sH.same s2) ?_ hT.wrap2
      simp only [Tm.dat, Tm.dats]
      exact hu
    · exact ⟨_, rfl, q v' t' H' sH hv' hT.tur⟩
end
end K04
end
section
set_option Elab.async false
set_option linter.all false
set_option maxRecDepth 100000
set_option maxHeartbeats 4000000
/-! what a form tells of how much stands in a term; a term with one thing or unknown more; parts backwards -/
namespace K04
open PySem PySem.W PySem.Spec PyProof.Rows L2 Mx K02
mutual
def dw : Mx.D → Int
  | .int _ => 0
  | .str _ => 0
  | .tup ds => dwt ds
/-- of a tuple: a pair with a count, an item, or many -/
def dwt : List Mx.D → Int
  | [] => 0
  | d :: ds => match ds with
    | [.int c] => c * dw d
    | ds => (match d with | .str _ => 1 | _ => dw d) + dws ds
def dws : List Mx.D → Int
  | [] => 0
  | d :: ds => dw d + dws ds
end
theorem dws_map (ds : List Mx.D) : dws ds = (ds.map dw).sum := by
  induction ds with
  | nil => simp [dws]
  | cons d ds ih => simp [dws, ih]
theorem dws_perm {a b : List Mx.D} (h : a.Perm b) : dws a = dws b := by
  rw [dws_map, dws_map]
  induction h with
  | nil => rfl
  | cons x _ ih => simp only [List.map_cons, List.sum_cons, ih]
  | swap x y l => simp only [List.map_cons, List.sum_cons]; omega
  | trans _ _ h1 h2 => rw [h1, h2]
theorem dws_append (a b : List Mx.D) : dws (a ++ b) = dws a + dws b := by rw [dws_map, dws_map, dws_map, List.map_append, List.sum_append]
/-- tuples of tuples -/
theorem dwt_tups : ∀ {ds : List Mx.D}, (∀ d ∈ ds, ∃ es, d = .tup es) → dwt ds = dws ds
  | [], _ => by simp [dwt, dws]
  | d :: [], h => by
    obtain ⟨es, rfl⟩ := h d List.mem_cons_self
    simp [dwt, dws]
  | d :: e :: ds, h => by
    obtain ⟨es, rfl⟩ := h d List.mem_cons_self
    obtain ⟨fs, rfl⟩ := h e (List.mem_cons_of_mem _ List.mem_cons_self)
    simp [dwt, dws]
theorem dw_pair (p : Pr) : dw (toD p) = p.2 * dw p.1 := by
  unfold toD
  simp [dw, dwt]
def sumW (ps : List Pr) : Int := (ps.map fun p => p.2 * dw p.1).sum
theorem dw_form (ps : List Pr) : dw (.tup (ps.map toD)) = sumW ps := by
  have h : ∀ d ∈ ps.map toD, ∃ es, d = Mx.D.tup es := fun d hd => by
    obtain ⟨p, _, rfl⟩ := List.mem_map.mp hd
    exact ⟨_, rfl⟩
  have e : dw (.tup (ps.map toD)) = dwt (ps.map toD) := by simp [dw]
  rw [e, dwt_tups h, dws_map, List.map_map]
  unfold sumW
  exact congrArg List.sum (List.map_congr_left fun p _ => dw_pair p)
theorem sumW_append (a b : List Pr) : sumW (a ++ b) = sumW a + sumW b := by unfold sumW; rw [List.map_append, List.sum_append]
theorem sumW_one (p : Pr) : sumW [p] = p.2 * dw p.1 := by unfold sumW; simp
theorem sumW_step (acc : List Pr) (p : Pr) : sumW (step acc p) = sumW acc + p.2 * dw p.1 := by
  by_cases e : acc = []
  · subst e
    rw [step_nil, sumW_one]
    unfold sumW
    simp
  · obtain ⟨pre, q, rfl⟩ := last_of e
    by_cases c : q.1 = p.1
    · rw [step_eq c, sumW_append, sumW_append, sumW_one, sumW_one, c]
      dsimp only
      rw [Int.add_mul]
      omega
    · rw [step_ne c, sumW_append, sumW_one]
theorem sumW_gath (ps : List Pr) : sumW (gath ps) = sumW ps := by
  have go : ∀ (ps acc : List Pr), sumW (ps.foldl step acc) = sumW acc + sumW ps := by
    intro ps
    induction ps with
    | nil => intro acc; show sumW acc = sumW acc + sumW []; unfold sumW; simp
    | cons p ps ih =>
      intro acc
      rw [List.foldl_cons, ih, sumW_step, show p :: ps = [p] ++ ps from rfl, sumW_append, sumW_one]
      omega
  have := go ps []
  unfold gath
  rw [this]
  unfold sumW
  simp
theorem dw_fD (its : List Mx.D) : dw (fD its) = dws its := by
  unfold fD
  rw [dw_form]
  unfold fr
  rw [sumW_gath]
  have e : ∀ es : List Mx.D, sumW (one es) = dws es := fun es => by
    rw [dws_map]
    unfold sumW one
    rw [List.map_map]
    congr 1
    exact List.map_congr_left fun d _ => by show (1 : Int) * dw d = dw d; rw [Int.one_mul]
  rw [e, dws_perm (srt_ok its).1]
mutual
def Tm.wt : Tm → Int
  | .any _ => 1
  | .of _ ps => 1 + Tm.wts ps
  | .mix ps => Tm.wts ps
def Tm.wts : List Tm → Int
  | [] => 0
  | p :: ps => p.wt + Tm.wts ps
end
mutual
theorem wt_items : ∀ t : Tm, dws t.items = t.wt
  | .any x => by unfold Tm.items Tm.wt; simp [dws, dw, dwt]
  | .of x ps => by
    unfold Tm.items Tm.wt
    have h := wts_forms ps
    have e : dw (.tup (Tm.forms ps)) = dws (Tm.forms ps) := by
      have z : dw (.tup (Tm.forms ps)) = dwt (Tm.forms ps) := by simp [dw]
      rw [z]
      refine dwt_tups fun d hd => ?_
      rw [forms_map] at hd
      obtain ⟨p, _, rfl⟩ := List.mem_map.mp hd
      exact ⟨_, rfl⟩
    have e2 : dws [Mx.D.tup [.str "of", .str x, .tup (Tm.forms ps)]] = 1 + dw (.tup (Tm.forms ps)) := by
      simp [dws, dw, dwt]
    rw [e2, e, h]
  | .mix ps => by
    unfold Tm.items Tm.wt
    exact wts_items ps
theorem wts_forms : ∀ ps : List Tm, dws (Tm.forms ps) = Tm.wts ps
  | [] => by unfold Tm.forms Tm.wts; simp [dws]
  | p :: ps => by
    unfold Tm.forms Tm.wts
    have e : ∀ d ds, dws (d :: ds) = dw d + dws ds := fun d ds => by simp [dws]
    rw [e, dw_fD, wt_items p, wts_forms ps]
theorem wts_items : ∀ ps : List Tm, dws (Tm.itemss ps) = Tm.wts ps
  | [] => by unfold Tm.itemss Tm.wts; simp [dws]
  | p :: ps => by
    unfold Tm.itemss Tm.wts
    rw [dws_append, wt_items p, wts_items ps]
end
theorem fD_wt {t u : Tm} (h : fD t.items = fD u.items) : t.wt = u.wt := by
  have := congrArg dw h
  rw [dw_fD, dw_fD, wt_items, wt_items] at this
  exact this
/-- one thing or unknown more -/
structure Lon (t u : Tm) : Prop where
  wt : u.wt = t.wt + 1
  ok : t.nar → ∀ n, t.ok n → u.ok n
  len : u.items.length ≤ t.items.length + 1
  dp : u.dp ≤ t.dp + 2
structure Ext (e : Tm) : Prop where
  wt : e.wt = 1
  ok : ∀ n, e.ok n
  len : e.items.length = 1
  dp : e.dp ≤ 1
theorem ext_any {x : Str} (h : nmOk x) : Ext (.any x) := ⟨by unfold Tm.wt; rfl, fun n => by unfold Tm.ok; exact h, by unfold Tm.items; rfl, by unfold Tm.dp; omega⟩
theorem ext_of {x : Str} (h : nmOk x) : Ext (.of x []) := by
  refine ⟨by unfold Tm.wt Tm.wts; rfl, fun n => ?_, by unfold Tm.items; rfl, by unfold Tm.dp Tm.dps; omega⟩
  cases n with
  | zero => unfold Tm.ok; exact ⟨h, rfl⟩
  | succ n => unfold Tm.ok; exact ⟨h, by simp, (oks_iff n []).mpr (fun p hp => absurd hp (by simp)), fun p hp => absurd hp (by simp)⟩
theorem lon_pair {t e : Tm} (h : Ext e) : Lon t (.mix [t, e]) := by
  refine ⟨?_, fun _ n hn => ?_, ?_, ?_⟩
  · simp only [Tm.wt, Tm.wts]; have := h.wt; omega
  · rw [ok_mix]
    refine ⟨by simp, fun p hp => ?_⟩
    rcases List.mem_cons.mp hp with rfl | hp
    · exact hn
    · rw [List.mem_singleton.mp hp]; exact h.ok n
  · simp only [Tm.items, Tm.itemss, List.length_append, List.length_nil]; have := h.len; omega
  · simp only [Tm.dp, Tm.dps]; have := h.dp; omega
theorem lon_pair' {t e : Tm} (h : Ext e) : Lon t (.mix [e, t]) := by
  refine ⟨?_, fun _ n hn => ?_, ?_, ?_⟩
  · simp only [Tm.wt, Tm.wts]; have := h.wt; omega
  · rw [ok_mix]
    refine ⟨by simp, fun p hp => ?_⟩
    rcases List.mem_cons.mp hp with rfl | hp
    · exact h.ok n
    · rw [List.mem_singleton.mp hp]; exact hn
  · simp only [Tm.items, Tm.itemss, List.length_append, List.length_nil]; have := h.len; omega
  · simp only [Tm.dp, Tm.dps]; have := h.dp; omega
theorem wts_set : ∀ {ps : List Tm} {i : Nat} {p u : Tm}, ps[i]? = some p → Tm.wts (ps.set i u) = Tm.wts ps + u.wt - p.wt
  | [], i, p, u, h => absurd h (by simp)
  | q :: ps, 0, p, u, h => by
    simp at h
    subst h
    simp only [List.set, Tm.wts]
    omega
  | q :: ps, i + 1, p, u, h => by
    simp only [List.set, Tm.wts]
    rw [wts_set (ps := ps) (i := i) (p := p) (by simpa using h)]
    omega
theorem itemss_set : ∀ {ps : List Tm} {i : Nat} {p u : Tm}, ps[i]? = some p → u.items.length ≤ p.items.length + 1 → (Tm.itemss (ps.set i u)).length ≤ (Tm.itemss ps).length + 1
  | [], i, p, u, h, _ => absurd h (by simp)
  | q :: ps, 0, p, u, h, hu => by
    simp at h
    subst h
    simp only [List.set, Tm.itemss, List.length_append]
    omega
  | q :: ps, i + 1, p, u, h, hu => by
    simp only [List.set, Tm.itemss, List.length_append]
    have := itemss_set (ps := ps) (i := i) (p := p) (by simpa using h) hu
    omega
theorem mem_set {ps : List Tm} {i : Nat} {u v : Tm} (h : v ∈ ps.set i u) : v ∈ ps ∨ v = u := List.mem_or_eq_of_mem_set h
theorem lon_of {x : Str} {ps : List Tm} {i : Nat} {p u : Tm} (hp : ps[i]? = some p) (h : Lon p u) : Lon (.of x ps) (.of x (ps.set i u)) := by
  have hm := List.mem_of_getElem? hp
  refine ⟨?_, fun hnar n hn => ?_, ?_, ?_⟩
  · simp only [Tm.wt]; rw [wts_set hp]; have := h.wt; omega
  · unfold Tm.nar at hnar
    rw [nars_iff] at hnar
    cases n with
    | zero =>
      unfold Tm.ok at hn
      rw [hn.2] at hp
      exact absurd hp (by simp)
    | succ n =>
      unfold Tm.ok at hn ⊢
      refine ⟨hn.1, by rw [List.length_set]; exact hn.2.1, (oks_iff n _).mpr fun v hv => ?_, fun v hv => ?_⟩
      · rcases mem_set hv with hv | rfl
        · exact (oks_iff n ps).mp hn.2.2.1 v hv
        · exact h.ok (hnar.1 p hm) n ((oks_iff n ps).mp hn.2.2.1 p hm)
      · rcases mem_set hv with hv | rfl
        · exact hn.2.2.2 v hv
        · have := h.len
          have := hnar.2 p hm
          omega
  · simp only [Tm.items, List.length_singleton]; omega
  · have hd := dp_mem hm
    have := h.dp
    have z := dps_le (n := Tm.dps ps + 2) (ps := ps.set i u) fun v hv => by
      rcases mem_set hv with hv | rfl
      · have := dp_mem hv; omega
      · omega
    unfold Tm.dp
    omega
theorem lon_mix {ps : List Tm} {i : Nat} {p u : Tm} (hp : ps[i]? = some p) (h : Lon p u) : Lon (.mix ps) (.mix (ps.set i u)) := by
  have hm := List.mem_of_getElem? hp
  refine ⟨?_, fun hnar n hn => ?_, ?_, ?_⟩
  · simp only [Tm.wt]; rw [wts_set hp]; have := h.wt; omega
  · unfold Tm.nar at hnar
    rw [nars_iff] at hnar
    rw [ok_mix] at hn ⊢
    refine ⟨by rw [List.length_set]; exact hn.1, fun v hv => ?_⟩
    rcases mem_set hv with hv | rfl
    · exact hn.2 v hv
    · exact h.ok (hnar.2 p hm) n (hn.2 p hm)
  · simp only [Tm.items]; exact itemss_set hp h.len
  · have hd := dp_mem hm
    have := h.dp
    have z := dps_le (n := Tm.dps ps + 2) (ps := ps.set i u) fun v hv => by
      rcases mem_set hv with hv | rfl
      · have := dp_mem hv; omega
      · omega
    unfold Tm.dp
    omega
/-- no more within, no deeper -/
structure Bak (t u : Tm) : Prop where
  ok : ∀ n, t.ok n → u.ok n
  len : u.items.length = t.items.length
  dp : u.dp ≤ t.dp
inductive Baks : List Tm → List Tm → Prop where
  | nil : Baks [] []
  | cons {t u : Tm} {ts us : List Tm} (h : Bak t u) (hs : Baks ts us) : Baks (t :: ts) (u :: us)
theorem Baks.snoc {ts us : List Tm} {t u : Tm} (h : Baks ts us) (hu : Bak t u) : Baks (ts ++ [t]) (us ++ [u]) := by
  induction h with
  | nil => exact .cons hu .nil
  | cons h _ ih => exact .cons h ih
theorem Baks.length {ts us : List Tm} (h : Baks ts us) : us.length = ts.length := by
  induction h with
  | nil => rfl
  | cons _ _ ih => simp [ih]
theorem Baks.mem {ts us : List Tm} (h : Baks ts us) : ∀ u ∈ us, ∃ t ∈ ts, Bak t u := by
  induction h with
  | nil => intro u hu; exact absurd hu (by simp)
  | cons h _ ih =>
    intro u hu
    rcases List.mem_cons.mp hu with rfl | hu
    · exact ⟨_, List.mem_cons_self, h⟩
    · obtain ⟨t, ht, z⟩ := ih u hu
      exact ⟨t, List.mem_cons_of_mem _ ht, z⟩
theorem Baks.items {ts us : List Tm} (h : Baks ts us) : (Tm.itemss us).length = (Tm.itemss ts).length := by
  induction h with
  | nil => rfl
  | cons h _ ih => simp only [Tm.itemss, List.length_append, ih, h.len]
theorem Baks.dps {ts us : List Tm} (h : Baks ts us) : ∀ u ∈ us, u.dp ≤ Tm.dps ts := fun u hu => by
  obtain ⟨t, ht, z⟩ := h.mem u hu
  have := dp_mem ht
  have := z.dp
  omega
theorem bak_of {x : Str} {ps us : List Tm} (h : Baks ps us) : Bak (.of x ps) (.of x us.reverse) := by
  have hl := h.length
  refine ⟨fun n hn => ?_, by simp only [Tm.items, List.length_singleton], ?_⟩
  · cases n with
    | zero =>
      unfold Tm.ok at hn ⊢
      refine ⟨hn.1, ?_⟩
      rw [hn.2] at hl
      rw [List.length_eq_zero_iff.mp hl]
      rfl
    | succ n =>
      unfold Tm.ok at hn ⊢
      refine ⟨hn.1, by rw [List.length_reverse]; omega, (oks_iff n _).mpr fun u hu => ?_, fun u hu => ?_⟩
      · obtain ⟨t, ht, z⟩ := h.mem u (List.mem_reverse.mp hu)
        exact z.ok n ((oks_iff n ps).mp hn.2.2.1 t ht)
      · obtain ⟨t, ht, z⟩ := h.mem u (List.mem_reverse.mp hu)
        rw [z.len]
        exact hn.2.2.2 t ht
  · have := dps_le (ps := us.reverse) fun u hu => h.dps u (List.mem_reverse.mp hu)
    unfold Tm.dp
    omega
theorem bak_mix {ps us : List Tm} (h : Baks ps us) : Bak (.mix ps) (.mix us.reverse) := by
  have hl := h.length
  refine ⟨fun n hn => ?_, ?_, ?_⟩
  · rw [ok_mix] at hn ⊢
    refine ⟨by rw [List.length_reverse]; omega, fun u hu => ?_⟩
    obtain ⟨t, ht, z⟩ := h.mem u (List.mem_reverse.mp hu)
    exact z.ok n (hn.2 t ht)
  · simp only [Tm.items]
    rw [(itemss_perm (List.reverse_perm us)).length_eq]
    exact h.items
  · have := dps_le (ps := us.reverse) fun u hu => h.dps u (List.mem_reverse.mp hu)
    unfold Tm.dp
    omega
end K04
end
section
set_option Elab.async false
set_option linter.all false
set_option maxRecDepth 100000
set_option maxHeartbeats 4000000
namespace K04
open PySem PySem.W PySem.Spec PyProof.Rows L2 Mx K02
/-- a thing or a mix: what stands ahead of its parts, and what is made of other parts -/
structure Shell (m : Nat) (t : Tm) (E : List Mx.D) (ps : List Tm) (mk : List Tm → Tm) : Prop where
  nm : ∃ s ds, E = Mx.D.str s :: ds ∧ s ≠ "any" ∧ ds.length ≤ 1
  self : mk ps = t
  dat : ∀ qs, (mk qs).dat = .tup (E ++ [.tup (qs.map Tm.dat)])
  len : ps.length ≤ 5
  sub : ∀ p ∈ ps, (∃ n, p.ok n) ∧ p.dp < m
  lon : ∀ i p u, ps[i]? = some p → Lon p u → Lon t (mk (ps.set i u))
  bak : ∀ us, Baks ps us → Bak t (mk us.reverse)
theorem shell {m : Nat} {t : Tm} (hok : ∃ n, t.ok n) (hdp : t.dp < m + 1) : (∃ x, t = .any x) ∨ ∃ E ps mk, Shell m t E ps mk := by
  obtain ⟨n, hn⟩ := hok
  cases t with
  | any x => exact .inl ⟨x, rfl⟩
  | of x ps =>
    obtain ⟨_, h3, hps⟩ := ok_of_inv hn
    unfold Tm.dp at hdp
    refine .inr ⟨[.str "of", .str x], ps, fun qs => .of x qs, ⟨_, _, rfl, by decide, by simp⟩, rfl, fun qs => by unfold Tm.dat; rw [dats_map]; rfl, by omega, fun p hp => ⟨hps p hp, by have := dp_mem hp; omega⟩, fun i p u hp h => lon_of hp h, fun us h => bak_of h⟩
  | mix ps =>
    have hps := (ok_mix n ps).mp hn
    unfold Tm.dp at hdp
    refine .inr ⟨[.str "mix"], ps, fun qs => .mix qs, ⟨_, _, rfl, by decide, by simp⟩, rfl, fun qs => by unfold Tm.dat; rw [dats_map]; rfl, by omega, fun p hp => ⟨⟨n, hps.2 p hp⟩, by have := dp_mem hp; omega⟩, fun i p u hp h => lon_mix hp h, fun us h => bak_mix h⟩
theorem sIx_m1 (n : Nat) : HT.sIx (n + 1) (n + 1) (some (-1)) = n := by
  show (if (-1 : Int) < 0 then (-1 + ((n + 1 : Nat) : Int)).toNat else min (-1 : Int).toNat (n + 1)) = n
  rw [if_pos (by decide)]
  omega
theorem cut_m1 (pre : List V) (x : V) : cutV (pre ++ [x]) none (some (-1)) = pre := by
  unfold cutV
  rw [HT.sIx_none, List.length_append, List.length_singleton, sIx_m1, Nat.sub_zero, List.drop_zero]
  simp
theorem not_whole (pre : List V) (x : V) : ¬ (HT.sIx (pre ++ [x]).length 0 none = 0 ∧ HT.sIx (pre ++ [x]).length (pre ++ [x]).length (some (-1)) = (pre ++ [x]).length) := by
  rw [List.length_append, List.length_singleton, sIx_m1]
  omega
theorem DVs_set {H : Hp} {v : V} {d : Mx.D} : ∀ {xs : List V} {ds : List Mx.D} {i : Nat}, DVs H xs ds → DV H v d → DVs H (xs.set i v) (ds.set i d)
  | [], ds, i, h, hv => by
    cases ds with
    | nil => exact h
    | cons e ds => obtain ⟨_, _, z, _⟩ := h.cons_inv; cases z
  | x :: xs, ds, i, h, hv => by
    cases ds with
    | nil => cases h.nil_inv
    | cons e ds =>
      obtain ⟨x', r, z, h1, h2⟩ := h.cons_inv
      cases z
      cases i with
      | zero => exact DVs.cons hv h2
      | succ i => exact DVs.cons h1 (DVs_set h2 hv)
abbrev sLonger : Stmt := top 15
abbrev sBack : Stmt := top 16
abbrev pLonger : List Str := ["_law_draws_here", "_law_term_here", "_law_extra"]
abbrev nLonger : List Str := ["_law_draws_here", "_law_term_here", "_law_extra", "_law_parts", "_law_at"]
theorem scLonger : FnScope nLonger pLonger (defScope sLonger) := ⟨rfl, rfl, rfl, by decide +kernel, rfl, by decide +kernel, by decide +kernel⟩
theorem scBack : FnScope ["_law_term_here", "_law_parts"] ["_law_term_here"] (defScope sBack) := ⟨rfl, rfl, rfl, by decide +kernel, rfl, by decide +kernel, by decide +kernel⟩
theorem ndPt : (["_law_part"] : List Str).Nodup := by decide +kernel
section
variable {P : Program} {w : World} {K : PySem.W.Frag} {mg : Str → Option Value} {base : Heap}
def spBack (m : Nat) : Sp := fun vs H Q _ => ∃ (v : V) (t : Tm), vs = [v] ∧ DV H v (Tm.dat t) ∧ (∃ n, t.ok n) ∧ t.dp < m ∧
  ∀ v' t' H', Same H H' → DV H' v' (Tm.dat t') → Bak t t' → Q v' H'
theorem ok_back {m j : Nat} {f g : Addr} {fd gd : FuncData} (F : Fun K "_law_backwards" "_law_backwards" sBack f fd)
    (G : FnOk P w K mg base CX0 j g gd ["_law_term_here"] (spBack m)) (bG : Binds K gd ["_law_term_here"] []) (kG : PySem.W.keepIn K (.ref g) = true) (mG : mg "_law_backwards" = some (.ref g))
    (mt : mg "tuple" = none) (mre : mg "reversed" = none) : FnOk P w K mg base CX0 (j + 1) f fd ["_law_term_here"] (spBack (m + 1)) := by
  refine F.ok scBack (fun vs H Q E h => ?_) (fun cdv A outer s H vs Q E hr h => ?_)
  · obtain ⟨v, t, rfl, _⟩ := h
    rfl
  obtain ⟨v, t, rfl, hv, hok, hdp, q⟩ := h
  refine ⟨_, pss_cons (ps_if (pt_cmpR op_eq (pe_ix ix_tup (pv 0) pe_int (fun _ _ => rfl)) pe_str (nomark _)) (pss_one (ps_ret (pv 0))) pss_nil)
    (pss_cons (ps_setComp (i := 1) rfl scBack.nd rfl rfl (N' := ["_law_part"]) (cap := [none]) (blk_of (defScope sBack).names ["_law_term_here", "_law_parts"] rfl rfl rfl (by decide +kernel)) (pi_tup (pe_ix ix_tup (pv 0) (pe_un un_neg pe_int) (fun _ _ => rfl))) (ge_name rfl) (fun _ _ _ _ => pg_name (i := 0) ndPt rfl (Or.inl rfl)) (fun _ _ _ _ => pts_nil)
        (fun _ _ _ _ => pe_call G hr rfl mG kG bG .nil pass0 (pa_cons (pv 0) pa_nil)))
    (pss_one (ps_ret (pe_op op_catD (pe_slice sl_tup (pv 0) po_none (po_some (pe_un un_neg pe_int))) (pe_tup (pa_cons (pe_tupRev rfl rfl mt rfl mre (pv 1)) pa_nil)))))), ?_⟩
  have hsz := sizeLine_eq
  rcases shell hok hdp with ⟨x, rfl⟩ | ⟨EE, ps, mk, sh⟩
  · have hv' := hv
    unfold Tm.dat at hv'
    obtain ⟨b, xs, rfl, hb, hs⟩ := hv'.tup_inv
    obtain ⟨x0, r0, rfl, h0, hs0⟩ := hs.cons_inv
    cases h0.str_inv
    refine sq_ifn ?_
    refine ⟨_, rfl, b, _, 0, _, rfl, rfl, SqT.of hb, at0, rfl, _, rfl, ?_⟩
    refine ite2 (fun c => ?_) (fun c => absurd (decide_eq_true rfl) c)
    exact ⟨_, rfl, q _ (.any x) H (Same.refl _) hv ⟨fun n h => h, rfl, Nat.le_refl _⟩⟩
  · have hv' := hv
    rw [← sh.self, sh.dat] at hv'
    obtain ⟨b, xs, rfl, hb, hs⟩ := hv'.tup_inv
    obtain ⟨pre, lv, rfl, hpre, hlv⟩ := DVs.snoc_inv hs
    obtain ⟨cc, ys, rfl, hcc, hys⟩ := hlv.tup_inv
    have hyl := hys.length
    rw [List.length_map] at hyl
    have hpl := sh.len
    obtain ⟨s0, ds, hE, hne, hdl⟩ := sh.nm
    have hpre2 := hpre
    rw [hE] at hpre2
    obtain ⟨x0, pre', hpe, h0, hpre'⟩ := hpre2.cons_inv
    cases h0.str_inv
    have hbat : atI (pre ++ [V.ref cc]) 0 = some (.str s0) := by rw [hpe]; exact at0
    refine sq_ifn ?_
    refine ⟨_, rfl, b, _, 0, _, rfl, rfl, SqT.of hb, hbat, rfl, _, rfl, ?_⟩
    refine ite2 (fun c => absurd (of_decide_eq_true c) (fun z => hne (by injection z))) (fun c => ?_)
    refine sq_asg ?_
    refine ⟨_, rfl, 1, rfl, b, _, _, _, rfl, rfl, SqT.of hb, Mx.atI_last _ _, cc, rfl, ⟨ys, SqT.of hcc⟩, fun D hD => ?_⟩
    refine comp_tupP hcc hD (fun i ds => ∃ ts : List Tm, ds = ts.map Tm.dat ∧ Baks (ps.take i) ts) ⟨[], rfl, .nil⟩ (by omega) (fun i y H1 ds hy s1 hI N M hN hM => ?_) (fun H1 acc ds s1 hDl hdv hI => ?_)
    · obtain ⟨ts, rfl, hts⟩ := hI
      obtain ⟨d, hd, hyd⟩ := hys.get hy
      rw [List.getElem?_map] at hd
      obtain ⟨pt, hpt, rfl⟩ := Option.map_eq_some_iff.mp hd
      obtain ⟨h1, h2⟩ := sh.sub pt (List.mem_of_getElem? hpt)
      refine iteT (B := M H1) ⟨_, rfl, y, pt, rfl, hyd.mono (same_tups s1), h1, h2, fun v' t' H4 s4 hv4 hT => hN v' H4 (Tm.dat t') s4 hv4 ⟨ts ++ [t'], by simp, ?_⟩⟩
      rw [List.take_add_one, hpt]
      exact hts.snoc hT
    · obtain ⟨ts, rfl, hts⟩ := hI
      rw [hyl, List.take_length] at hts
      refine ⟨_, rfl, 1, rfl, _, rfl, b, _, rfl, SqT.of (s1 _ _ hb), not_whole _ _, fun p1 hp1 => ?_⟩
      have ec : cutV (pre ++ [V.ref cc]) none (some (-1)) = pre := cut_m1 _ _
      rw [ec]
      have sa := same_new hp1 (.tup pre)
      refine ⟨_, rfl, D, acc, rfl, sa _ _ hDl, fun p2 hp2 => ⟨(by show 1 ≤ sizeLine; omega), fun p3 hp3 => ?_⟩⟩
      have sb := same_new hp2 (.tup acc.reverse)
      have sc := same_new hp3 (.tup [V.ref p2])
      refine ⟨EE, [.tup (ts.reverse.map Tm.dat)], DV.tup ((sb.trans sc) _ _ upd_same) (hpre.mono (same_tups (s1.trans (sa.trans (sb.trans sc))))), DV.tup upd_same (DVs.cons (DV.tup (sc _ _ upd_same) ?_) DVs.nil), ?_, fun v' H' s' hv' => ?_⟩
      · rw [List.map_reverse]
        exact DVs_rev (hdv.mono (same_tups (sa.trans (sb.trans sc))))
      · rw [hE]; simp only [List.length_cons, List.length_nil]; omega
      · refine q v' (mk ts.reverse) H' (s1.trans (sa.trans (sb.trans (sc.trans s')))) ?_ (sh.bak ts hts)
        rw [sh.dat]
        exact hv'
def spLonger (m : Nat) : Sp := fun vs H Q _ => ∃ (l : Addr) (v x : V) (t e : Tm), vs = [.ref l, v, x] ∧ Drw l H ∧ DV H v (Tm.dat t) ∧ DV H x (Tm.dat e) ∧ Ext e ∧ (∃ n, t.ok n) ∧ t.dp < m ∧
  ∀ v' t' H', Kp l H H' → DV H' v' (Tm.dat t') → Lon t t' → Q v' H'
theorem ok_longer {m j : Nat} {f g p : Addr} {fd gd pd : FuncData} (F : Fun K "_law_longer" "_law_longer" sLonger f fd)
    (G : FnOk P w K mg base CX0 (j + 1) g gd pLonger (spLonger m)) (bG : Binds K gd pLonger []) (kG : PySem.W.keepIn K (.ref g) = true) (mG : mg "_law_longer" = some (.ref g))
    (PK : FnOk P w K mg base CX0 1 p pd ["_law_draws_here", "_law_many"] spTake) (bP : Binds K pd ["_law_draws_here", "_law_many"] []) (kP : PySem.W.keepIn K (.ref p) = true) (mP : mg "_law_take" = some (.ref p))
    (mt : mg "tuple" = none) (ml : mg "len" = none) (mli : mg "list" = none) : FnOk P w K mg base CX0 (j + 2) f fd pLonger (spLonger (m + 1)) := by
  refine F.ok scLonger (fun vs H Q E h => ?_) (fun cdv A outer s H vs Q E hr h => ?_)
  · obtain ⟨l, v, x, t, e, rfl, _⟩ := h
    rfl
  obtain ⟨l, v, x, t, e, rfl, hL, hv, hx, he, hok, hdp, q⟩ := h
  refine ⟨_, pss_cons (ps_if (PW.pt (pw_or (pt_cmpR op_eq (pe_ix ix_tup (pv 1) pe_int (fun _ _ => rfl)) pe_str (nomark _)) (pw_or1 (pt_cmpR op_eq (pe_call PK (hr.mono (by omega)) rfl mP kP bP .nil pass0 (pa_cons (pv 0) (pa_cons pe_int pa_nil))) pe_int (nomark _))))) (pss_one (ps_ret (pe_tup (pa_cons pe_str (pa_cons (pe_tup (pa_cons (pv 1) (pa_cons (pv 2) pa_nil))) pa_nil))))) pss_nil)
    (pss_cons (ps_set (i := 3) scLonger.nd rfl (Or.inl rfl) (pe_callTy call_list_of rfl mli PyProof.Rows.boot_list (pa_cons (pe_ix ix_tup (pv 1) (pe_un un_neg pe_int) (fun _ _ => rfl)) pa_nil)))
    (pss_cons (ps_if (pt_cmpR op_eq (pe_callB call_len_seq rfl ml PySem.boot_len (pa_cons (pv 3) pa_nil)) pe_int (nomark _)) (pss_one (ps_ret (pe_tup (pa_cons pe_str (pa_cons (pe_tup (pa_cons (pv 2) (pa_cons (pv 1) pa_nil))) pa_nil))))) pss_nil)
    (pss_cons (ps_set (i := 4) scLonger.nd rfl (Or.inl rfl) (pe_call PK (hr.mono (by omega)) rfl mP kP bP .nil pass0 (pa_cons (pv 0) (pa_cons (pe_callB call_len_seq rfl ml PySem.boot_len (pa_cons (pv 3) pa_nil)) pa_nil))))
    (pss_cons (ps_asg (pe_call G (hr.mono (by omega)) rfl mG kG bG .nil pass0 (pa_cons (pv 0) (pa_cons (pe_ix ix_list (pv 3) (pv 4) (fun _ _ => rfl)) (pa_cons (pv 2) pa_nil)))) (pg_sub (pv 3) (pv 4) set_list))
    (pss_one (ps_ret (pe_op op_catD (pe_slice sl_tup (pv 1) po_none (po_some (pe_un un_neg pe_int))) (pe_tup (pa_cons (pe_callTy call_tuple_of rfl mt PyProof.Rows.boot_tuple (pa_cons (pv 3) pa_nil)) pa_nil))))))))), ?_⟩
  have hsz := sizeLine_eq
  rcases shell hok hdp with ⟨z, rfl⟩ | ⟨EE, ps, mk, sh⟩
  · have hv' := hv
    unfold Tm.dat at hv'
    obtain ⟨b, xs, rfl, hb, hs⟩ := hv'.tup_inv
    obtain ⟨x0, r0, rfl, h0, hs0⟩ := hs.cons_inv
    cases h0.str_inv
    refine sq_ifn ?_
    refine ⟨_, rfl, b, _, 0, _, rfl, rfl, SqT.of hb, at0, rfl, _, rfl, ?_⟩
    refine ite2 (fun c => ?_) (fun c => absurd (decide_eq_true rfl) c)
    refine iteT ?_
    refine rt_dat (e_tup (e_cons e_str (e_cons (e_tup (e_cons (e_var rfl hv) (e_cons (e_var rfl hx) e_nil))) e_nil))) fun u d H2 s2 hu hp => ?_
    subst hp
    refine q u (.mix [.any z, e]) H2 (hL.kp s2) ?_ (lon_pair he)
    simp only [Tm.dat, Tm.dats] at hu ⊢
    exact hu
  · have hv' := hv
    rw [← sh.self, sh.dat] at hv'
    obtain ⟨b, xs, rfl, hb, hs⟩ := hv'.tup_inv
    obtain ⟨pre, lv, rfl, hpre, hlv⟩ := DVs.snoc_inv hs
    obtain ⟨cc, ys, rfl, hcc, hys⟩ := hlv.tup_inv
    have hyl := hys.length
    rw [List.length_map] at hyl
    have hpl := sh.len
    obtain ⟨s0, ds, hE, hne, hdl⟩ := sh.nm
    have hpre2 := hpre
    rw [hE] at hpre2
    obtain ⟨x0, pre', hpe, h0, hpre'⟩ := hpre2.cons_inv
    cases h0.str_inv
    have hbat : atI (pre ++ [V.ref cc]) 0 = some (.str s0) := by rw [hpe]; exact at0
    refine sq_ifn ?_
    refine ⟨_, rfl, b, _, 0, _, rfl, rfl, SqT.of hb, hbat, rfl, _, rfl, ?_⟩
    refine ite2 (fun c => absurd (of_decide_eq_true c) (fun z => hne (by injection z))) (fun c => ?_)
    refine ⟨_, rfl, l, 3, rfl, hL, by decide, fun i H1 i0 i1 k1 => ⟨rfl, _, rfl, ?_⟩⟩
    have hv1 := hv.mono (k1.tups hL)
    have hx1 := hx.mono (k1.tups hL)
    refine ite2 (fun c => ?_) (fun c => ?_)
    · refine rt_dat (e_tup (e_cons e_str (e_cons (e_tup (e_cons (e_var rfl hv1) (e_cons (e_var rfl hx1) e_nil))) e_nil))) fun u d H2 s2 hu hp => ?_
      subst hp
      refine q u (.mix [t, e]) H2 (k1.same s2) ?_ (lon_pair he)
      simp only [Tm.dat, Tm.dats] at hu ⊢
      exact hu
    have hb1 := k1.tup hL hb
    have hcc1 := k1.tup hL hcc
    refine sq_asg ?_
    refine ⟨_, rfl, 1, rfl, b, _, _, _, rfl, rfl, SqT.of hb1, Mx.atI_last _ _, cc, ys, rfl, .inr (SqT.of hcc1), fun lp hlp => ?_⟩
    have nl := k1.drw.ne hlp
    have s2 := same_new hlp (.lst ys)
    refine sq_ifn ?_
    refine ⟨_, rfl, lp, _, rfl, .inl (SqL.of upd_same), rfl, _, rfl, ?_⟩
    refine ite2 (fun c => ?_) (fun c => ?_)
    · refine rt_dat (e_tup (e_cons e_str (e_cons (e_tup (e_cons (e_var rfl (hx1.mono (same_tups s2))) (e_cons (e_var rfl (hv1.mono (same_tups s2))) e_nil))) e_nil))) fun u d H2 s3 hu hp => ?_
      subst hp
      refine q u (.mix [e, t]) H2 (k1.same (s2.trans s3)) ?_ (lon_pair' he)
      simp only [Tm.dat, Tm.dats] at hu ⊢
      exact hu
    have hpos : 0 < ys.length := by
      rcases Nat.eq_zero_or_pos ys.length with z | z
      · exact absurd (decide_eq_true (by rw [z]; rfl)) c
      · exact z
    have kd2 := k1.drw.same s2
    refine sq_asg ?_
    refine ⟨_, rfl, _, rfl, lp, ys, rfl, .inl (SqL.of upd_same), l, _, rfl, kd2, by omega, fun ia H3 ia0 ia1 k3 => ?_⟩
    have k13 := (k1.drw.kp s2).trans k3
    have hlp3 := k3.keep _ _ nl (upd_same (H := H1) (a := lp) (o := .lst ys))
    obtain ⟨kk, rfl⟩ : ∃ kk : Nat, ia = (kk : Int) := ⟨ia.toNat, by omega⟩
    have hkk : kk < ys.length := by omega
    obtain ⟨y, hy⟩ : ∃ y, ys[kk]? = some y := ⟨ys[kk], List.getElem?_eq_getElem hkk⟩
    obtain ⟨d, hd, hyd⟩ := hys.get hy
    rw [List.getElem?_map] at hd
    obtain ⟨pt, hpt, rfl⟩ := Option.map_eq_some_iff.mp hd
    obtain ⟨h1, h2⟩ := sh.sub pt (List.mem_of_getElem? hpt)
    have t13 : Tups H H3 := (k1.trans k13).tups hL
    refine ⟨_, rfl, _, rfl, _, rfl, lp, ys, _, y, rfl, rfl, SqL.of hlp3, atI_nat hy, _, rfl, l, y, x, pt, e, rfl, k3.drw, hyd.mono t13, hx.mono t13, he, h1, h2, fun v' t' H4 k4 hv4 hT => ?_⟩
    have hlp4 := k4.keep _ _ nl hlp3
    have k14 := k13.trans k4
    have jx : ixN ys.length (kk : Int) = some kk := by
      unfold ixN
      rw [if_pos (by omega), if_pos (by omega)]
      simp
    refine ⟨_, rfl, _, rfl, lp, ys, _, kk, rfl, rfl, hlp4, jx, ?_⟩
    have k15 : Kp l H1 (upd H4 lp (.lst (ys.set kk v'))) := k14.upd k1.drw hlp
    have t45 : Tups H4 (upd H4 lp (.lst (ys.set kk v'))) := tups_upd hlp4
    have kH5 := k1.trans k15
    have hb5 := kH5.tup hL hb
    refine ⟨_, rfl, 1, rfl, _, rfl, b, _, rfl, SqT.of hb5, not_whole _ _, fun p1 hp1 => ?_⟩
    have ec : cutV (pre ++ [V.ref cc]) none (some (-1)) = pre := cut_m1 _ _
    rw [ec]
    have sa := same_new hp1 (.tup pre)
    refine ⟨_, rfl, lp, _, rfl, .inl ⟨SqL.of (sa _ _ upd_same), fun p2 hp2 => ⟨(by show 1 ≤ sizeLine; omega), fun p3 hp3 => ?_⟩⟩⟩
    have sb := same_new hp2 (.tup (ys.set kk v'))
    have sc := same_new hp3 (.tup [V.ref p2])
    have sabc := sa.trans (sb.trans sc)
    refine ⟨EE, [.tup ((ps.set kk t').map Tm.dat)], DV.tup ((sb.trans sc) _ _ upd_same) ((hpre.mono (kH5.tups hL)).mono (same_tups sabc)), DV.tup upd_same (DVs.cons (DV.tup (sc _ _ upd_same) ?_) DVs.nil), ?_, fun v6 H6 s6 hv6 => ?_⟩
    · refine DVs.mono (same_tups sabc) ?_
      rw [List.map_set]
      refine DVs_set ?_ (hv4.mono t45)
      exact (hys.mono ((k1.trans k14).tups hL)).mono t45
    · rw [hE]; simp only [List.length_cons, List.length_nil]; omega
    · refine q v6 (mk (ps.set kk t')) H6 (kH5.same (sabc.trans s6)) ?_ (sh.lon kk pt t' hpt hT)
      rw [sh.dat]
      exact hv6
end
end K04
end
section
set_option Elab.async false
set_option linter.all false
set_option maxRecDepth 100000
set_option maxHeartbeats 4000000
namespace K04
open PySem PySem.W PySem.Spec PyProof.Rows L2 Mx K02
theorem dep_fD {its : List D} (h : ∀ it ∈ its, okIt3 it) : D.dep (fD its) < 30 := by
  have := deps_le (b := 4 * 3 + 3) (ds := (fr its).map toD) fun d hd => by
    obtain ⟨p, hp, rfl⟩ := List.mem_map.mp hd
    exact dep_okP (dep_okF 3) ⟨p.1, p.2, rfl, h _ ((fr_ok its).2.1 p hp).2⟩
  unfold fD D.dep
  omega
theorem TmI.no {t : Tm} (h : TmI 0 t) : False := by have := h.dp; omega
section
variable {P : Program} {w : World} {K : PySem.W.Frag} {mg : Str → Option Value} {base : Heap}
theorem FnOk.empty {k : Nat} {f : Addr} {fd : FuncData} {ps : List Str} {sp : Sp} (no : ∀ vs H Q E, ¬ sp vs H Q E) : FnOk P w K mg base CX0 k f fd ps sp := ⟨fun vs H Q E h => absurd h (no vs H Q E), fun A outer s H args us vs Q E _ _ _ _ h => absurd h (no vs H Q E)⟩
theorem all_pairs {f g p : Addr} {fd gd pd : FuncData} (Fp : Fun K "pairs_of" "pairs_of" sPairs p pd) (Ff : Fun K "form_of" "form_of" sForm f fd) (G : FnOk P w K mg base CX0 1 g gd ["pairs"] spGath) (bG : Binds K gd ["pairs"] []) (kG : PySem.W.keepIn K (.ref g) = true) (mG : mg "gathered" = some (.ref g))
    (bP : Binds K pd ["term"] []) (mP : mg "pairs_of" = some (.ref p)) (bF : Binds K fd ["term"] []) (mF : mg "form_of" = some (.ref f)) (mt : mg "tuple" = none) :
    ∀ k : Nat, FnOk P w K mg base CX0 (2 * k + 1) p pd ["term"] (spPairs k) ∧ FnOk P w K mg base CX0 (2 * k + 2) f fd ["term"] (spForm k)
  | 0 => by
    have h : FnOk P w K mg base CX0 1 p pd ["term"] (spPairs 0) := FnOk.empty fun vs H Q E h => by
      obtain ⟨_, t, _, _, h, _⟩ := h
      exact h.no
    exact ⟨h, ok_form (Nat.le_refl 1) Ff G bG kG mG h bP Fp.kp mP⟩
  | k + 1 => by
    obtain ⟨h1, h2⟩ := all_pairs Fp Ff G bG kG mG bP mP bF mF mt k
    have h := ok_pairs (j := 2 * k + 1) Fp h2 bF Ff.kp mF h1 bP Fp.kp mP mt
    exact ⟨h, ok_form (by omega) Ff G bG kG mG h bP Fp.kp mP⟩
theorem all_items {f p : Addr} {fd pd : FuncData} (Fp : Fun K "_law_items" "_law_items" sItems p pd) (Ff : Fun K "_law_form" "_law_form" sLForm f fd)
    (bP : Binds K pd ["_law_term_here"] []) (mP : mg "_law_items" = some (.ref p)) (bF : Binds K fd ["_law_term_here"] []) (mF : mg "_law_form" = some (.ref f)) (mso : mg "sorted" = none) (mt : mg "tuple" = none) (ml : mg "len" = none) :
    ∀ k : Nat, FnOk P w K mg base CX0 (2 * k + 1) p pd ["_law_term_here"] (spItems k) ∧ FnOk P w K mg base CX0 (2 * k + 2) f fd ["_law_term_here"] (spForm k)
  | 0 => by
    have h : FnOk P w K mg base CX0 1 p pd ["_law_term_here"] (spItems 0) := FnOk.empty fun vs H Q E h => by
      obtain ⟨_, t, _, _, h, _⟩ := h
      exact h.no
    exact ⟨h, ok_lform Ff h bP Fp.kp mP mso mt ml⟩
  | k + 1 => by
    obtain ⟨h1, h2⟩ := all_items Fp Ff bP mP bF mF mso mt ml k
    have h := ok_items' (j := 2 * k + 1) Fp h2 bF Ff.kp mF h1 bP Fp.kp mP mt
    exact ⟨h, ok_lform Ff h bP Fp.kp mP mso mt ml⟩
theorem all_term {f p : Addr} {fd pd : FuncData} (F : Fun K "_law_term" "_law_term" sTerm f fd) (bG : Binds K fd pTerm []) (mG : mg "_law_term" = some (.ref f))
    (PK : FnOk P w K mg base CX0 1 p pd ["_law_draws_here", "_law_many"] spTake) (bP : Binds K pd ["_law_draws_here", "_law_many"] []) (kP : PySem.W.keepIn K (.ref p) = true) (mP : mg "_law_take" = some (.ref p))
    (mr : mg "range" = none) (mt : mg "tuple" = none) : ∀ n : Nat, FnOk P w K mg base CX0 (n + 1) f fd pTerm (spTerm n)
  | 0 => FnOk.empty fun vs H Q E h => by
    obtain ⟨l, d, r1, r2, _, _, hd, _⟩ := h
    omega
  | n + 1 => ok_term F (all_term F bG mG PK bP kP mP mr mt n) bG F.kp mG PK bP kP mP mr mt
theorem all_turned {f p : Addr} {fd pd : FuncData} (F : Fun K "_law_turned" "_law_turned" sTurned f fd) (bG : Binds K fd pTurned []) (mG : mg "_law_turned" = some (.ref f))
    (PK : FnOk P w K mg base CX0 1 p pd ["_law_draws_here", "_law_many"] spTake) (bP : Binds K pd ["_law_draws_here", "_law_many"] []) (kP : PySem.W.keepIn K (.ref p) = true) (mP : mg "_law_take" = some (.ref p))
    (mt : mg "tuple" = none) (ml : mg "len" = none) (mli : mg "list" = none) (mre : mg "reversed" = none) : ∀ n : Nat, FnOk P w K mg base CX0 (n + 1) f fd pTurned (spTurned n)
  | 0 => FnOk.empty fun vs H Q E h => by
    obtain ⟨l, v, t, _, _, _, _, _, hd, _⟩ := h
    omega
  | n + 1 => ok_turned F (all_turned F bG mG PK bP kP mP mt ml mli mre n) bG F.kp mG PK bP kP mP mt ml mli mre
theorem all_longer {f p : Addr} {fd pd : FuncData} (F : Fun K "_law_longer" "_law_longer" sLonger f fd) (bG : Binds K fd pLonger []) (mG : mg "_law_longer" = some (.ref f))
    (PK : FnOk P w K mg base CX0 1 p pd ["_law_draws_here", "_law_many"] spTake) (bP : Binds K pd ["_law_draws_here", "_law_many"] []) (kP : PySem.W.keepIn K (.ref p) = true) (mP : mg "_law_take" = some (.ref p))
    (mt : mg "tuple" = none) (ml : mg "len" = none) (mli : mg "list" = none) : ∀ n : Nat, FnOk P w K mg base CX0 (n + 1) f fd pLonger (spLonger n)
  | 0 => FnOk.empty fun vs H Q E h => by
    obtain ⟨l, v, x, t, e, _, _, _, _, _, _, hd, _⟩ := h
    omega
  | n + 1 => ok_longer F (all_longer F bG mG PK bP kP mP mt ml mli n) bG F.kp mG PK bP kP mP mt ml mli
theorem all_back {f : Addr} {fd : FuncData} (F : Fun K "_law_backwards" "_law_backwards" sBack f fd) (bG : Binds K fd ["_law_term_here"] []) (mG : mg "_law_backwards" = some (.ref f))
    (mt : mg "tuple" = none) (mre : mg "reversed" = none) : ∀ n : Nat, FnOk P w K mg base CX0 n f fd ["_law_term_here"] (spBack n)
  | 0 => FnOk.empty fun vs H Q E h => by
    obtain ⟨v, t, _, _, _, hd, _⟩ := h
    omega
  | n + 1 => ok_back F (all_back F bG mG mt mre n) bG F.kp mG mt mre
end
abbrev sSm : Stmt := top 4
abbrev sTold : Stmt := top 17
abbrev sLaw : Stmt := top 18
abbrev nTold : List Str := ["_law_one", "_law_other", "_law_due", "_law_found"]
abbrev pTold : List Str := ["_law_one", "_law_other", "_law_due"]
abbrev nLaw : List Str := ["_law_script", "_law_draws_here", "_law_names_here", "_law_signs_here", "_law_extra", "_law_term_here", "_law_turned_here", "_law_other", "_law_due", "_law_one"]
theorem scSm : FnScope ["one", "other"] ["one", "other"] (defScope sSm) := ⟨rfl, rfl, rfl, by decide +kernel, rfl, by decide +kernel, by decide +kernel⟩
theorem scTold : FnScope nTold pTold (defScope sTold) := ⟨rfl, rfl, rfl, by decide +kernel, rfl, by decide +kernel, by decide +kernel⟩
theorem scLaw : FnScope nLaw ["_law_script"] (defScope sLaw) := ⟨rfl, rfl, rfl, by decide +kernel, rfl, by decide +kernel, by decide +kernel⟩
theorem eqD {t u : Tm} (h : TEq t u) : fD t.items = fD u.items := by unfold fD; rw [fr_perm h]
section
variable {P : Program} {w : World} {K : PySem.W.Frag} {mg : Str → Option Value} {base : Heap}
def spSm : Sp := fun vs H Q _ => ∃ (v1 v2 : V) (t1 t2 : Tm), vs = [v1, v2] ∧ DV H v1 (Tm.dat t1) ∧ DV H v2 (Tm.dat t2) ∧ TmI 19 t1 ∧ TmI 19 t2 ∧ ∀ b H', Same H H' → (b = true ↔ fD t1.items = fD t2.items) → Q (.bl b) H'
def spTold : Sp := fun vs H Q _ => ∃ (v1 v2 : V) (t1 t2 : Tm) (c : Bool), vs = [v1, v2, .bl c] ∧ DV H v1 (Tm.dat t1) ∧ DV H v2 (Tm.dat t2) ∧ TmI 19 t1 ∧ TmI 19 t2 ∧ (c = true ↔ fD t1.items = fD t2.items) ∧ ∀ H', Same H H' → Q (.bl true) H'
theorem ok_sm {f g : Addr} {fd gd : FuncData} (F : Fun K "same" "same" sSm f fd) (G : FnOk P w K mg base CX0 40 g gd ["term"] (spForm 19)) (bG : Binds K gd ["term"] []) (kG : PySem.W.keepIn K (.ref g) = true) (mG : mg "form_of" = some (.ref g)) : FnOk P w K mg base CX0 41 f fd ["one", "other"] spSm := by
  refine F.ok scSm (fun vs H Q E h => ?_) (fun cdv A outer s H vs Q E hr h => ?_)
  · obtain ⟨v1, v2, t1, t2, rfl, _⟩ := h
    rfl
  obtain ⟨v1, v2, t1, t2, rfl, h1, h2, i1, i2, q⟩ := h
  have hu : (A.deeper (envOfC "same" (defScope sSm) s.heap.objs.size f cdv)).units + 150 < cLine := by have := hr.un; omega
  refine ⟨_, pss_one (ps_ret (pe_cmpR (op_eqD hu) (pe_call G hr rfl mG kG bG .nil pass0 (pa_cons (pv 0) pa_nil)) (pe_call G hr rfl mG kG bG .nil pass0 (pa_cons (pv 1) pa_nil)) (nomark _))), ?_⟩
  refine ⟨_, rfl, v1, t1, rfl, h1, i1, fun r1 H1 s1 hr1 => ⟨_, rfl, v2, t2, rfl, h2.mono (same_tups s1), i2, fun r2 H2 s2 hr2 => ?_⟩⟩
  have d1 := dep_fD i1.its
  unfold fD D.dep at d1
  refine ⟨_, _, hr1.mono (same_tups s2), hr2, by omega, q _ _ (s1.trans s2) ?_⟩
  unfold fD
  constructor
  · intro c; rw [of_decide_eq_true c]
  · intro c; exact decide_eq_true (by injection c)
theorem ok_told {f g : Addr} {fd gd : FuncData} (F : Fun K "_law_told" "_law_told" sTold f fd) (G : FnOk P w K mg base CX0 41 g gd ["one", "other"] spSm) (bG : Binds K gd ["one", "other"] []) (kG : PySem.W.keepIn K (.ref g) = true) (mG : mg "same" = some (.ref g))
    (mi : mg "isinstance" = none) (mb : mg "bool" = none) : FnOk P w K mg base CX0 42 f fd pTold spTold := by
  refine F.ok scTold (fun vs H Q E h => ?_) (fun cdv A outer s H vs Q E hr h => ?_)
  · obtain ⟨v1, v2, t1, t2, c, rfl, _⟩ := h
    rfl
  obtain ⟨v1, v2, t1, t2, c, rfl, h1, h2, i1, i2, hc, q⟩ := h
  refine ⟨_, pss_cons (ps_set (i := 3) scTold.nd rfl (Or.inl rfl) (pe_call G hr rfl mG kG bG .nil pass0 (pa_cons (pv 0) (pa_cons (pv 1) pa_nil))))
    (pss_one (ps_ret (pe_and (pe_callB call_isi rfl mi PyProof.Rows.boot_isinstance (pa_cons (pv 3) (pa_cons (pe_bltn (v := .ty "bool") rfl mb PyProof.Rows.boot_bool rfl) pa_nil))) (pe_one (pe_cmpR op_eq (pv 3) (pv 2) (nomark _)))))), ?_⟩
  refine sq_asg ?_
  refine ⟨_, rfl, _, rfl, v1, v2, t1, t2, rfl, h1, h2, i1, i2, fun b H1 s1 hb => ?_⟩
  refine ⟨_, rfl, .bl b, "bool", .type "bool", true, rfl, TyOf.bl _, rfl, true, rfl, iteT ⟨_, rfl, _, rfl, rfl, ?_⟩⟩
  have e : b = c := by
    cases b <;> cases c <;> simp_all
  rw [decide_eq_true (by rw [e])]
  exact q H1 s1
def spLaw (K : PySem.W.Frag) : Sp := fun vs H Q _ => ∃ (a : Addr) (ns : List Int), vs = [.ref a] ∧ SqL K H a (ns.map V.int) ∧ ns.length ≤ 63 ∧ ∀ H', Q (.bl true) H'
theorem ok_law {f gd gu gs gt gr gk gf go gb gx : Addr} {fd dd ud sd td rd kd od ld bd xd : FuncData} (F : Fun K "law" "law" sLaw f fd)
    (GD : FnOk P w K mg base CX0 1 gd dd ["_law_script"] (spDraws K)) (bD : Binds K dd ["_law_script"] []) (kD : PySem.W.keepIn K (.ref gd) = true) (mD : mg "_law_draws" = some (.ref gd))
    (GU : FnOk P w K mg base CX0 3 gu ud ["_law_draws_here"] spNames2) (bU : Binds K ud ["_law_draws_here"] []) (kU : PySem.W.keepIn K (.ref gu) = true) (mU : mg "_law_unknowns" = some (.ref gu))
    (GS : FnOk P w K mg base CX0 3 gs sd ["_law_draws_here"] spNames2) (bS : Binds K sd ["_law_draws_here"] []) (kS : PySem.W.keepIn K (.ref gs) = true) (mS : mg "_law_signs" = some (.ref gs))
    (GK : FnOk P w K mg base CX0 1 gk kd ["_law_draws_here", "_law_many"] spTake) (bK : Binds K kd ["_law_draws_here", "_law_many"] []) (kK : PySem.W.keepIn K (.ref gk) = true) (mK : mg "_law_take" = some (.ref gk))
    (GT : FnOk P w K mg base CX0 5 gt td pTerm (spTerm 4)) (bT : Binds K td pTerm []) (kT : PySem.W.keepIn K (.ref gt) = true) (mT : mg "_law_term" = some (.ref gt))
    (GR : FnOk P w K mg base CX0 6 gr rd pTurned (spTurned 5)) (bR : Binds K rd pTurned []) (kR : PySem.W.keepIn K (.ref gr) = true) (mR : mg "_law_turned" = some (.ref gr))
    (GX : FnOk P w K mg base CX0 6 gx xd pLonger (spLonger 5)) (bX : Binds K xd pLonger []) (kX : PySem.W.keepIn K (.ref gx) = true) (mX : mg "_law_longer" = some (.ref gx))
    (GB : FnOk P w K mg base CX0 5 gb bd ["_law_term_here"] (spBack 5)) (bB : Binds K bd ["_law_term_here"] []) (kB : PySem.W.keepIn K (.ref gb) = true) (mB : mg "_law_backwards" = some (.ref gb))
    (GF : FnOk P w K mg base CX0 40 gf od ["_law_term_here"] (spForm 19)) (bF : Binds K od ["_law_term_here"] []) (kF : PySem.W.keepIn K (.ref gf) = true) (mF : mg "_law_form" = some (.ref gf))
    (GO : FnOk P w K mg base CX0 42 go ld pTold spTold) (bO : Binds K ld pTold []) (kO : PySem.W.keepIn K (.ref go) = true) (mO : mg "_law_told" = some (.ref go)) : FnOk P w K mg base CX0 43 f fd ["_law_script"] (spLaw K) := by
  refine F.ok scLaw (fun vs H Q E h => ?_) (fun cdv A outer s H vs Q E hr h => ?_)
  · obtain ⟨a, ns, rfl, _⟩ := h
    rfl
  obtain ⟨a, ns, rfl, hS0, h63, q⟩ := h
  have hu : (A.deeper (envOfC "law" (defScope sLaw) s.heap.objs.size f cdv)).units + 150 < cLine := by have := hr.un; omega
  refine ⟨_, pss_cons (ps_set (i := 1) scLaw.nd rfl (Or.inl rfl) (pe_call GD (hr.mono (by decide)) rfl mD kD bD .nil pass0 (pa_cons (pv 0) pa_nil)))
    (pss_cons (ps_set (i := 2) scLaw.nd rfl (Or.inl rfl) (pe_call GU (hr.mono (by decide)) rfl mU kU bU .nil pass0 (pa_cons (pv 1) pa_nil)))
    (pss_cons (ps_set (i := 3) scLaw.nd rfl (Or.inl rfl) (pe_call GS (hr.mono (by decide)) rfl mS kS bS .nil pass0 (pa_cons (pv 1) pa_nil)))
    (pss_cons (ps_set (i := 4) scLaw.nd rfl (Or.inl rfl) (pe_tup (pa_cons pe_str (pa_cons (pe_ix ix_list (pv 2) (pe_call GK (hr.mono (by decide)) rfl mK kK bK .nil pass0 (pa_cons (pv 1) (pa_cons pe_int pa_nil))) (fun _ _ => rfl)) pa_nil))))
    (pss_cons (ps_if (pt_cmpR op_eq (pe_call GK (hr.mono (by decide)) rfl mK kK bK .nil pass0 (pa_cons (pv 1) (pa_cons pe_int pa_nil))) pe_int (nomark _))
      (pss_one (ps_set (i := 4) scLaw.nd rfl (Or.inl rfl) (pe_tup (pa_cons pe_str (pa_cons (pe_ix ix_list (pv 3) (pe_call GK (hr.mono (by decide)) rfl mK kK bK .nil pass0 (pa_cons (pv 1) (pa_cons pe_int pa_nil))) (fun _ _ => rfl)) (pa_cons (pe_tup pa_nil) pa_nil)))))) pss_nil)
    (pss_cons (ps_set (i := 5) scLaw.nd rfl (Or.inl rfl) (pe_call GT (hr.mono (by decide)) rfl mT kT bT .nil pass0 (pa_cons (pv 1) (pa_cons pe_int (pa_cons (pv 2) (pa_cons (pv 3) pa_nil))))))
    (pss_cons (ps_set (i := 6) scLaw.nd rfl (Or.inl rfl) (pe_call GR (hr.mono (by decide)) rfl mR kR bR .nil pass0 (pa_cons (pv 1) (pa_cons (pv 5) pa_nil))))
    (pss_cons (ps_if (PW.pt (pw_or (pt_not (pt_truth (pe_call GO (hr.mono (by decide)) rfl mO kO bO .nil pass0 (pa_cons (pv 5) (pa_cons (pv 6) (pa_cons pe_bl pa_nil)))) (fun _ => rfl))) (pw_or1 (pt_not (pt_truth (pe_call GO (hr.mono (by decide)) rfl mO kO bO .nil pass0 (pa_cons (pv 6) (pa_cons (pv 5) (pa_cons pe_bl pa_nil)))) (fun _ => rfl)))))) (pss_one (ps_ret pe_bl)) pss_nil)
    (pss_cons (ps_if (pt_not (pt_truth (pe_call GO (hr.mono (by decide)) rfl mO kO bO .nil pass0 (pa_cons (pv 6) (pa_cons (pe_call GX (hr.mono (by decide)) rfl mX kX bX .nil pass0 (pa_cons (pv 1) (pa_cons (pv 5) (pa_cons (pv 4) pa_nil)))) (pa_cons pe_bl pa_nil)))) (fun _ => rfl))) (pss_one (ps_ret pe_bl)) pss_nil)
    (pss_cons (ps_set (i := 7) scLaw.nd rfl (Or.inl rfl) (pe_call GT (hr.mono (by decide)) rfl mT kT bT .nil pass0 (pa_cons (pv 1) (pa_cons pe_int (pa_cons (pv 2) (pa_cons (pv 3) pa_nil))))))
    (pss_cons (ps_set (i := 8) scLaw.nd rfl (Or.inl rfl) (pe_call GF (hr.mono (by decide)) rfl mF kF bF .nil pass0 (pa_cons (pv 5) pa_nil)))
    (pss_cons (ps_for PassesOwn.never rfl (pi_list (pe_lst (pa_cons (pv 7) (pa_cons (pe_call GB (hr.mono (by decide)) rfl mB kB bB .nil pass0 (pa_cons (pv 5) pa_nil)) (pa_cons (pe_call GR (hr.mono (by decide)) rfl mR kR bR .nil pass0 (pa_cons (pv 1) (pa_cons (pv 7) pa_nil))) pa_nil))))) (pg_name (i := 9) scLaw.nd rfl (Or.inl rfl))
      (pss_one (ps_if (pt_not (pt_truth (pe_call GO (hr.mono (by decide)) rfl mO kO bO .nil pass0 (pa_cons (pv 9) (pa_cons (pv 6) (pa_cons (pe_cmpR (op_eqD hu) (pe_call GF (hr.mono (by decide)) rfl mF kF bF .nil pass0 (pa_cons (pv 9) pa_nil)) (pv 8) (nomark _)) pa_nil)))) (fun _ => rfl))) (pss_one (ps_ret pe_bl)) pss_nil)))
    (pss_one (ps_ret pe_bl))))))))))))), ?_⟩
  have hsz := sizeLine_eq
  refine sq_asg ?_
  refine ⟨_, rfl, a, ns, rfl, hS0, h63, fun l H1 s1 hL => ?_⟩
  refine sq_asg ?_
  refine ⟨_, rfl, l, rfl, hL, fun r1 N1 H2 k2 hr1 nr1 o1 => ?_⟩
  have hn1 : Nms l r1 H2 := ⟨nr1, N1, hr1, o1⟩
  refine sq_asg ?_
  refine ⟨_, rfl, l, rfl, k2.drw, fun r2 N2 H3 k3 hr2 nr2 o2 => ?_⟩
  have hn2 : Nms l r2 H3 := ⟨nr2, N2, hr2, o2⟩
  have hn13 := hn1.kp k3
  refine sq_asg ?_
  refine ⟨_, rfl, _, rfl, l, 3, rfl, k3.drw, by decide, fun i4 H4 i40 i41 k4 => ?_⟩
  obtain ⟨N, x, eN, hx, nx⟩ := (hn13.kp k4).get i40 i41
  refine ⟨r1, _, _, _, rfl, rfl, SqL.of eN, hx, (by show 2 ≤ sizeLine; omega), fun ea hea => ?_⟩
  have s5 := same_new hea (.tup [.str "any", .str x])
  have k5 := k4.same s5
  have hext : DV (upd H4 ea (.tup [.str "any", .str x])) (.ref ea) (Tm.dat (.any x)) := by
    unfold Tm.dat
    exact DV.tup upd_same (DVs.cons DV.str (DVs.cons DV.str DVs.nil))
  generalize upd H4 ea (.tup [.str "any", .str x]) = H5 at k5 hext
  have hn15 := hn13.kp k5
  have hn25 := hn2.kp k5
  refine sq_if_k (fun σ' H' => ∃ ev e, σ' = [some (.ref a), some (.ref l), some (.ref r1), some (.ref r2), some ev, none, none, none, none, none] ∧ Kp l H5 H' ∧ DV H' ev (Tm.dat e) ∧ Ext e) (fun R hR => ?_) (fun σ' H6 hC => ?_)
  · refine ⟨_, rfl, l, 2, rfl, k5.drw, by decide, fun i6 H6 i60 i61 k6 => ⟨rfl, _, rfl, ?_⟩⟩
    refine ite2 (fun c => ?_) (fun c => hR _ _ ⟨_, _, rfl, k6, hext.mono (k6.tups k5.drw), ext_any nx⟩)
    refine ⟨_, rfl, _, rfl, l, 3, rfl, k6.drw, by decide, fun i7 H7 i70 i71 k7 => ?_⟩
    obtain ⟨N', x', eN', hx', nx'⟩ := ((hn25.kp k6).kp k7).get i70 i71
    refine ⟨r2, _, _, _, rfl, rfl, SqL.of eN', hx', (by show 0 ≤ sizeLine; omega), fun n0 hn0 => ⟨(by show 3 ≤ sizeLine; omega), fun np hnp => ?_⟩⟩
    have sn := same_new hnp (.tup [.str "of", .str x', .ref n0])
    refine hR _ _ ⟨_, .of x' [], rfl, (k6.trans k7).same ((same_new hn0 _).trans sn), ?_, ext_of nx'⟩
    unfold Tm.dat Tm.dats
    exact DV.tup upd_same (DVs.cons DV.str (DVs.cons DV.str (DVs.cons (DV.tup (sn _ _ upd_same) DVs.nil) DVs.nil)))
  obtain ⟨ev, e, rfl, k6, hev, hee⟩ := hC
  refine sq_asg ?_
  refine ⟨_, rfl, _, rfl, _, rfl, l, 3, r1, r2, rfl, k6.drw, by decide, by decide, hn15.kp k6, hn25.kp k6, fun v t H7 k7 hv hg => ?_⟩
  have ht : TmI 19 t := ⟨⟨3, by decide, hg.ok⟩, Nat.le_trans hg.len (by decide), by have := hg.dp; omega⟩
  refine sq_asg ?_
  refine ⟨_, rfl, _, rfl, l, v, t, rfl, k7.drw, hv, ⟨3, hg.ok⟩, hg.nar, by have := hg.dp; omega, fun vu u H8 k8 hvu hT => ?_⟩
  have hu' : TmI 19 u := ⟨⟨3, by decide, hT.ok 3 hg.ok⟩, by rw [← hT.eq.length_eq]; exact Nat.le_trans hg.len (by decide), by have := hg.dp; have := hT.dp; omega⟩
  have etu := eqD hT.eq
  have hv8 := hv.mono (k8.tups k7.drw)
  refine sq_ifn ?_
  refine ⟨_, rfl, _, rfl, v, vu, t, u, true, rfl, hv8, hvu, ht, hu', ⟨fun _ => etu, fun _ => rfl⟩, fun H9 s9 => ⟨true, rfl, iteF ⟨_, rfl, _, rfl, vu, v, u, t, true, rfl, hvu.mono (same_tups s9), hv8.mono (same_tups s9), hu', ht, ⟨fun _ => etu.symm, fun _ => rfl⟩, fun H10 s10 => ⟨true, rfl, iteF ?_⟩⟩⟩⟩
  have s910 := s9.trans s10
  have k810 := k8.same s910
  have d10 := k810.drw
  have hv10 := hv8.mono (same_tups s910)
  have hvu10 := hvu.mono (same_tups s910)
  have hev10 := (hev.mono (k7.tups k6.drw)).mono (k810.tups k7.drw)
  refine sq_ifn ?_
  refine ⟨_, rfl, _, rfl, _, rfl, _, rfl, l, v, ev, t, e, rfl, d10, hv10, hev10, hee, ⟨3, hg.ok⟩, by have := hg.dp; omega, fun vx tx H11 k11 hvx hX => ?_⟩
  have hx' : TmI 19 tx := ⟨⟨3, by decide, hX.ok hg.nar 3 hg.ok⟩, by have := hX.len; have : t.items.length ≤ 64 := hg.len; omega, by have := hg.dp; have := hX.dp; omega⟩
  have hvu11 := hvu10.mono (k11.tups d10)
  refine ⟨vu, vx, u, tx, false, rfl, hvu11, hvx, hu', hx', ⟨fun c => (by cases c), fun c => ?_⟩, fun H12 s12 => ⟨true, rfl, iteF ?_⟩⟩
  · have z := fD_wt (etu.trans c)
    have := hX.wt
    omega
  have k12 := k11.same s12
  have d12 := k12.drw
  have k7_12 := k810.trans k12
  have k5_12 := (k6.trans k7).trans k7_12
  refine sq_asg ?_
  refine ⟨_, rfl, _, rfl, _, rfl, l, 2, r1, r2, rfl, d12, by decide, by decide, hn15.kp k5_12, hn25.kp k5_12, fun vo to' H13 k13 hvo hgo => ?_⟩
  have hto : TmI 19 to' := ⟨⟨2, by decide, hgo.ok⟩, Nat.le_trans hgo.len (by decide), by have := hgo.dp; omega⟩
  have k7_13 := k7_12.trans k13
  have hv13 := hv.mono (k7_13.tups k7.drw)
  have hvu13 := hvu10.mono ((k12.trans k13).tups d10)
  refine sq_asg ?_
  refine ⟨_, rfl, v, t, rfl, hv13, ht, fun rd H14 s14 hrd => ?_⟩
  have d14 := k13.drw.same s14
  have hv14 := hv13.mono (same_tups s14)
  have hvo14 := hvo.mono (same_tups s14)
  refine ⟨_, rfl, _, rfl, v, t, rfl, hv14, ⟨3, hg.ok⟩, by have := hg.dp; omega, fun vb tb H15 s15 hvb hB => ?_⟩
  have htb : TmI 19 tb := ⟨⟨3, by decide, hB.ok 3 hg.ok⟩, by rw [hB.len]; exact Nat.le_trans hg.len (by decide), by have := hg.dp; have := hB.dp; omega⟩
  have d15 := d14.same s15
  refine ⟨_, rfl, _, rfl, l, vo, to', rfl, d15, hvo14.mono (same_tups s15), ⟨2, hgo.ok⟩, hgo.nar, by have := hgo.dp; omega, fun vp tp H16 k16 hvp hTp => ?_⟩
  have htp : TmI 19 tp := ⟨⟨2, by decide, hTp.ok 2 hgo.ok⟩, by rw [← hTp.eq.length_eq]; exact Nat.le_trans hgo.len (by decide), by have := hgo.dp; have := hTp.dp; omega⟩
  have t15 := k16.tups d15
  refine ⟨(by show 3 ≤ sizeLine; omega), fun lz hlz => ?_⟩
  have s17 := same_new hlz (.lst [vo, vb, vp])
  have all : ∀ (i : Nat) (y : V), [vo, vb, vp][i]? = some y → ∃ ty, DV (upd H16 lz (.lst [vo, vb, vp])) y (Tm.dat ty) ∧ TmI 19 ty := fun i y hy => by
    have hm := List.mem_of_getElem? hy
    simp only [List.mem_cons, List.not_mem_nil, or_false] at hm
    rcases hm with rfl | rfl | rfl
    · exact ⟨to', ((hvo14.mono (same_tups s15)).mono t15).mono (same_tups s17), hto⟩
    · exact ⟨tb, (hvb.mono t15).mono (same_tups s17), htb⟩
    · exact ⟨tp, hvp.mono (same_tups s17), htp⟩
  have hvu17 := (((hvu13.mono (same_tups s14)).mono (same_tups s15)).mono t15).mono (same_tups s17)
  have hrd17 := ((hrd.mono (same_tups s15)).mono t15).mono (same_tups s17)
  have hlz17 : upd H16 lz (.lst [vo, vb, vp]) lz = some (.lst [vo, vb, vp]) := upd_same
  generalize upd H16 lz (.lst [vo, vb, vp]) = H17 at all hvu17 hrd17 hlz17
  refine ⟨lz, rfl, ⟨_, SqL.of hlz17⟩, for_list (fun i σ H' => (∃ o9, σ = [some (.ref a), some (.ref l), some (.ref r1), some (.ref r2), some ev, some v, some vu, some vo, some rd, o9]) ∧ Same H17 H') ⟨⟨_, rfl⟩, Same.refl _⟩ (fun i σ H' _ hP => SqL.of (hP.2 _ _ hlz17)) (fun i y σ H' hy hP => ?_) (fun σ H' hP => q H')⟩
  obtain ⟨⟨o9, rfl⟩, sH⟩ := hP
  obtain ⟨ty, hty, ity⟩ := all i y hy
  refine gn ?_
  refine ⟨_, rfl, _, rfl, _, rfl, y, ty, rfl, hty.mono (same_tups sH), ity, fun rf H18 s18 hrf => ?_⟩
  have d1 := dep_fD ity.its
  unfold fD D.dep at d1
  refine ⟨_, rfl, _, _, hrf, hrd17.mono (same_tups (sH.trans s18)), by omega, ?_⟩
  refine ⟨y, vu, ty, u, _, rfl, hty.mono (same_tups (sH.trans s18)), hvu17.mono (same_tups (sH.trans s18)), ity, hu', ?_, fun H19 s19 => ⟨true, rfl, iteF ⟨⟨_, rfl⟩, sH.trans (s18.trans s19)⟩⟩⟩
  rw [← etu]
  unfold fD
  constructor
  · intro c; rw [of_decide_eq_true c]
  · intro c; exact decide_eq_true (by injection c)
end
end K04
end
section
set_option Elab.async false
set_option linter.all false
set_option maxRecDepth 100000
set_option maxHeartbeats 4000000
namespace K04
open PySem PySem.W PySem.Spec PyProof.Rows L2 Mx

theorem all_mk {l : PySem.W.OpenLaw} {w : World} {K : PySem.W.Frag} {h : Heap} {mg : Str → Option Value} {fa f1 f2 f3 f4 f5 f6 f7 f8 f9 f10 f11 f12 f13 f14 f15 f16 f17  : Addr} (X : K.In h) (G : h.Ns mainGlobals mg) (hfa : mg "law" = some (.ref fa))
    {od1 an1 od2 an2 od3 an3 od4 an4 od5 an5 od6 an6 od7 an7 od8 an8 od9 an9 od10 an10 od11 an11 od12 an12 od13 an13 od14 an14 od15 an15 od16 an16 od17 an17  : Option Addr} {sl1 sl2 sl3 sl4 sl5 sl6 sl7 sl8 sl9 sl10 sl11 sl12 sl13 sl14 sl15 sl16 sl17  : Array (Option Value)} {oc1 kV1 dc1 pm1 cd1 ct1 oc2 kV2 dc2 pm2 cd2 ct2 oc3 kV3 dc3 pm3 cd3 ct3 oc4 kV4 dc4 pm4 cd4 ct4 oc5 kV5 dc5 pm5 cd5 ct5 oc6 kV6 dc6 pm6 cd6 ct6 oc7 kV7 dc7 pm7 cd7 ct7 oc8 kV8 dc8 pm8 cd8 ct8 oc9 kV9 dc9 pm9 cd9 ct9 oc10 kV10 dc10 pm10 cd10 ct10 oc11 kV11 dc11 pm11 cd11 ct11 oc12 kV12 dc12 pm12 cd12 ct12 oc13 kV13 dc13 pm13 cd13 ct13 oc14 kV14 dc14 pm14 cd14 ct14 oc15 kV15 dc15 pm15 cd15 ct15 oc16 kV16 dc16 pm16 cd16 ct16 oc17 kV17 dc17 pm17 cd17 ct17  : Value}
    (a1 : PySem.W.nsIn K mainGlobals "gathered" = some (some (.ref f1))) (l1 : K.lookup f1 = some ⟨oc1, od1, .func (PySem.W.fnOf "gathered" "gathered" (defArgs sGath) (defBody sGath) (defScope sGath) .none kV1 dc1 pm1 an1 cd1 ct1), sl1⟩) (c1 : PySem.W.codeIn K cd1 "gathered" = true) (k1 : PySem.W.keepIn K (.ref f1) = true)
    (a2 : PySem.W.nsIn K mainGlobals "pairs_of" = some (some (.ref f2))) (l2 : K.lookup f2 = some ⟨oc2, od2, .func (PySem.W.fnOf "pairs_of" "pairs_of" (defArgs sPairs) (defBody sPairs) (defScope sPairs) .none kV2 dc2 pm2 an2 cd2 ct2), sl2⟩) (c2 : PySem.W.codeIn K cd2 "pairs_of" = true) (k2 : PySem.W.keepIn K (.ref f2) = true)
    (a3 : PySem.W.nsIn K mainGlobals "form_of" = some (some (.ref f3))) (l3 : K.lookup f3 = some ⟨oc3, od3, .func (PySem.W.fnOf "form_of" "form_of" (defArgs sForm) (defBody sForm) (defScope sForm) .none kV3 dc3 pm3 an3 cd3 ct3), sl3⟩) (c3 : PySem.W.codeIn K cd3 "form_of" = true) (k3 : PySem.W.keepIn K (.ref f3) = true)
    (a4 : PySem.W.nsIn K mainGlobals "same" = some (some (.ref f4))) (l4 : K.lookup f4 = some ⟨oc4, od4, .func (PySem.W.fnOf "same" "same" (defArgs sSm) (defBody sSm) (defScope sSm) .none kV4 dc4 pm4 an4 cd4 ct4), sl4⟩) (c4 : PySem.W.codeIn K cd4 "same" = true) (k4 : PySem.W.keepIn K (.ref f4) = true)
    (a5 : PySem.W.nsIn K mainGlobals "_law_draws" = some (some (.ref f5))) (l5 : K.lookup f5 = some ⟨oc5, od5, .func (PySem.W.fnOf "_law_draws" "_law_draws" (defArgs sDraws) (defBody sDraws) (defScope sDraws) .none kV5 dc5 pm5 an5 cd5 ct5), sl5⟩) (c5 : PySem.W.codeIn K cd5 "_law_draws" = true) (k5 : PySem.W.keepIn K (.ref f5) = true)
    (a6 : PySem.W.nsIn K mainGlobals "_law_take" = some (some (.ref f6))) (l6 : K.lookup f6 = some ⟨oc6, od6, .func (PySem.W.fnOf "_law_take" "_law_take" (defArgs sTake) (defBody sTake) (defScope sTake) .none kV6 dc6 pm6 an6 cd6 ct6), sl6⟩) (c6 : PySem.W.codeIn K cd6 "_law_take" = true) (k6 : PySem.W.keepIn K (.ref f6) = true)
    (a7 : PySem.W.nsIn K mainGlobals "_law_names" = some (some (.ref f7))) (l7 : K.lookup f7 = some ⟨oc7, od7, .func (PySem.W.fnOf "_law_names" "_law_names" (defArgs sNames) (defBody sNames) (defScope sNames) .none kV7 dc7 pm7 an7 cd7 ct7), sl7⟩) (c7 : PySem.W.codeIn K cd7 "_law_names" = true) (k7 : PySem.W.keepIn K (.ref f7) = true)
    (a8 : PySem.W.nsIn K mainGlobals "_law_unknowns" = some (some (.ref f8))) (l8 : K.lookup f8 = some ⟨oc8, od8, .func (PySem.W.fnOf "_law_unknowns" "_law_unknowns" (defArgs sUnk) (defBody sUnk) (defScope sUnk) .none kV8 dc8 pm8 an8 cd8 ct8), sl8⟩) (c8 : PySem.W.codeIn K cd8 "_law_unknowns" = true) (k8 : PySem.W.keepIn K (.ref f8) = true)
    (a9 : PySem.W.nsIn K mainGlobals "_law_signs" = some (some (.ref f9))) (l9 : K.lookup f9 = some ⟨oc9, od9, .func (PySem.W.fnOf "_law_signs" "_law_signs" (defArgs sSig) (defBody sSig) (defScope sSig) .none kV9 dc9 pm9 an9 cd9 ct9), sl9⟩) (c9 : PySem.W.codeIn K cd9 "_law_signs" = true) (k9 : PySem.W.keepIn K (.ref f9) = true)
    (a10 : PySem.W.nsIn K mainGlobals "_law_term" = some (some (.ref f10))) (l10 : K.lookup f10 = some ⟨oc10, od10, .func (PySem.W.fnOf "_law_term" "_law_term" (defArgs sTerm) (defBody sTerm) (defScope sTerm) .none kV10 dc10 pm10 an10 cd10 ct10), sl10⟩) (c10 : PySem.W.codeIn K cd10 "_law_term" = true) (k10 : PySem.W.keepIn K (.ref f10) = true)
    (a11 : PySem.W.nsIn K mainGlobals "_law_turned" = some (some (.ref f11))) (l11 : K.lookup f11 = some ⟨oc11, od11, .func (PySem.W.fnOf "_law_turned" "_law_turned" (defArgs sTurned) (defBody sTurned) (defScope sTurned) .none kV11 dc11 pm11 an11 cd11 ct11), sl11⟩) (c11 : PySem.W.codeIn K cd11 "_law_turned" = true) (k11 : PySem.W.keepIn K (.ref f11) = true)
    (a12 : PySem.W.nsIn K mainGlobals "_law_items" = some (some (.ref f12))) (l12 : K.lookup f12 = some ⟨oc12, od12, .func (PySem.W.fnOf "_law_items" "_law_items" (defArgs sItems) (defBody sItems) (defScope sItems) .none kV12 dc12 pm12 an12 cd12 ct12), sl12⟩) (c12 : PySem.W.codeIn K cd12 "_law_items" = true) (k12 : PySem.W.keepIn K (.ref f12) = true)
    (a13 : PySem.W.nsIn K mainGlobals "_law_form" = some (some (.ref f13))) (l13 : K.lookup f13 = some ⟨oc13, od13, .func (PySem.W.fnOf "_law_form" "_law_form" (defArgs sLForm) (defBody sLForm) (defScope sLForm) .none kV13 dc13 pm13 an13 cd13 ct13), sl13⟩) (c13 : PySem.W.codeIn K cd13 "_law_form" = true) (k13 : PySem.W.keepIn K (.ref f13) = true)
    (a14 : PySem.W.nsIn K mainGlobals "_law_longer" = some (some (.ref f14))) (l14 : K.lookup f14 = some ⟨oc14, od14, .func (PySem.W.fnOf "_law_longer" "_law_longer" (defArgs sLonger) (defBody sLonger) (defScope sLonger) .none kV14 dc14 pm14 an14 cd14 ct14), sl14⟩) (c14 : PySem.W.codeIn K cd14 "_law_longer" = true) (k14 : PySem.W.keepIn K (.ref f14) = true)
    (a15 : PySem.W.nsIn K mainGlobals "_law_backwards" = some (some (.ref f15))) (l15 : K.lookup f15 = some ⟨oc15, od15, .func (PySem.W.fnOf "_law_backwards" "_law_backwards" (defArgs sBack) (defBody sBack) (defScope sBack) .none kV15 dc15 pm15 an15 cd15 ct15), sl15⟩) (c15 : PySem.W.codeIn K cd15 "_law_backwards" = true) (k15 : PySem.W.keepIn K (.ref f15) = true)
    (a16 : PySem.W.nsIn K mainGlobals "_law_told" = some (some (.ref f16))) (l16 : K.lookup f16 = some ⟨oc16, od16, .func (PySem.W.fnOf "_law_told" "_law_told" (defArgs sTold) (defBody sTold) (defScope sTold) .none kV16 dc16 pm16 an16 cd16 ct16), sl16⟩) (c16 : PySem.W.codeIn K cd16 "_law_told" = true) (k16 : PySem.W.keepIn K (.ref f16) = true)
    (a17 : PySem.W.nsIn K mainGlobals "law" = some (some (.ref f17))) (l17 : K.lookup f17 = some ⟨oc17, od17, .func (PySem.W.fnOf "law" "law" (defArgs sLaw) (defBody sLaw) (defScope sLaw) .none kV17 dc17 pm17 an17 cd17 ct17), sl17⟩) (c17 : PySem.W.codeIn K cd17 "law" = true) (k17 : PySem.W.keepIn K (.ref f17) = true)
    (z1 : PySem.W.nsIn K mainGlobals "sorted" = some none)
    (z2 : PySem.W.nsIn K mainGlobals "tuple" = some none)
    (z3 : PySem.W.nsIn K mainGlobals "len" = some none)
    (z4 : PySem.W.nsIn K mainGlobals "range" = some none)
    (z5 : PySem.W.nsIn K mainGlobals "max" = some none)
    (z6 : PySem.W.nsIn K mainGlobals "isinstance" = some none)
    (z7 : PySem.W.nsIn K mainGlobals "bool" = some none)
    (z8 : PySem.W.nsIn K mainGlobals "list" = some none)
    (z9 : PySem.W.nsIn K mainGlobals "reversed" = some none) :
    ∃ fd : FuncData, (∀ (s : Shared) (v : Value), BindsTo s fd ⟨[v], []⟩ [("_law_script", v)]) ∧ ∀ base : Heap, K.In base → base.Ns mainGlobals mg → FnOk l.prog w K mg base CX0 43 fa fd ["_law_script"] (spLaw K) := by
  have e := hfa.symm.trans (PySem.W.mg_of X G a17)
  cases e
  have F1 := fun_mk (st := sGath) l1 c1 k1
  have b1 := F1.binds (ps := ["pairs"]) fun _ _ _ _ _ _ us hl => match us, hl with | [_], _ => rfl
  have m1 := PySem.W.mg_of X G a1
  have F2 := fun_mk (st := sPairs) l2 c2 k2
  have b2 := F2.binds (ps := ["term"]) fun _ _ _ _ _ _ us hl => match us, hl with | [_], _ => rfl
  have m2 := PySem.W.mg_of X G a2
  have F3 := fun_mk (st := sForm) l3 c3 k3
  have b3 := F3.binds (ps := ["term"]) fun _ _ _ _ _ _ us hl => match us, hl with | [_], _ => rfl
  have m3 := PySem.W.mg_of X G a3
  have F4 := fun_mk (st := sSm) l4 c4 k4
  have b4 := F4.binds (ps := ["one", "other"]) fun _ _ _ _ _ _ us hl => match us, hl with | [_, _], _ => rfl
  have m4 := PySem.W.mg_of X G a4
  have F5 := fun_mk (st := sDraws) l5 c5 k5
  have b5 := F5.binds (ps := ["_law_script"]) fun _ _ _ _ _ _ us hl => match us, hl with | [_], _ => rfl
  have m5 := PySem.W.mg_of X G a5
  have F6 := fun_mk (st := sTake) l6 c6 k6
  have b6 := F6.binds (ps := ["_law_draws_here", "_law_many"]) fun _ _ _ _ _ _ us hl => match us, hl with | [_, _], _ => rfl
  have m6 := PySem.W.mg_of X G a6
  have F7 := fun_mk (st := sNames) l7 c7 k7
  have b7 := F7.binds (ps := ["_law_draws_here", "_law_letters"]) fun _ _ _ _ _ _ us hl => match us, hl with | [_, _], _ => rfl
  have m7 := PySem.W.mg_of X G a7
  have F8 := fun_mk (st := sUnk) l8 c8 k8
  have b8 := F8.binds (ps := ["_law_draws_here"]) fun _ _ _ _ _ _ us hl => match us, hl with | [_], _ => rfl
  have m8 := PySem.W.mg_of X G a8
  have F9 := fun_mk (st := sSig) l9 c9 k9
  have b9 := F9.binds (ps := ["_law_draws_here"]) fun _ _ _ _ _ _ us hl => match us, hl with | [_], _ => rfl
  have m9 := PySem.W.mg_of X G a9
  have F10 := fun_mk (st := sTerm) l10 c10 k10
  have b10 := F10.binds (ps := ["_law_draws_here", "_law_deep", "_law_names_here", "_law_signs_here"]) fun _ _ _ _ _ _ us hl => match us, hl with | [_, _, _, _], _ => rfl
  have m10 := PySem.W.mg_of X G a10
  have F11 := fun_mk (st := sTurned) l11 c11 k11
  have b11 := F11.binds (ps := ["_law_draws_here", "_law_term_here"]) fun _ _ _ _ _ _ us hl => match us, hl with | [_, _], _ => rfl
  have m11 := PySem.W.mg_of X G a11
  have F12 := fun_mk (st := sItems) l12 c12 k12
  have b12 := F12.binds (ps := ["_law_term_here"]) fun _ _ _ _ _ _ us hl => match us, hl with | [_], _ => rfl
  have m12 := PySem.W.mg_of X G a12
  have F13 := fun_mk (st := sLForm) l13 c13 k13
  have b13 := F13.binds (ps := ["_law_term_here"]) fun _ _ _ _ _ _ us hl => match us, hl with | [_], _ => rfl
  have m13 := PySem.W.mg_of X G a13
  have F14 := fun_mk (st := sLonger) l14 c14 k14
  have b14 := F14.binds (ps := ["_law_draws_here", "_law_term_here", "_law_extra"]) fun _ _ _ _ _ _ us hl => match us, hl with | [_, _, _], _ => rfl
  have m14 := PySem.W.mg_of X G a14
  have F15 := fun_mk (st := sBack) l15 c15 k15
  have b15 := F15.binds (ps := ["_law_term_here"]) fun _ _ _ _ _ _ us hl => match us, hl with | [_], _ => rfl
  have m15 := PySem.W.mg_of X G a15
  have F16 := fun_mk (st := sTold) l16 c16 k16
  have b16 := F16.binds (ps := ["_law_one", "_law_other", "_law_due"]) fun _ _ _ _ _ _ us hl => match us, hl with | [_, _, _], _ => rfl
  have m16 := PySem.W.mg_of X G a16
  have F17 := fun_mk (st := sLaw) l17 c17 k17
  have y1 := PySem.W.mg_none_of X G z1
  have y2 := PySem.W.mg_none_of X G z2
  have y3 := PySem.W.mg_none_of X G z3
  have y4 := PySem.W.mg_none_of X G z4
  have y5 := PySem.W.mg_none_of X G z5
  have y6 := PySem.W.mg_none_of X G z6
  have y7 := PySem.W.mg_none_of X G z7
  have y8 := PySem.W.mg_none_of X G z8
  have y9 := PySem.W.mg_none_of X G z9
  refine ⟨PySem.W.fnOf "law" "law" (defArgs sLaw) (defBody sLaw) (defScope sLaw) .none kV17 dc17 pm17 an17 cd17 ct17, fun s v => .of_eq rfl, fun base _ _ => ?_⟩
  have take := ok_take (P := l.prog) (w := w) (mg := mg) (base := base) F6 y3
  have draws := ok_draws (P := l.prog) (w := w) (mg := mg) (base := base) F5 y3 y4 y5 y8
  have names := ok_names F7 take b6 k6 m6 y3 y4
  have unk := ok_unk F8 names b7 k7 m7
  have sig := ok_sig F9 names b7 k7 m7
  have gath := ok_gath (P := l.prog) (w := w) (mg := mg) (base := base) F1 y1 y2
  have form := (all_pairs F2 F3 gath b1 k1 m1 b2 m2 b3 m3 y2 19).2
  have lform := (all_items (P := l.prog) (w := w) (mg := mg) (base := base) F12 F13 b12 m12 b13 m13 y1 y2 y3 19).2
  have term := all_term F10 b10 m10 take b6 k6 m6 y4 y2 4
  have turned := all_turned F11 b11 m11 take b6 k6 m6 y2 y3 y8 y9 5
  have longer := all_longer F14 b14 m14 take b6 k6 m6 y2 y3 y8 5
  have back := all_back (P := l.prog) (w := w) (mg := mg) (base := base) F15 b15 m15 y2 y9 5
  have sm := ok_sm F4 form b3 k3 m3
  have told := ok_told F16 sm b4 k4 m4 y6 y7
  exact ok_law F17 draws b5 k5 m5 unk b8 k8 m8 sig b9 k9 m9 take b6 k6 m6 term b10 k10 m10 turned b11 k11 m11 longer b14 k14 m14 back b15 k15 m15 lform b13 k13 m13 told b16 k16 m16
theorem walk {l : PySem.W.OpenLaw} {q : Program} {loose : List Str} {XP : (Str → Option Value) → Heap → Prop} {YP : World → Heap → Prop} {d : DefRec} {K : Params → PySem.W.Frag} (hn : l.most = some 63) (hdf : d.params.defaults = [])
    (hY : ∀ (w : World) (h : Heap), YP w h → (K w.params).In h)
    (F : ∀ (w : World) (mg : Str → Option Value) (fa : Addr) (h : Heap), (K w.params).In h → h.Ns mainGlobals mg → mg d.name = some (.ref fa) →
      ∃ fd : FuncData, (∀ (s : Shared) (u : Value), BindsTo s fd ⟨[u], []⟩ [("_law_script", u)]) ∧ ∀ base : Heap, (K w.params).In base → base.Ns mainGlobals mg → FnOk l.prog w (K w.params) mg base CX0 43 fa fd ["_law_script"] (spLaw (K w.params))) :
    PySem.W.WalkO q loose XP YP l.row.toRowW d [] (fun f vs => PySem.call f vs) :=
  L2.walk_of (n := 63) (k := 43) (x := "_law_script") (CX := fun _ => CX0) (sp := fun w => spLaw (K w.params)) hn (by decide) hdf ⟨rfl, by decide, by decide⟩ hY F (fun _ _ a ns hl _ hS => ⟨a, ns, rfl, hS, hl, fun _ => rfl⟩) fun _ _ _ _ _ z => z
end K04
open PySem PySem.W PyProof.Rows
set_option maxRecDepth 100000 in
set_option maxHeartbeats 0 in
theorem PySem.Challenge.cw_mixform_k04_whole_same_holds : PySem.Challenge.rw_mixform_k04_whole_same.Holds := by
  w_on; o_law; k_head; (case hw => w_witness2)
  k_fill
  refine K04.walk (l := PySem.Challenge.rw_mixform_k04_whole_same) rfl rfl (fun w h Y => PySem.W.kIn_of Y) ?F
  case F =>
    intro w mg fa h KX G hmg
    refine' K04.all_mk KX G hmg ?a1 ?l1 ?c1 ?k1 ?a2 ?l2 ?c2 ?k2 ?a3 ?l3 ?c3 ?k3 ?a4 ?l4 ?c4 ?k4 ?a5 ?l5 ?c5 ?k5 ?a6 ?l6 ?c6 ?k6 ?a7 ?l7 ?c7 ?k7 ?a8 ?l8 ?c8 ?k8 ?a9 ?l9 ?c9 ?k9 ?a10 ?l10 ?c10 ?k10 ?a11 ?l11 ?c11 ?k11 ?a12 ?l12 ?c12 ?k12 ?a13 ?l13 ?c13 ?k13 ?a14 ?l14 ?c14 ?k14 ?a15 ?l15 ?c15 ?k15 ?a16 ?l16 ?c16 ?k16 ?a17 ?l17 ?c17 ?k17 ?z1 ?z2 ?z3 ?z4 ?z5 ?z6 ?z7 ?z8 ?z9
    (case a1 => k_is); (case l1 => k_is); (case c1 => k_is); (case k1 => k_is)
    (case a2 => k_is); (case l2 => k_is); (case c2 => k_is); (case k2 => k_is)
    (case a3 => k_is); (case l3 => k_is); (case c3 => k_is); (case k3 => k_is)
    (case a4 => k_is); (case l4 => k_is); (case c4 => k_is); (case k4 => k_is)
    (case a5 => k_is); (case l5 => k_is); (case c5 => k_is); (case k5 => k_is)
    (case a6 => k_is); (case l6 => k_is); (case c6 => k_is); (case k6 => k_is)
    (case a7 => k_is); (case l7 => k_is); (case c7 => k_is); (case k7 => k_is)
    (case a8 => k_is); (case l8 => k_is); (case c8 => k_is); (case k8 => k_is)
    (case a9 => k_is); (case l9 => k_is); (case c9 => k_is); (case k9 => k_is)
    (case a10 => k_is); (case l10 => k_is); (case c10 => k_is); (case k10 => k_is)
    (case a11 => k_is); (case l11 => k_is); (case c11 => k_is); (case k11 => k_is)
    (case a12 => k_is); (case l12 => k_is); (case c12 => k_is); (case k12 => k_is)
    (case a13 => k_is); (case l13 => k_is); (case c13 => k_is); (case k13 => k_is)
    (case a14 => k_is); (case l14 => k_is); (case c14 => k_is); (case k14 => k_is)
    (case a15 => k_is); (case l15 => k_is); (case c15 => k_is); (case k15 => k_is)
    (case a16 => k_is); (case l16 => k_is); (case c16 => k_is); (case k16 => k_is)
    (case a17 => k_is); (case l17 => k_is); (case c17 => k_is); (case k17 => k_is)
    (case z1 => k_is)
    (case z2 => k_is)
    (case z3 => k_is)
    (case z4 => k_is)
    (case z5 => k_is)
    (case z6 => k_is)
    (case z7 => k_is)
    (case z8 => k_is)
    (case z9 => k_is)
#print axioms PySem.Challenge.cw_mixform_k04_whole_same_holds
end
