import PyProof.Rows.All
import Wide.All
import OpenK.AllK
import Wide.FinOn
import Lean
import PyProof.EqAt
import PyProof.EqKinds
import PyProof.TupleCall
import KE.IntBitsLaws
import KE.KRevIter
import PySem.Challenge.RW_uprow_k06_turned
set_option Elab.async false
set_option linter.all false
set_option maxRecDepth 100000
/-! THE HAND LAYER, for ints, bools, texts, own classes, LISTS and tuples (index, slices, in, append, pop ..), calls, loops. Paste it whole ahead of your own text; what your proof does not reach may be deleted. -/
namespace L2
open PySem PySem.Spec PyProof.Rows

abbrev Key := Sum Int Str
def keyIs : Key → Value → Bool
  | .inl k, v => Value.isInt k v
  | .inr x, v => Value.isStrOf x v
def keyH (w : World) : Key → Int
  | .inl k => hashInt k
  | .inr x => hashStr w x
theorem keyIs_shape : ∀ {k : Key} {v : Value}, keyIs k v = true → (∃ i t, k = Sum.inl i ∧ v = Value.int i t) ∨ (∃ x t, k = Sum.inr x ∧ v = Value.str x t)
  | .inl i, v, h => by
    obtain ⟨t, e⟩ := Value.isInt_shape (k := i) (v := v) h
    exact .inl ⟨i, t, rfl, e⟩
  | .inr x, v, h => by
    obtain ⟨t, e⟩ := Value.isStrOf_shape (x := x) (v := v) h
    exact .inr ⟨x, t, rfl, e⟩
theorem key_ll (a b : Int) : decide ((Sum.inl a : Key) = Sum.inl b) = (a == b) := by
  by_cases e : a = b
  · subst e; simp
  · have h : ¬ (Sum.inl a : Key) = Sum.inl b := fun q => e (Sum.inl.inj q)
    rw [decide_eq_false h]
    exact (beq_eq_false_iff_ne.mpr e).symm
theorem key_rr (a b : Str) : decide ((Sum.inr a : Key) = Sum.inr b) = decide (a = b) := by
  by_cases e : a = b
  · subst e; simp
  · have h : ¬ (Sum.inr a : Key) = Sum.inr b := fun q => e (Sum.inr.inj q)
    rw [decide_eq_false h, decide_eq_false e]
theorem key_lr (a : Int) (b : Str) : decide ((Sum.inl a : Key) = Sum.inr b) = false := decide_eq_false (fun q => nomatch q)
theorem key_rl (a : Str) (b : Int) : decide ((Sum.inr a : Key) = Sum.inl b) = false := decide_eq_false (fun q => nomatch q)

def mixKind (prog : Program) (w : World) : PySem.KeyKind prog w Key where
  is := keyIs
  hash := keyH w
  inj := fun v a b ha hb => by
    rcases keyIs_shape ha with ⟨i, t, rfl, rfl⟩ | ⟨x, t, rfl, rfl⟩
    · rcases keyIs_shape hb with ⟨j, u, rfl, e⟩ | ⟨y, u, rfl, e⟩
      · injection e with e1 _; rw [e1]
      · exact nomatch e
    · rcases keyIs_shape hb with ⟨j, u, rfl, e⟩ | ⟨y, u, rfl, e⟩
      · exact nomatch e
      · injection e with e1 _; rw [e1]
  byValue := fun k v h => by
    rcases keyIs_shape h with ⟨i, t, rfl, rfl⟩ | ⟨x, t, rfl, rfl⟩ <;> rfl
  pyHash := fun hv h => by
    rcases keyIs_shape hv with ⟨i, t, rfl, rfl⟩ | ⟨x, t, rfl, rfl⟩
    · exact wpAny_pyHash_int h
    · exact wpAny_pyHash_str h
  eqBool := fun hu hv h => by
    rcases keyIs_shape hu with ⟨i, t, rfl, rfl⟩ | ⟨x, t, rfl, rfl⟩
    · rcases keyIs_shape hv with ⟨j, u, rfl, rfl⟩ | ⟨y, u, rfl, rfl⟩
      · rw [key_ll] at h; exact wpAny_eqBool_int h
      · rw [key_lr] at h; exact SeqAt.EqAt.int_str i t y u _ _ _ _ h
    · rcases keyIs_shape hv with ⟨j, u, rfl, rfl⟩ | ⟨y, u, rfl, rfl⟩
      · rw [key_rl] at h; exact SeqAt.EqAt.str_int x t j u _ _ _ _ h
      · rw [key_rr] at h; exact wpAny_eqBool_str h
  «strs» := fun k x t v h => by
    rcases keyIs_shape h with ⟨i, u, rfl, e⟩ | ⟨y, u, rfl, e⟩
    · exact nomatch e
    · injection e with e1 _
      subst e1
      cases v <;> rfl

end L2

namespace L2
open PySem PySem.Spec PyProof.Rows

inductive V where
  | non | bl (b : Bool) | int (i : Int) | str (x : Str) | byt (b : Array UInt8) | flt (b : UInt64) | ref (a : Addr) | ty (n : String)
  deriving DecidableEq

def RelV : V → Value → Prop
  | .non, u => u = Value.none
  | .bl b, u => u = Value.bool b
  | .int i, u => ∃ t, u = Value.int i t
  | .str x, u => ∃ t, u = Value.str x t
  | .byt b, u => ∃ t, u = Value.bytes b t
  | .flt b, u => ∃ t, u = Value.float b t
  | .ref a, u => u = Value.ref a
  | .ty n, u => u = Value.type n

abbrev Vals : List V → List Value → Prop := Paired RelV
theorem Vals.length {xs : List V} {us : List Value} (r : Vals xs us) : xs.length = us.length := Paired.length r
theorem Vals.get : ∀ {xs : List V} {us : List Value} {i : Nat} {x : V}, Vals xs us → xs[i]? = some x → ∃ u, us[i]? = some u ∧ RelV x u
  | _, _, _, _, .nil, e => by simp at e
  | _, _, 0, _, .cons r _, e => by simp at e; subst e; exact ⟨_, rfl, r⟩
  | _, _, i + 1, x, .cons _ t, e => by
    obtain ⟨u, h1, h2⟩ := Vals.get (i := i) (x := x) t (by simpa using e)
    exact ⟨u, by simpa using h1, h2⟩
theorem Vals.set {x : V} {u : Value} (r : RelV x u) : ∀ {xs : List V} {us : List Value} (i : Nat), Vals xs us → Vals (xs.set i x) (us.set i u)
  | _, _, _, .nil => .nil
  | _, _, 0, .cons _ t => .cons r t
  | _, _, i + 1, .cons q t => .cons q (Vals.set r i t)
theorem Vals.append : ∀ {xs ys : List V} {us ws : List Value}, Vals xs us → Vals ys ws → Vals (xs ++ ys) (us ++ ws)
  | _, _, _, _, .nil, s => s
  | _, _, _, _, .cons r t, s => .cons r (Vals.append t s)
theorem Vals.take : ∀ {xs : List V} {us : List Value} (n : Nat), Vals xs us → Vals (xs.take n) (us.take n)
  | _, _, 0, _ => .nil
  | _, _, _ + 1, .nil => .nil
  | _, _, n + 1, .cons r t => .cons r (Vals.take n t)
theorem Vals.drop : ∀ {xs : List V} {us : List Value} (n : Nat), Vals xs us → Vals (xs.drop n) (us.drop n)
  | _, _, 0, r => r
  | _, _, _ + 1, .nil => .nil
  | _, _, n + 1, .cons _ t => Vals.drop n t
theorem Vals.none_of : ∀ {xs : List V} {us : List Value} {i : Nat}, Vals xs us → xs[i]? = none → us[i]? = none := fun {xs us i} r e => by
  have h1 := r.length
  have h2 : xs.length ≤ i := List.getElem?_eq_none_iff.mp e
  exact List.getElem?_eq_none_iff.mpr (by omega)

def RelO : Option V → Option Value → Prop
  | some v, some u => RelV v u
  | none, none => True
  | _, _ => False
def KV {κ : Type} : List (κ × V) → List (κ × Value) → Prop := Paired fun (p : κ × V) (q : κ × Value) => p.1 = q.1 ∧ RelV p.2 q.2

def kV : Key → V
  | .inl i => .int i
  | .inr x => .str x

inductive HO where
  /-- a list -/
  | lst (xs : List V)
  /-- a tuple (never changes) -/
  | tup (xs : List V)
  /-- a dict whose keys are ints and texts; one whose keys are tuples of ints and texts (the empty one is both) -/
  | dK (kvs : List (Key × V)) | dT (kvs : List (List Key × V))
  /-- a set of ints: its members, its size -/
  | set (S : Int → Bool) (n : Nat)
  /-- an instance of the class at C, its dict at dx, its attributes -/
  | ins (C dx : Addr) (fs : List (Str × V))
  /-- the dict of the instance at x -/
  | own (x : Addr)
  /-- the dict of an exception -/
  | xd (fs : List (Str × V))
  /-- a bound method, f of x -/
  | met (f x : Addr)
  /-- a range object lo, lo + 1, .. below hi -/
  | rng (lo hi : Int)
  /-- a thing that is known to the object (the script; a dict while a loop walks it): read, never written while it is so -/
  | frz (o : Obj) (u : HO)
  /-- a code object's table -/
  | tbl (ps : Array Value)
  /-- any other thing, by what is true of its one object (a def of one's own: SetO a S n := HO.ext fun h => ..) -/
  | ext (φ : Heap → Prop)

abbrev Hp := Addr → Option HO
def upd (H : Hp) (a : Addr) (o : HO) : Hp := fun b => if b = a then some o else H b
theorem upd_same {H : Hp} {a : Addr} {o : HO} : upd H a o a = some o := by unfold upd; rw [if_pos rfl]
theorem upd_ne {H : Hp} {a b : Addr} {o : HO} (h : b ≠ a) : upd H a o b = H b := by unfold upd; rw [if_neg h]
theorem ne_of {H : Hp} {a b : Addr} {o u : HO} (h : H a = some o) (h' : H b = some u) (d : o ≠ u) : a ≠ b := by
  intro e; subst e; rw [h] at h'; exact d (Option.some.inj h')
theorem ne_of_none {H : Hp} {a b : Addr} {o : HO} (h : H a = some o) (h' : H b = none) : a ≠ b := by
  intro e; subst e; rw [h] at h'; cases h'

section
variable (P : Program) (w : World)
def ObjOk (H : Hp) (h : Heap) (a : Addr) : HO → Prop
  | .lst xs => xs.length ≤ sizeLine ∧ ∃ (its : List Value) (n : Nat), Vals xs its ∧ h.get? a = some { cls := .type "list", data := .seq its.toArray n }
  | .tup xs => xs.length ≤ sizeLine ∧ ∃ its : List Value, Vals xs its ∧ IsTup h a its.toArray
  | .dK kvs => kvs.length ≤ sizeLine ∧ (a == sysModules) = false ∧ ∃ vs, KV kvs vs ∧ h.DictOf (mixKind P w) a vs
  | .dT kvs => kvs.length ≤ sizeLine ∧ (a == sysModules) = false ∧ ∃ xs : List (List Key × Addr × Value),
      Paired (fun (p : List Key × V) (q : List Key × Addr × Value) => p.1 = q.1 ∧ H q.2.1 = some (.tup (p.1.map kV)) ∧ RelV p.2 q.2.2) kvs xs ∧
      ∃ o es ep, h.get? a = some o ∧ o.ExactDict ∧ o.data = .dict es ep ∧ es.toList = xs.map (entryOfKey (tupleKind (mixKind P w))) ∧ (xs.map (·.1)).Nodup
  | .set S n => h.SetOf (intKind P w) a S n
  | .ins C dx fs => H dx = some (.own a) ∧ fs.length ≤ 1000 ∧ dx ≠ a ∧ h.get? a = some (PySem.W.instObj C dx) ∧
      ∃ mA, h.Ns1 dx mA ∧ (∀ f, RelO (fs.lookup f) (mA f)) ∧ PySem.Within mA (fs.map (·.1))
  | .own _ => ∃ o, h.get? a = some o
  | .xd fs => ∃ mA, h.Ns1 a mA ∧ ∀ f, RelO (fs.lookup f) (mA f)
  | .rng lo hi => ∃ t u v, h.get? a = some { cls := .type "range", data := .fields #[.int lo t, .int hi u, .int 1 v] }
  | .frz o u => h.get? a = some o ∧ ObjOk H h a u
  | .tbl ps => h.get? a = some { cls := .none, data := .fields ps }
  | .met f x => h.get? a = some (PySem.W.methodObj (.ref f) (.ref x))
  | .ext φ => φ h ∧ (∃ o, h.get? a = some o) ∧ ∀ h1 h2 : Heap, φ h1 → (∀ o, h1.get? a = some o → h2.get? a = some o) → φ h2
def HOk (H : Hp) (h : Heap) : Prop := ∀ a o, H a = some o → ObjOk P w H h a o
end

section
variable {P : Program} {w : World} {H H' : Hp} {h h' : Heap} {a : Addr} {o : HO}
theorem ObjOk.lt (x : ObjOk P w H h a o) : a < h.objs.size := by
  cases o with
  | lst xs => obtain ⟨_, _, _, _, e⟩ := x; exact Heap.lt_size e
  | tup xs => obtain ⟨_, _, _, p⟩ := x; exact p.lt
  | dK kvs => obtain ⟨_, _, _, _, o, _, _, e, _⟩ := x; exact Heap.lt_size e
  | dT kvs => obtain ⟨_, _, _, _, o, _, _, e, _⟩ := x; exact Heap.lt_size e
  | set S n => obtain ⟨o, _, _, _, e, _⟩ := x; exact Heap.lt_size e
  | ins C dx fs => obtain ⟨_, _, _, e, _⟩ := x; exact Heap.lt_size e
  | own y => obtain ⟨_, e⟩ := x; exact Heap.lt_size e
  | xd fs => obtain ⟨_, ⟨_, _, _, e, _⟩, _⟩ := x; exact Heap.lt_size e
  | rng lo hi => obtain ⟨_, _, _, e⟩ := x; exact Heap.lt_size e
  | frz ob u => obtain ⟨e, _⟩ := x; exact Heap.lt_size e
  | tbl ps => exact Heap.lt_size (show h.get? a = some _ from x)
  | met f y => exact Heap.lt_size (show h.get? a = some _ from x)
  | ext φ => obtain ⟨_, ⟨_, e⟩, _⟩ := x; exact Heap.lt_size e
theorem Paired.mapP {α β : Type} {F G : α → β → Prop} : ∀ {l₁ : List α} {l₂ : List β}, Paired F l₁ l₂ → (∀ a b, F a b → G a b) → Paired G l₁ l₂
  | _, _, .nil, _ => .nil
  | _, _, .cons r t, f => .cons (f _ _ r) (Paired.mapP t f)
theorem ObjOk.stay (x : ObjOk P w H h a o) (k : ∀ b u, (b = a ∨ H b = some (.own a)) → h.get? b = some u → h'.get? b = some u)
    (ho : ∀ b, H b = some (.own a) → H' b = some (.own a)) (ht : ∀ b xs, H b = some (.tup xs) → H' b = some (.tup xs)) : ObjOk P w H' h' a o := by
  induction o with
  | lst xs => obtain ⟨z, its, n, r, e⟩ := x; exact ⟨z, its, n, r, k _ _ (.inl rfl) e⟩
  | tup xs => obtain ⟨z, its, r, ob, e, c⟩ := x; exact ⟨z, its, r, ob, k _ _ (.inl rfl) e, c⟩
  | dK kvs => obtain ⟨z, y, vs, r, ob, es, ep, e, c⟩ := x; exact ⟨z, y, vs, r, ob, es, ep, k _ _ (.inl rfl) e, c⟩
  | dT kvs =>
    obtain ⟨z, y, xs, r, ob, es, ep, e, c⟩ := x
    exact ⟨z, y, xs, Paired.mapP r fun p q z => ⟨z.1, ht _ _ z.2.1, z.2.2⟩, ob, es, ep, k _ _ (.inl rfl) e, c⟩
  | set S n => obtain ⟨ob, es, ep, t, e, c⟩ := x; exact ⟨ob, es, ep, t, k _ _ (.inl rfl) e, c⟩
  | ins C dx fs =>
    obtain ⟨d, z, ne, e, mA, ⟨od, es, ep, e2, c⟩, r⟩ := x
    exact ⟨ho _ d, z, ne, k _ _ (.inl rfl) e, mA, ⟨od, es, ep, k _ _ (.inr d) e2, c⟩, r⟩
  | own y => obtain ⟨ob, e⟩ := x; exact ⟨ob, k _ _ (.inl rfl) e⟩
  | xd fs => obtain ⟨mA, ⟨od, es, ep, e, c⟩, r⟩ := x; exact ⟨mA, ⟨od, es, ep, k _ _ (.inl rfl) e, c⟩, r⟩
  | rng lo hi => obtain ⟨t, u, v, e⟩ := x; exact ⟨t, u, v, k _ _ (.inl rfl) e⟩
  | frz ob u ih => obtain ⟨e, q⟩ := x; exact ⟨k _ _ (.inl rfl) e, ih q⟩
  | tbl ps =>
    have e : h.get? a = some { cls := .none, data := .fields ps } := x
    show h'.get? a = some { cls := .none, data := .fields ps }
    exact k a _ (.inl rfl) e
  | met f y =>
    have e : h.get? a = some (PySem.W.methodObj (.ref f) (.ref y)) := x
    show h'.get? a = some (PySem.W.methodObj (.ref f) (.ref y))
    exact k a _ (.inl rfl) e
  | ext φ => obtain ⟨p, ⟨o, e⟩, st⟩ := x; exact ⟨st _ _ p fun o q => k _ _ (.inl rfl) q, ⟨o, k _ _ (.inl rfl) e⟩, st⟩
theorem HOk.lt (x : HOk P w H h) (e : H a = some o) : a < h.objs.size := (x a o e).lt
theorem HOk.fresh (x : HOk P w H h) (e : h.objs.size ≤ a) : H a = none := by
  cases q : H a with
  | none => rfl
  | some u => exact absurd (Nat.lt_of_lt_of_le (x.lt q) e) (Nat.lt_irrefl _)
theorem HOk.kept (x : HOk P w H h) (k : ∀ b u, h.get? b = some u → h'.get? b = some u) : HOk P w H h' := fun a o e =>
  (x a o e).stay (fun b u _ q => k b u q) (fun _ q => q) fun _ _ q => q
theorem HOk.laid (x : HOk P w H h) (k : ∀ b u, h.get? b = some u → h'.get? b = some u) (hp : h.objs.size ≤ a) (new : ObjOk P w (upd H a o) h' a o) : HOk P w (upd H a o) h' := fun b u e => by
  have hn := x.fresh hp
  by_cases hb : b = a
  · subst hb; rw [upd_same] at e; cases e; exact new
  · rw [upd_ne hb] at e
    exact (x b u e).stay (fun c v _ q => k c v q) (fun c q => by rw [upd_ne (ne_of_none q hn)]; exact q) fun c xs q => by rw [upd_ne (ne_of_none q hn)]; exact q
end

def Rd (H : Hp) (a : Addr) (u : HO) : Prop := H a = some u ∨ ∃ o, H a = some (.frz o u)
theorem Rd.of {H : Hp} {a : Addr} {u : HO} (h : H a = some u) : Rd H a u := .inl h
theorem Rd.ok {P : Program} {w : World} {H : Hp} {h : Heap} {a : Addr} {u : HO} (r : Rd H a u) (x : HOk P w H h) : ObjOk P w H h a u := by
  rcases r with r | ⟨o, r⟩
  · exact x a u r
  · obtain ⟨_, q⟩ := x a _ r
    exact q
def Mut : Option HO → Prop
  | some (.lst _) => True
  | some (.dK _) => True
  | some (.dT _) => True
  | some (.set _ _) => True
  | some (.ins _ _ _) => True
  | some (.ext _) => True
  | _ => False
section
variable {P : Program} {w : World} {H : Hp} {h h' : Heap} {x e : Addr} {o' : HO}
theorem HOk.write (ok : HOk P w H h) (mu : Mut (H x)) (he : e = x ∨ H e = some (.own x)) (k : ∀ b u, b ≠ e → h.get? b = some u → h'.get? b = some u) (heo : ∃ u, h'.get? e = some u)
    (new : ObjOk P w (upd H x o') h' x o') : HOk P w (upd H x o') h' := fun b u q => by
  have nown : ∀ c y, H c = some (.own y) → c ≠ x := fun c y r z => by subst z; rw [r] at mu; exact mu
  have ntup : ∀ c xs, H c = some (.tup xs) → c ≠ x := fun c xs r z => by subst z; rw [r] at mu; exact mu
  by_cases hb : b = x
  · subst hb; rw [upd_same] at q; cases q; exact new
  · rw [upd_ne hb] at q
    by_cases hbe : b = e
    · have q' : H b = some (.own x) := by
        rcases he with z | z
        · exact absurd (hbe.trans z) hb
        · rw [hbe]; exact z
      rw [q] at q'; cases q'
      obtain ⟨v, hv⟩ := heo
      exact ⟨v, by rw [hbe]; exact hv⟩
    · refine (ok b u q).stay (fun c v hc r => k c v ?_ r) (fun c r => by rw [upd_ne (nown c b r)]; exact r) fun c xs r => by rw [upd_ne (ntup c xs r)]; exact r
      rcases hc with rfl | hc
      · exact hbe
      · rintro rfl
        rcases he with z | z
        · exact nown c b hc z
        · rw [hc] at z; cases z; exact hb rfl
end

/-! ### kept unless tracked; of the frames at fs (the callers') the slots may change (an exception that passes writes there); of the records at ex (iterators) nothing is said -/
structure Un (fs ex : List Addr) (H H' : Hp) (h h' : Heap) : Prop where
  keep : ∀ b o, h.get? b = some o → H b = none → b ∉ fs → b ∉ ex → h'.get? b = some o
  slot : ∀ b o, h.get? b = some o → H b = none → b ∈ fs → b ∉ ex → ∃ sl, h'.get? b = some { o with slots := sl }
  free : ∀ b o, h.get? b = some o → H b = none → b ∉ ex → H' b = none
  there : ∀ b o, h.get? b = some o → b ∉ ex → ∃ o', h'.get? b = some o'
  tups : ∀ b xs, H b = some (.tup xs) → H' b = some (.tup xs)
  frzs : ∀ b o u, H b = some (.frz o u) → H' b = some (.frz o u)
  tbls : ∀ b ps, H b = some (.tbl ps) → ∃ more, H' b = some (.tbl (ps ++ more))
section
variable {fs fs' ex ex' : List Addr} {H H1 H2 : Hp} {h h1 h2 h' : Heap} {a x e : Addr} {o : HO}
theorem Un.any (u : Un fs ex H H1 h h1) {b : Addr} {ob : Obj} (q : h.get? b = some ob) (n : H b = none) (hx : b ∉ ex) : ∃ sl, h1.get? b = some { ob with slots := sl } := by
  by_cases hb : b ∈ fs
  · exact u.slot b ob q n hb hx
  · exact ⟨ob.slots, u.keep b ob q n hb hx⟩
theorem Un.trans (a : Un fs ex H H1 h h1) (b : Un fs ex H1 H2 h1 h2) : Un fs ex H H2 h h2 where
  keep := fun c ob q n hc hx => b.keep c ob (a.keep c ob q n hc hx) (a.free c ob q n hx) hc hx
  slot := fun c ob q n hc hx => by
    obtain ⟨sl, e1⟩ := a.slot c ob q n hc hx
    obtain ⟨sl', e2⟩ := b.slot c _ e1 (a.free c ob q n hx) hc hx
    exact ⟨sl', e2⟩
  free := fun c ob q n hx => by
    obtain ⟨o', e1⟩ := a.there c ob q hx
    exact b.free c o' e1 (a.free c ob q n hx) hx
  there := fun c ob q hx => by
    obtain ⟨o', e1⟩ := a.there c ob q hx
    exact b.there c o' e1 hx
  tups := fun c xs q => b.tups c xs (a.tups c xs q)
  frzs := fun c ob xs q => b.frzs c ob xs (a.frzs c ob xs q)
  tbls := fun c ps q => by
    obtain ⟨m1, e1⟩ := a.tbls c ps q
    obtain ⟨m2, e2⟩ := b.tbls c _ e1
    exact ⟨m1 ++ m2, by rw [e2, Array.append_assoc]⟩
theorem Un.kept (k : ∀ b u, h.get? b = some u → h'.get? b = some u) : Un fs ex H H h h' :=
  ⟨fun b ob q _ _ _ => k b ob q, fun b ob q _ _ _ => ⟨ob.slots, k b ob q⟩, fun _ _ _ n _ => n, fun b ob q _ => ⟨ob, k b ob q⟩, fun _ _ q => q, fun _ _ _ q => q, fun _ ps q => ⟨#[], by rw [q]; simp⟩⟩
theorem Un.refl : Un fs ex H H h h := Un.kept fun _ _ q => q
theorem Un.laid (k : ∀ b u, h.get? b = some u → h'.get? b = some u) (hp : h.objs.size ≤ a) (hn : H a = none) : Un fs ex H (upd H a o) h h' where
  keep := fun b u q _ _ _ => k b u q
  slot := fun b u q _ _ _ => ⟨u.slots, k b u q⟩
  free := fun b u q n _ => by rw [upd_ne (Nat.ne_of_lt (Nat.lt_of_lt_of_le (Heap.lt_size q) hp))]; exact n
  there := fun b u q _ => ⟨u, k b u q⟩
  tups := fun b xs q => by rw [upd_ne (ne_of_none q hn)]; exact q
  frzs := fun b u xs q => by rw [upd_ne (ne_of_none q hn)]; exact q
  tbls := fun b ps q => ⟨#[], by rw [upd_ne (ne_of_none q hn), q]; simp⟩
theorem Un.write (mu : Mut (H x)) (he : e = x ∨ H e = some (.own x)) (k : ∀ b u, b ≠ e → h.get? b = some u → h'.get? b = some u) (heo : ∃ u, h'.get? e = some u) : Un fs ex H (upd H x o) h h' := by
  have hx : ∀ b, H b = none → b ≠ x := fun b n z => by subst z; rw [n] at mu; exact mu
  have hb : ∀ b, H b = none → b ≠ e := fun b n z => by
    subst z
    rcases he with r | r
    · exact hx b n r
    · rw [n] at r; cases r
  have hm : ∀ b u, H b = some u → ¬ Mut (some u) → b ≠ x := fun b u q nm z => by subst z; rw [q] at mu; exact nm mu
  refine ⟨fun b u q n _ _ => k b u (hb b n) q, fun b u q n _ _ => ⟨u.slots, k b u (hb b n) q⟩, fun b u q n _ => by rw [upd_ne (hx b n)]; exact n, fun b u q _ => ?_,
    fun b xs q => by rw [upd_ne (hm b _ q fun z => z)]; exact q, fun b u xs q => by rw [upd_ne (hm b _ q fun z => z)]; exact q, fun b ps q => ⟨#[], by rw [upd_ne (hm b _ q fun z => z), q]; simp⟩⟩
  by_cases hbe : b = e
  · subst hbe; exact heo
  · exact ⟨u, k b u hbe q⟩
theorem Un.mono (u : Un fs ex H H1 h h1) (hs : ∀ b ∈ fs, b ∈ fs') (hx : ∀ b ∈ ex, b ∈ ex') : Un fs' ex' H H1 h h1 :=
  ⟨fun b ob q n hb he => u.keep b ob q n (fun z => hb (hs b z)) fun z => he (hx b z), fun _ _ q n _ he => u.any q n fun z => he (hx _ z), fun b ob q n he => u.free b ob q n fun z => he (hx b z), fun b ob q he => u.there b ob q fun z => he (hx b z), u.tups, u.frzs, u.tbls⟩
end

/-! ### the heap without what is tracked -/
def trk (h : Heap) (H : Hp) : List Addr := (List.range h.objs.size).filter fun a => (H a).isSome
def hidT (h : Heap) (H : Hp) : Heap := PySem.W.hideAll h (trk h H)
theorem hidT_size (h : Heap) (H : Hp) : (hidT h H).objs.size = h.objs.size := PySem.W.hideAll_size _ _
theorem hidT_get {h : Heap} {H : Hp} {b : Addr} {o : Obj} (e : h.get? b = some o) (n : H b = none) : (hidT h H).get? b = some o :=
  PySem.W.hideAll_get _ e fun hm => by
    have q : (H b).isSome = true := (List.mem_filter.mp hm).2
    rw [n] at q; simp at q
theorem of_hidT {h : Heap} {H : Hp} {b : Addr} {o : Obj} (e : (hidT h H).get? b = some o) : h.get? b = some o ∧ H b = none := by
  have e' : h.get? b = some o := PySem.W.of_hideAll (trk h H) e
  refine ⟨e', ?_⟩
  cases q : H b with
  | none => rfl
  | some x =>
    have hm : b ∈ trk h H := List.mem_filter.mpr ⟨List.mem_range.mpr (Heap.lt_size e'), by simp [q]⟩
    have z : (hidT h H).get? b = none := PySem.W.hideAll_none (trk h H) hm
    rw [z] at e; cases e

/-! ### OpenK's ledger, filled with every new object but one -/
def allNews (g h : Heap) (L : Addr) : List (Addr × Obj) := (List.range h.objs.size).filterMap fun a => if a = L ∨ (g.get? a).isSome = true then none else (h.get? a).map fun o => (a, o)
def rest (g h : Heap) (L d : Addr) : List (Addr × Obj) := (allNews g h L).filter fun p => decide (p.1 ≠ d)
end L2

namespace L2
open PySem PySem.Spec PyProof.Rows

structure Mod (K : PySem.W.Frag) (mg : Str → Option Value) (base : Heap) : Prop where
  kin : K.In base
  glob : base.Ns mainGlobals mg
  blt : ∃ mb, base.Ns builtinsNs mb ∧ ∀ x : Str, x ≠ "__name__" → mb x = bootBuiltins x
  nolimit : base.NoLimit

structure Cx where
  prog : Program
  w : World
  K : PySem.W.Frag
  mg : Str → Option Value
  base : Heap
  A : Around
  N : List Str
  s₀ : Shared
  H₀ : Hp
  env : Env
  outer : List Env
  stack : List Env
  ex : List Addr
  fn : Str → Bool
  calm : Bool
  pn : List (Addr × Obj)
  xe : Value → Shared → Prop
def frs (l : List Env) : List Addr := l.filterMap (·.frame)
abbrev Cx.fs (X : Cx) : List Addr := frs X.outer

def Vis (sc : Scope) (x : Str) : Prop := sc.names.lookup x = some .local ∨ sc.names.lookup x = some .cell ∨ sc.names.lookup x = some .free
def Loc (sc : Scope) (x : Str) : Prop := sc.names.lookup x = some .local ∨ sc.names.lookup x = some .cell
def Look (env : Env) (h : Heap) (m : Str → Option Value) (x : Str) (u : Value) : Prop :=
  (env.kindOf x = some .local ∧ m x = some u) ∨ ((env.kindOf x = some .cell ∨ env.kindOf x = some .free) ∧ ∃ c, env.cells.lookup x = some c ∧ h.IsCell c (some u))

structure Cx.Ok (X : Cx) : Prop where
  mod : Mod X.K X.mg X.base
  kind : X.env.scope.kind = .function
  glob : X.env.globals = mainGlobals
  blt : X.env.builtins = builtinsNs
  above : X.s₀.heap.objs.size ≤ X.env.locals
  inj : ∀ x y c, X.env.cells.lookup x = some c → X.env.cells.lookup y = some c → x = y
  has : ∀ x, (X.env.kindOf x = some .cell ∨ X.env.kindOf x = some .free) → ∃ c, X.env.cells.lookup x = some c
  cab : ∀ x c, X.fn x = true → X.env.cells.lookup x = some c → X.s₀.heap.objs.size ≤ c
  hd : X.calm = true → X.A.handled = none
  frames : X.A.frames = some X.stack
  stk : X.stack = X.outer ∨ (X.stack = X.env :: X.outer ∧ X.env.frame = some X.env.locals)
  exf : ∀ b ∈ X.ex, b ≠ X.env.locals ∧ ∀ x c, X.env.cells.lookup x = some c → c ≠ b
  bs : ∀ b o, X.base.get? b = some o → X.s₀.heap.get? b = some o ∧ X.H₀ b = none
  bsz : X.base.objs.size ≤ X.s₀.heap.objs.size
  noex : ∀ b o, X.base.get? b = some o → b ∉ X.ex
  exfs : ∀ b ∈ X.ex, b ∉ X.fs
  funs : X.s₀.heap.FunFrames X.base X.outer
  frf : ∀ b ∈ X.fs, X.H₀ b = none

structure Inv (X : Cx) (pins : List (Addr × Obj)) (σ : List (Option V)) (H : Hp) (s : Shared) : Prop where
  ok : X.Ok
  os : s.os = X.s₀.os
  bare : AllBare s.gens
  base : Un X.fs X.ex X.H₀ H X.s₀.heap s.heap
  loc : ∃ m, s.heap.Ns X.env.locals m ∧ ∀ (i : Nat) (x : Str) (v : V), X.N[i]? = some x → σ[i]? = some (some v) → Vis X.env.scope x → ∃ u, RelV v u ∧ Look X.env s.heap m x u
  cell : ∀ x c, X.env.cells.lookup x = some c → ∃ v, s.heap.IsCell c v
  free : H X.env.locals = none
  freeC : ∀ x c, X.env.cells.lookup x = some c → H c = none
  pin : ∀ p ∈ X.pn ++ pins, s.heap.get? p.1 = some p.2 ∧ H p.1 = none ∧ p.1 ≠ X.env.locals ∧ p.1 ∉ X.fs ∧ ∀ v, p.2.data ≠ .cell v
  hok : HOk X.prog X.w H s.heap
  len : σ.length = X.N.length

section
variable {X : Cx} {pins : List (Addr × Obj)} {σ : List (Option V)} {H H' : Hp} {s : Shared} {h' : Heap}

theorem Cx.Ok.nofr (ok : X.Ok) {b : Addr} {o : Obj} (e : X.base.get? b = some o) : b ∉ X.fs := fun hb => by
  have := (ok.funs.mem hb).1
  rw [e] at this; cases this
theorem Inv.bs (I : Inv X pins σ H s) : ∀ b o, X.base.get? b = some o → s.heap.get? b = some o ∧ H b = none := fun b o e =>
  ⟨I.base.keep b o (I.ok.bs b o e).1 (I.ok.bs b o e).2 (I.ok.nofr e) (I.ok.noex b o e), I.base.free b o (I.ok.bs b o e).1 (I.ok.bs b o e).2 (I.ok.noex b o e)⟩
theorem Inv.bk (I : Inv X pins σ H s) : ∀ b o, X.base.get? b = some o → s.heap.get? b = some o := fun b o e => (I.bs b o e).1
theorem Inv.mod (I : Inv X pins σ H s) : Mod X.K X.mg X.base := I.ok.mod
theorem Inv.kIn (I : Inv X pins σ H s) : X.K.In s.heap := I.ok.mod.kin.keeps I.bk
theorem Inv.nolimit (I : Inv X pins σ H s) : s.heap.NoLimit := I.ok.mod.nolimit.keeps I.bk
theorem Inv.fr (I : Inv X pins σ H s) : ∃ m, Fr X.base X.env.locals s.heap m :=
  let ⟨m, hn, _⟩ := I.loc
  ⟨m, hn, I.bk, Nat.le_trans I.ok.bsz I.ok.above⟩
theorem Inv.lt (I : Inv X pins σ H s) : X.env.locals < s.heap.objs.size := let ⟨_, hn, _⟩ := I.loc; hn.lt
theorem Inv.sz (I : Inv X pins σ H s) : X.s₀.heap.objs.size ≤ s.heap.objs.size := Nat.le_trans I.ok.above (Nat.le_of_lt I.lt)
theorem Inv.nofs (I : Inv X pins σ H s) {a : Addr} (h : s.heap.objs.size ≤ a) : a ∉ X.fs := fun hb => by
  obtain ⟨_, o, ho, _⟩ := I.ok.funs.mem hb
  exact absurd (Nat.lt_of_lt_of_le (Heap.lt_size ho) (Nat.le_trans I.sz h)) (Nat.lt_irrefl _)
theorem Inv.cne (I : Inv X pins σ H s) : ∀ x c, X.env.cells.lookup x = some c → c ≠ X.env.locals := fun x c e z => by
  obtain ⟨v, o, ho, hd⟩ := I.cell x c e
  obtain ⟨m, ⟨o', es, ep, ho', hd', _⟩, _⟩ := I.loc
  rw [z, ho'] at ho; cases ho; rw [hd'] at hd; cases hd
theorem Inv.funs (I : Inv X pins σ H s) : s.heap.FunFrames X.base X.outer := by
  have all : ∀ (l : List Env), (∀ b ∈ frs l, b ∈ X.fs) → X.s₀.heap.FunFrames X.base l → s.heap.FunFrames X.base l := by
    intro l
    induction l with
    | nil => intro _ _; trivial
    | cons env r ih =>
      intro hs hl
      obtain ⟨hk, ⟨L, o, hf, hn, ho, hd⟩, hr⟩ := hl
      have hL : L ∈ X.fs := hs L (by unfold frs; rw [List.filterMap_cons, hf]; exact List.mem_cons_self)
      obtain ⟨sl, e⟩ := I.base.slot L o ho (I.ok.frf L hL) hL fun z => I.ok.exfs L z hL
      exact ⟨hk, ⟨L, _, hf, hn, e, hd⟩, ih (fun b hb => hs b (by unfold frs; rw [List.filterMap_cons, hf]; exact List.mem_cons_of_mem _ hb)) hr⟩
  exact all X.outer (fun _ hb => hb) I.ok.funs

theorem Inv.stack (I : Inv X pins σ H s) : s.heap.FunFrames X.base X.stack := by
  rcases I.ok.stk with e | ⟨e, hf⟩
  · rw [e]; exact I.funs
  · rw [e]
    obtain ⟨m, hn, _⟩ := I.loc
    refine .cons (by rw [I.ok.kind]; decide) hf hn ?_ I.funs
    exact Heap.get?_none_of_le (Nat.le_trans I.ok.bsz I.ok.above)
theorem Inv.stkSub (I : Inv X pins σ H s) : ∀ b ∈ frs X.stack, b ∈ X.env.locals :: X.fs := fun b hb => by
  rcases I.ok.stk with e | ⟨e, hf⟩
  · rw [e] at hb; exact List.mem_cons_of_mem _ hb
  · rw [e] at hb
    unfold frs at hb
    rw [List.filterMap_cons, hf] at hb
    exact hb
theorem Inv.stkFree (I : Inv X pins σ H s) : ∀ b ∈ frs X.stack, H b = none := fun b hb => by
  rcases List.mem_cons.mp (I.stkSub b hb) with e | hb
  · rw [e]; exact I.free
  · obtain ⟨_, o, ho, _⟩ := I.ok.funs.mem hb
    exact I.base.free b o ho (I.ok.frf b hb) fun z => I.ok.exfs b z hb

theorem Inv.step {g' : Array GenState} {t' : Nat} {d' : Drawn} {ch : List Addr} (I : Inv X pins σ H s)
    (hch : ∀ b ∈ ch, (b ∈ X.ex ∨ X.s₀.heap.objs.size ≤ b) ∧ b ≠ X.env.locals ∧ (∀ x c, X.env.cells.lookup x = some c → c ≠ b) ∧ ∀ p ∈ X.pn ++ pins, p.1 ≠ b)
    (keep : ∀ b o, b ≠ X.env.locals → b ∉ X.fs → b ∉ ch → s.heap.get? b = some o → H b = none → h'.get? b = some o)
    (slot : ∀ b o, b ≠ X.env.locals → b ∈ X.fs → b ∉ ch → s.heap.get? b = some o → H b = none → ∃ sl, h'.get? b = some { o with slots := sl }) (free : ∀ b o, b ∉ ch → s.heap.get? b = some o → H b = none → H' b = none)
    (there : ∀ b o, b ∉ ch → s.heap.get? b = some o → ∃ o', h'.get? b = some o')
    (tups : ∀ b xs, H b = some (.tup xs) → H' b = some (.tup xs)) (frzs : ∀ b o u, H b = some (.frz o u) → H' b = some (.frz o u)) (tbls : ∀ b ps, H b = some (.tbl ps) → ∃ more, H' b = some (.tbl (ps ++ more)))
    (ns : ∀ m, s.heap.Ns X.env.locals m → h'.Ns X.env.locals m) (hok : HOk X.prog X.w H' h') (hg : AllBare g') :
    Inv X pins σ H' { s with heap := h', gens := g', drawn := d', toks := t' } := by
  have neL : ∀ b o, X.s₀.heap.get? b = some o → b ≠ X.env.locals := fun b o e => Nat.ne_of_lt (Nat.lt_of_lt_of_le (Heap.lt_size e) I.ok.above)
  have neC : ∀ b o, X.s₀.heap.get? b = some o → b ∉ X.ex → b ∉ ch := fun b o e hx hb => by
    rcases (hch b hb).1 with z | z
    · exact hx z
    · exact absurd (Nat.lt_of_lt_of_le (Heap.lt_size e) z) (Nat.lt_irrefl _)
  have cellK : ∀ x c, X.env.cells.lookup x = some c → ∀ v, s.heap.IsCell c v → h'.IsCell c v := fun x c e v ⟨o, ho, hd⟩ => by
    have nch : c ∉ ch := fun z => (hch c z).2.2.1 x c e rfl
    by_cases hc : c ∈ X.fs
    · obtain ⟨sl, q⟩ := slot c o (I.cne x c e) hc nch ho (I.freeC x c e)
      exact ⟨_, q, hd⟩
    · exact ⟨o, keep c o (I.cne x c e) hc nch ho (I.freeC x c e), hd⟩
  refine ⟨I.ok, I.os, hg, ⟨fun b o e n hb hx => ?_, fun b o e n hb hx => ?_, fun b o e n hx => ?_, fun b o e hx => ?_, fun b xs e => tups b xs (I.base.tups b xs e), fun b o xs e => frzs b o xs (I.base.frzs b o xs e), fun b ps e => ?_⟩, ?_, fun x c e => ?_, ?_, fun x c e => ?_, fun p hp => ?_, hok, I.len⟩
  · exact keep b o (neL b o e) hb (neC b o e hx) (I.base.keep b o e n hb hx) (I.base.free b o e n hx)
  · obtain ⟨sl, e1⟩ := I.base.slot b o e n hb hx
    obtain ⟨sl', e2⟩ := slot b _ (neL b o e) hb (neC b o e hx) e1 (I.base.free b o e n hx)
    exact ⟨sl', e2⟩
  · obtain ⟨o', e1⟩ := I.base.there b o e hx
    exact free b o' (neC b o e hx) e1 (I.base.free b o e n hx)
  · obtain ⟨o', e1⟩ := I.base.there b o e hx
    exact there b o' (neC b o e hx) e1
  · obtain ⟨m1, e1⟩ := I.base.tbls b ps e
    obtain ⟨m2, e2⟩ := tbls b _ e1
    exact ⟨m1 ++ m2, by rw [e2, Array.append_assoc]⟩
  · obtain ⟨m, hn, hl⟩ := I.loc
    refine ⟨m, ns m hn, fun i x v e1 e2 e3 => ?_⟩
    obtain ⟨u, r, l⟩ := hl i x v e1 e2 e3
    refine ⟨u, r, ?_⟩
    rcases l with l | ⟨k, c, e, z⟩
    · exact .inl l
    · exact .inr ⟨k, c, e, cellK x c e _ z⟩
  · obtain ⟨v, z⟩ := I.cell x c e
    exact ⟨v, cellK x c e v z⟩
  · obtain ⟨m, ⟨o, _, _, ho, _⟩, _⟩ := I.loc
    exact free _ o (fun z => (hch _ z).2.1 rfl) ho I.free
  · obtain ⟨v, o, ho, hd⟩ := I.cell x c e
    exact free c o (fun z => (hch c z).2.2.1 x c e rfl) ho (I.freeC x c e)
  · obtain ⟨e, n, ne, nf, d⟩ := I.pin p hp
    have nch : p.1 ∉ ch := fun z => (hch p.1 z).2.2.2 p hp rfl
    exact ⟨keep p.1 p.2 ne nf nch e n, free p.1 p.2 nch e n, ne, nf, d⟩
theorem Inv.un {t' : Nat} (I : Inv X pins σ H s) (u : Un X.fs [] H H' s.heap h') (hok : HOk X.prog X.w H' h') : Inv X pins σ H' { s with heap := h', toks := t' } := by
  obtain ⟨m, ⟨o, es, ep, ho, r⟩, _⟩ := id I.loc
  obtain ⟨sl, hL⟩ := u.any ho I.free (by simp)
  exact I.step (g' := s.gens) (d' := s.drawn) (ch := []) (fun _ z => nomatch z) (fun b o _ hb _ e n => u.keep b o e n hb (by simp)) (fun b o _ hb _ e n => u.slot b o e n hb (by simp)) (fun b o _ e n => u.free b o e n (by simp)) (fun b o _ e => u.there b o e (by simp)) u.tups u.frzs u.tbls (fun m' hm => by
    obtain ⟨o', es', ep', ho', r'⟩ := hm
    rw [ho] at ho'; cases ho'
    exact ⟨_, es', ep', hL, r'⟩) hok I.bare
theorem Inv.call {g' : Array GenState} {t' : Nat} {d' : Drawn} {ch : List Addr} (I : Inv X pins σ H s) (u : Un (frs X.stack) ch H H' s.heap h') (hok : HOk X.prog X.w H' h') (hg : AllBare g')
    (hch : ∀ b ∈ ch, (b ∈ X.ex ∨ X.s₀.heap.objs.size ≤ b) ∧ b ≠ X.env.locals ∧ (∀ x c, X.env.cells.lookup x = some c → c ≠ b) ∧ ∀ p ∈ X.pn ++ pins, p.1 ≠ b) :
    Inv X pins σ H' { s with heap := h', gens := g', drawn := d', toks := t' } := by
  obtain ⟨m, ⟨o, es, ep, ho, r⟩, _⟩ := id I.loc
  obtain ⟨sl, hL⟩ := u.any ho I.free fun z => (hch _ z).2.1 rfl
  exact I.step (ch := ch) hch (fun b o hL hb hc e n => u.keep b o e n (fun z => (List.mem_cons.mp (I.stkSub b z)).elim hL hb) hc) (fun b o _ _ hc e n => u.any e n hc) (fun b o hc e n => u.free b o e n hc) (fun b o hc e => u.there b o e hc) u.tups u.frzs u.tbls (fun m' hm => by
    obtain ⟨o', es', ep', ho', r'⟩ := hm
    rw [ho] at ho'; cases ho'
    exact ⟨_, es', ep', hL, r'⟩) hok hg
theorem Inv.turned {t' : Nat} {it : Addr} (I : Inv X pins σ H s) (k : ∀ b o, b ≠ it → s.heap.get? b = some o → h'.get? b = some o) (hn : H it = none) (hL : it ≠ X.env.locals)
    (h1 : it ∈ X.ex ∨ X.s₀.heap.objs.size ≤ it) (h2 : ∀ x c, X.env.cells.lookup x = some c → c ≠ it) (h3 : ∀ p ∈ X.pn ++ pins, p.1 ≠ it) : Inv X pins σ H { s with heap := h', toks := t' } := by
  have nit : ∀ b u, H b = some u → b ≠ it := fun b u e z => by rw [z, hn] at e; cases e
  refine I.step (g' := s.gens) (d' := s.drawn) (ch := [it]) (fun b hb => ?_) (fun b o _ _ hc e _ => k b o (fun z => hc (by simp [z])) e) (fun b o _ _ hc e _ => ⟨o.slots, k b o (fun z => hc (by simp [z])) e⟩) (fun _ _ _ _ n => n)
    (fun b o hc e => ⟨o, k b o (fun z => hc (by simp [z])) e⟩) (fun _ _ e => e) (fun _ _ _ e => e) (fun b ps e => ⟨#[], by rw [e]; simp⟩) (fun m hm => ?_) (fun b u e => ?_) I.bare
  · have e : b = it := by simpa using hb
    subst e
    exact ⟨h1, hL, h2, h3⟩
  · obtain ⟨o, es, ep, ho, r⟩ := hm
    exact ⟨o, es, ep, k _ o (Ne.symm hL) ho, r⟩
  · refine (I.hok b u e).stay (fun c v hc q => k c v ?_ q) (fun _ q => q) fun _ _ q => q
    rcases hc with z | z
    · rw [z]; exact nit b u e
    · exact nit c _ z
theorem Inv.tok (I : Inv X pins σ H s) (t : Nat) : Inv X pins σ H { s with toks := t } := I.un (h' := s.heap) (t' := t) Un.refl I.hok
theorem Inv.kept {t' : Nat} (I : Inv X pins σ H s) (k : ∀ b u, s.heap.get? b = some u → h'.get? b = some u) : Inv X pins σ H { s with heap := h', toks := t' } := I.un (Un.kept k) (I.hok.kept k)
theorem Inv.laid {a : Addr} {o : HO} {t' : Nat} (I : Inv X pins σ H s) (k : ∀ b u, s.heap.get? b = some u → h'.get? b = some u) (hp : s.heap.objs.size ≤ a) (new : ObjOk X.prog X.w (upd H a o) h' a o) :
    Inv X pins σ (upd H a o) { s with heap := h', toks := t' } := I.un (Un.laid k hp (I.hok.fresh hp)) (I.hok.laid k hp new)
theorem Inv.write {x e : Addr} {o : HO} {t' : Nat} (I : Inv X pins σ H s) (mu : Mut (H x)) (he : e = x ∨ H e = some (.own x)) (k : ∀ b u, b ≠ e → s.heap.get? b = some u → h'.get? b = some u) (heo : ∃ u, h'.get? e = some u)
    (new : ObjOk X.prog X.w (upd H x o) h' x o) : Inv X pins σ (upd H x o) { s with heap := h', toks := t' } := I.un (Un.write mu he k heo) (I.hok.write mu he k heo new)
theorem Inv.weak {σ' : List (Option V)} (I : Inv X pins σ H s) (hl : σ'.length = σ.length) (w : ∀ (i : Nat) v, σ'[i]? = some (some v) → σ[i]? = some (some v)) : Inv X pins σ' H s :=
  ⟨I.ok, I.os, I.bare, I.base, let ⟨m, hn, hl'⟩ := I.loc; ⟨m, hn, fun i x v e1 e2 e3 => hl' i x v e1 (w i v e2) e3⟩, I.cell, I.free, I.freeC, I.pin, I.hok, hl.trans I.len⟩
theorem Inv.pins_of {pins' : List (Addr × Obj)} (I : Inv X pins σ H s) (h : ∀ p ∈ pins', s.heap.get? p.1 = some p.2 ∧ H p.1 = none ∧ p.1 ≠ X.env.locals ∧ p.1 ∉ X.fs ∧ ∀ v, p.2.data ≠ .cell v) : Inv X pins' σ H s :=
  ⟨I.ok, I.os, I.bare, I.base, I.loc, I.cell, I.free, I.freeC, fun p hp => (List.mem_append.mp hp).elim (fun z => I.pin p (List.mem_append_left _ z)) (h p), I.hok, I.len⟩

theorem nodup_ix {N : List Str} (hN : N.Nodup) {i j : Nat} {x : Str} (a : N[i]? = some x) (b : N[j]? = some x) : i = j := by
  obtain ⟨h1, e1⟩ := List.getElem?_eq_some_iff.mp a
  obtain ⟨h2, e2⟩ := List.getElem?_eq_some_iff.mp b
  exact (List.getElem_inj hN).mp (e1.trans e2.symm)

theorem store_ok2 {M : Model} {A : Around} {E : Value → Shared → Prop} {i : Nat} {x : Str} {v : V} {u : Value} {Q : Unit → Shared → Prop} (I : Inv X pins σ H s) (hN : X.N.Nodup) (hi : X.N[i]? = some x) (hx : Loc X.env.scope x) (r : RelV v u)
    (h : ∀ s', Inv X pins (σ.set i (some v)) H s' → (∃ a, Heap.SameBut a s.heap s'.heap ∧ (a = X.env.locals ∨ X.env.cells.lookup x = some a)) → Q () s') (hf : X.fn x = true ∨ X.env.scope.names.lookup x = some .local := by first | exact .inl rfl | exact .inr rfl | assumption) : wpAny M A (storeName X.env x u) Q E s := by
  obtain ⟨m, hn, hl⟩ := id I.loc
  have hcls : (X.env.scope.kind == .class || (X.env.scope.kind == .module && X.env.locals != X.env.globals)) = false := by rw [I.ok.kind]; rfl
  have hiσ : i < σ.length := by rw [I.len]; exact (List.getElem?_eq_some_iff.mp hi).1
  have cne := I.cne
  have tracked : ∀ {a : Addr} {h' : Heap}, (∃ o, s.heap.get? a = some o ∧ H a = none) → Heap.SameBut a s.heap h' → HOk X.prog X.w H h' := fun {a h'} ha hs b ob e => by
    obtain ⟨_, _, hfree⟩ := ha
    refine (I.hok b ob e).stay (fun c w' hc q => (hs.2 c ?_).trans q) (fun _ q => q) fun _ _ q => q
    rintro rfl
    rcases hc with rfl | hc
    · rw [hfree] at e; cases e
    · rw [hfree] at hc; cases hc
  rcases hx with hk | hk
  · refine wpAny_storeName_local hk hn (fun h' hn' hs => ?_) hcls
    obtain ⟨oL, _, _, hoL, _⟩ := id hn
    refine h _ ⟨I.ok, I.os, I.bare, ⟨fun b o e n hb hx => ?_, fun b o e n hb hx => ?_, I.base.free, fun b o e hx => ?_, I.base.tups, I.base.frzs, I.base.tbls⟩, ⟨_, hn', fun j y v' e1 e2 e3 => ?_⟩, fun y c e => ?_, I.free, I.freeC, fun p hp => ?_, tracked ⟨oL, hoL, I.free⟩ hs, by simpa using I.len⟩ ⟨_, hs, .inl rfl⟩
    · exact (hs.2 b (Nat.ne_of_lt (Nat.lt_of_lt_of_le (Heap.lt_size e) I.ok.above))).trans (I.base.keep b o e n hb hx)
    · obtain ⟨sl, e1⟩ := I.base.slot b o e n hb hx
      exact ⟨sl, (hs.2 b (Nat.ne_of_lt (Nat.lt_of_lt_of_le (Heap.lt_size e) I.ok.above))).trans e1⟩
    · obtain ⟨o', e1⟩ := I.base.there b o e hx
      exact ⟨o', (hs.2 b (Nat.ne_of_lt (Nat.lt_of_lt_of_le (Heap.lt_size e) I.ok.above))).trans e1⟩
    · by_cases hj : j = i
      · subst hj
        rw [hi] at e1; cases e1
        rw [List.getElem?_set_self hiσ] at e2
        cases e2
        exact ⟨u, r, .inl ⟨hk, by simp⟩⟩
      · rw [List.getElem?_set_ne (Ne.symm hj)] at e2
        obtain ⟨u', r', q⟩ := hl j y v' e1 e2 e3
        refine ⟨u', r', ?_⟩
        rcases q with ⟨k, e⟩ | ⟨k, c, e, z⟩
        · refine .inl ⟨k, ?_⟩
          have : y ≠ x := fun e => hj (nodup_ix hN e1 (e ▸ hi))
          simp [this, e]
        · exact .inr ⟨k, c, e, z.sameBut hs (cne y c e)⟩
    · obtain ⟨w', z⟩ := I.cell y c e
      exact ⟨w', z.sameBut hs (cne y c e)⟩
    · obtain ⟨e, n, ne, nf, d⟩ := I.pin p hp
      exact ⟨(hs.2 p.1 ne).trans e, n, ne, nf, d⟩
  · have hfn : X.fn x = true := by
      rcases hf with z | z
      · exact z
      · rw [z] at hk; cases hk
    obtain ⟨c, hc⟩ := I.ok.has x (.inl hk)
    obtain ⟨w', z⟩ := I.cell x c hc
    refine wpAny_storeName_cell I.ok.kind hk hc z (fun h' hc' hs => ?_)
    obtain ⟨oc, hoc, hocd⟩ := id z
    refine h { s with heap := h' } ⟨I.ok, I.os, I.bare, ⟨fun b o e n hb hx => ?_, fun b o e n hb hx => ?_, I.base.free, fun b o e hx => ?_, I.base.tups, I.base.frzs, I.base.tbls⟩, ⟨m, hn.sameBut hs (Ne.symm (cne x c hc)), fun j y v' e1 e2 e3 => ?_⟩, fun y c' e => ?_, I.free, I.freeC, fun p hp => ?_, tracked ⟨oc, hoc, I.freeC x c hc⟩ hs, by simpa using I.len⟩ ⟨c, hs, .inr hc⟩
    · exact (hs.2 b (Nat.ne_of_lt (Nat.lt_of_lt_of_le (Heap.lt_size e) (I.ok.cab x c hfn hc)))).trans (I.base.keep b o e n hb hx)
    · obtain ⟨sl, e1⟩ := I.base.slot b o e n hb hx
      exact ⟨sl, (hs.2 b (Nat.ne_of_lt (Nat.lt_of_lt_of_le (Heap.lt_size e) (I.ok.cab x c hfn hc)))).trans e1⟩
    · obtain ⟨o', e1⟩ := I.base.there b o e hx
      exact ⟨o', (hs.2 b (Nat.ne_of_lt (Nat.lt_of_lt_of_le (Heap.lt_size e) (I.ok.cab x c hfn hc)))).trans e1⟩
    · by_cases hj : j = i
      · subst hj
        rw [hi] at e1; cases e1
        rw [List.getElem?_set_self hiσ] at e2
        cases e2
        exact ⟨u, r, .inr ⟨.inl hk, c, hc, hc'⟩⟩
      · rw [List.getElem?_set_ne (Ne.symm hj)] at e2
        obtain ⟨u', r', q⟩ := hl j y v' e1 e2 e3
        refine ⟨u', r', ?_⟩
        rcases q with q | ⟨k, c', e, z'⟩
        · exact .inl q
        · refine .inr ⟨k, c', e, z'.sameBut hs ?_⟩
          rintro rfl
          exact hj (nodup_ix hN e1 (I.ok.inj _ _ _ e hc ▸ hi))
    · by_cases hcc : c' = c
      · subst hcc; exact ⟨_, hc'⟩
      · obtain ⟨w2, z2⟩ := I.cell y c' e
        exact ⟨w2, z2.sameBut hs hcc⟩
    · obtain ⟨e, n, ne, nf, d⟩ := I.pin p hp
      refine ⟨(hs.2 p.1 ?_).trans e, n, ne, nf, d⟩
      intro q
      rw [q, hoc] at e
      have q' : oc = p.2 := Option.some.inj e
      exact d w' (by rw [← q']; exact hocd)
theorem store_ok {M : Model} {A : Around} {E : Value → Shared → Prop} {i : Nat} {x : Str} {v : V} {u : Value} {Q : Unit → Shared → Prop} (I : Inv X pins σ H s) (hN : X.N.Nodup) (hi : X.N[i]? = some x) (hx : Loc X.env.scope x) (r : RelV v u)
    (h : ∀ s', Inv X pins (σ.set i (some v)) H s' → Q () s') (hf : X.fn x = true ∨ X.env.scope.names.lookup x = some .local := by first | exact .inl rfl | exact .inr rfl | assumption) : wpAny M A (storeName X.env x u) Q E s :=
  store_ok2 I hN hi hx r (fun s' I' _ => h s' I') hf
theorem Inv.call' {s' : Shared} {ch : List Addr} (I : Inv X pins σ H s) (ho : s'.os = s.os) (u : Un (frs X.stack) ch H H' s.heap s'.heap) (hok : HOk X.prog X.w H' s'.heap) (hg : AllBare s'.gens)
    (hch : ∀ b ∈ ch, (b ∈ X.ex ∨ X.s₀.heap.objs.size ≤ b) ∧ b ≠ X.env.locals ∧ (∀ x c, X.env.cells.lookup x = some c → c ≠ b) ∧ ∀ p ∈ X.pn ++ pins, p.1 ≠ b) : Inv X pins σ H' s' := by
  obtain ⟨h', g', d', t', o'⟩ := s'
  have e : o' = s.os := ho
  subst e
  exact I.call (g' := g') (t' := t') (d' := d') u hok hg hch
end

/-! ### the judgements -/
abbrev XK := Value → Option Addr → Hp → Prop
abbrev St := List (Option V)
abbrev VK := V → Hp → Prop
abbrev TE := St → Hp → VK → Prop
abbrev TT := St → Hp → (Bool → Hp → Prop) → Prop
abbrev TA := St → Hp → (List V → Hp → Prop) → Prop
structure Ends where
  nx : St → Hp → Prop
  rt : VK
  bk : St → Hp → Prop := fun _ _ => False
  ct : St → Hp → Prop := fun _ _ => False
abbrev TS := Ends → St → Hp → Prop

def EP (X : Cx) (pins : List (Addr × Obj)) (σ : St) (Q : VK) (u : Value) (s' : Shared) : Prop := ∃ v H', Inv X pins σ H' s' ∧ RelV v u ∧ Q v H'
def TP (X : Cx) (pins : List (Addr × Obj)) (σ : St) (Q : Bool → Hp → Prop) (b : Bool) (s' : Shared) : Prop := ∃ H', Inv X pins σ H' s' ∧ Q b H'
def AP (X : Cx) (pins : List (Addr × Obj)) (σ : St) (Q : List V → Hp → Prop) (us : List Value) (s' : Shared) : Prop := ∃ vs H', Inv X pins σ H' s' ∧ Vals vs us ∧ Q vs H'
def SP (X : Cx) (pins : List (Addr × Obj)) (D : Ends) (f : Flow) (s' : Shared) : Prop :=
  match f with
  | .next => ∃ σ' H', Inv X pins σ' H' s' ∧ D.nx σ' H'
  | .brk => ∃ σ' H', Inv X pins σ' H' s' ∧ D.bk σ' H'
  | .cont => ∃ σ' H', Inv X pins σ' H' s' ∧ D.ct σ' H'
  | .ret u => ∃ v σ' H', Inv X pins σ' H' s' ∧ RelV v u ∧ D.rt v H'

def PE (X : Cx) (e : Expr) (t : TE) : Prop :=
  ∀ (pins : List (Addr × Obj)) (s : Shared) (σ : St) (H : Hp) (Q : VK), Inv X pins σ H s → t σ H Q → wpAny (model X.prog X.w) X.A (eval e X.env) (EP X pins σ Q) X.xe s
def PT (X : Cx) (e : Expr) (t : TT) : Prop :=
  ∀ (pins : List (Addr × Obj)) (s : Shared) (σ : St) (H : Hp) (Q : Bool → Hp → Prop), Inv X pins σ H s → t σ H Q → wpAny (model X.prog X.w) X.A (isTrue e X.env (eval e X.env)) (TP X pins σ Q) X.xe s
def PW (X : Cx) (e : Expr) (t : TT) : Prop :=
  ∀ (whole : Sem Value) (pins : List (Addr × Obj)) (s : Shared) (σ : St) (H : Hp) (Q : Bool → Hp → Prop), Inv X pins σ H s → t σ H Q → wpAny (model X.prog X.w) X.A (isTrue e X.env whole) (TP X pins σ Q) X.xe s
theorem PW.pt {X : Cx} {e : Expr} {t : TT} (h : PW X e t) : PT X e t := h _
def PA (X : Cx) (es : List Expr) (t : TA) : Prop :=
  ∀ (pos : Pos) (pins : List (Addr × Obj)) (s : Shared) (σ : St) (H : Hp) (Q : List V → Hp → Prop), Inv X pins σ H s → t σ H Q → wpAny (model X.prog X.w) X.A (spliced (backTo pos (starEach es X.env))) (AP X pins σ Q) X.xe s
def PS (X : Cx) (st : Stmt) (t : TS) : Prop :=
  ∀ (pins : List (Addr × Obj)) (s : Shared) (σ : St) (H : Hp) (D : Ends), Inv X pins σ H s → t D σ H → wpAny (model X.prog X.w) X.A (exec st X.env) (SP X pins D) X.xe s
def PSs (X : Cx) (st : List Stmt) (t : TS) : Prop :=
  ∀ (pins : List (Addr × Obj)) (s : Shared) (σ : St) (H : Hp) (D : Ends), Inv X pins σ H s → t D σ H → wpAny (model X.prog X.w) X.A (execs st X.env) (SP X pins D) X.xe s
theorem thn {α : Type} {t : Sem α} {Q Q' : α → Shared → Prop} {M : Model} {A : Around} {E : Value → Shared → Prop} {s : Shared} (h : wpAny M A t Q E s) (hQ : ∀ a s, Q a s → Q' a s) : wpAny M A t Q' E s := wpAny_mono h hQ fun _ _ x => x
end L2

namespace L2
open PySem PySem.Spec PyProof.Rows
section
variable {X : Cx}

/-! ### names and constants -/
def tVar (i : Nat) : TE := fun σ H Q => ∃ v, σ[i]? = some (some v) ∧ Q v H
def tC (v : V) : TE := fun _ H Q => Q v H
theorem pe_var {i : Nat} {x : Str} {pos : Pos} (hN : X.N[i]? = some x) (hv : Vis X.env.scope x) (hd : (x == ("__debug__" : Str)) = false := by decide) (hcd : (x == ("__classdict__" : Str)) = false := by decide) : PE X (.Name x pos) (tVar i) := by
  intro pins s σ H Q I h
  obtain ⟨v, e, h⟩ := h
  obtain ⟨m, hn, hl⟩ := I.loc
  obtain ⟨u, r, l⟩ := hl i x v hN e hv
  have fin : EP X pins σ Q u s := ⟨v, H, I, r, h⟩
  rcases l with ⟨hk, hm⟩ | ⟨hk, c, hc, hcell⟩
  · exact wpAny_Name (wpAny_loadName_local I.ok.kind hk hn hm fin) hd
  · rcases hk with hk | hk
    · exact wpAny_Name (wpAny_loadName_cell I.ok.kind hk hc hcell fin) hd
    · exact wpAny_Name (wpAny_loadName_free I.ok.kind hk hc hcell fin hcd) hd
theorem pe_int {i j pos} : PE X (.Constant (.int i) j pos) (tC (.int i)) := fun _ _ _ H _ I h => wpAny_Constant_int ⟨.int i, H, I.tok _, ⟨_, rfl⟩, h⟩
theorem pe_bl {b j pos} : PE X (.Constant (.bool b) j pos) (tC (.bl b)) := fun _ _ _ H _ I h => Constant_bool ⟨.bl b, H, I, rfl, h⟩
def Gl (X : Cx) (x : Str) : Prop := X.env.kindOf x = some .globalImplicit
theorem ld_glob {E : Value → Shared → Prop} {pins : List (Addr × Obj)} {s : Shared} {σ : St} {H : Hp} {x : Str} {u : Value} {pos : Pos} {Q : Value → Shared → Prop} (I : Inv X pins σ H s) (hg : Gl X x) (hm : X.mg x = some u) (h : Q u s)
    (hd : (x == ("__debug__" : Str)) = false := by decide) : wpAny (model X.prog X.w) X.A (eval (.Name x pos) X.env) Q E s :=
  Calls.Name_function_global I.ok.kind hg (Calls.loadGlobal_global (by rw [I.ok.glob]; exact I.mod.glob.keeps I.bk) hm h) hd
theorem ld_blt {E : Value → Shared → Prop} {pins : List (Addr × Obj)} {s : Shared} {σ : St} {H : Hp} {x : Str} {u : Value} {pos : Pos} {Q : Value → Shared → Prop} (I : Inv X pins σ H s) (hg : Gl X x) (hm : X.mg x = none) (hv : bootBuiltins x = some u) (h : Q u s)
    (hn : x ≠ "__name__" := by decide) (hd : (x == ("__debug__" : Str)) = false := by decide) : wpAny (model X.prog X.w) X.A (eval (.Name x pos) X.env) Q E s := by
  obtain ⟨mb, h1, h2⟩ := I.mod.blt
  exact Calls.Name_function_global I.ok.kind hg (Calls.loadGlobal_builtin (by rw [I.ok.glob]; exact I.mod.glob.keeps I.bk) hm (by rw [I.ok.blt]; exact h1.keeps I.bk) ((h2 x hn).trans hv) h) hd
theorem pe_bltn {x : Str} {v : V} {u : Value} {pos : Pos} (hg : Gl X x) (hm : X.mg x = none) (hv : bootBuiltins x = some u) (r : RelV v u) (hn : x ≠ "__name__" := by decide) (hd : (x == ("__debug__" : Str)) = false := by decide) : PE X (.Name x pos) (tC v) :=
  fun _ _ _ H _ I h => ld_blt I hg hm hv ⟨v, H, I, r, h⟩ hn hd

/-! ### arithmetic -/
variable {a b : Expr} {ta tb : TE} {pos : Pos}
/-! ### comparisons -/
def tB (t : TE) : TT := fun σ H Q => t σ H fun x H1 => ∃ c, x = .bl c ∧ Q c H1
theorem pt_val {e : Expr} {t : TE} (h : PE X e t) (he : ∀ whole, isTrue e X.env whole = (do let v ← whole; standAt e.pos; holding [v] (truthy v)) := by intro _; rfl) : PT X e (tB t) := by
  intro pins s σ H Q I hw
  refine isTrue_plain (thn (h pins s σ H _ I hw) fun v s1 ⟨x, H1, I1, r1, q1⟩ => ?_) (he _)
  obtain ⟨d, rfl, q⟩ := q1
  cases r1
  exact wpAny_truthy_bool ⟨H1, I1, q⟩

/-! ### and, or, not -/
variable {tA tB' : TT} {rest : List Expr}
def tAnd (t u : TT) : TT := fun σ H Q => t σ H fun c H1 => if c = true then u σ H1 Q else Q false H1
def tOr (t u : TT) : TT := fun σ H Q => t σ H fun c H1 => if c = true then Q true H1 else u σ H1 Q
def tNot (t : TT) : TT := fun σ H Q => t σ H fun c H1 => Q (!c) H1
theorem pw_and1 (ha : PT X a tA) : PW X (.BoolOp .And [a] pos) tA := by
  intro wh pins s σ H Q I h
  refine isTrue_and (thn (ha pins s σ H Q I h) fun c s1 e => ?_)
  cases c with
  | true => exact isTrue_and_nil e
  | false => exact e
theorem pw_or1 (ha : PT X a tA) : PW X (.BoolOp .Or [a] pos) tA := by
  intro wh pins s σ H Q I h
  refine isTrue_or (thn (ha pins s σ H Q I h) fun c s1 e => ?_)
  cases c with
  | false => exact isTrue_or_nil e
  | true => exact e
theorem pw_and (ha : PT X a tA) (hb : PW X (.BoolOp .And (b :: rest) pos) tB') : PW X (.BoolOp .And (a :: b :: rest) pos) (tAnd tA tB') := by
  intro wh pins s σ H Q I h
  refine isTrue_and (thn (ha pins s σ H _ I h) fun c s1 ⟨H1, I1, q1⟩ => ?_)
  cases c with
  | true => exact hb wh pins s1 σ H1 Q I1 q1
  | false => exact ⟨H1, I1, q1⟩
theorem pw_or (ha : PT X a tA) (hb : PW X (.BoolOp .Or (b :: rest) pos) tB') : PW X (.BoolOp .Or (a :: b :: rest) pos) (tOr tA tB') := by
  intro wh pins s σ H Q I h
  refine isTrue_or (thn (ha pins s σ H _ I h) fun c s1 ⟨H1, I1, q1⟩ => ?_)
  cases c with
  | true => exact ⟨H1, I1, q1⟩
  | false => exact hb wh pins s1 σ H1 Q I1 q1
theorem pt_not (ha : PT X a tA) : PT X (.UnaryOp .Not a pos) (tNot tA) := by
  intro pins s σ H Q I h
  exact isTrue_not (ha pins s σ H (fun c H1 => Q (!c) H1) I h)
def tAndV (ta tb : TE) : TE := fun σ H Q => ta σ H fun x H1 => ∃ c, x = .bl c ∧ if c = true then tb σ H1 Q else Q (.bl false) H1
def tNotV (ta : TE) : TE := fun σ H Q => ta σ H fun x H1 => ∃ c, x = .bl c ∧ Q (.bl (!c)) H1
theorem pe_one {op} {t : TE} (h : PE X a t) : PE X (.BoolOp op [a] pos) t := fun pins s σ H Q I hw => BoolOp_one (h pins s σ H Q I hw)
theorem pe_and (ha : PE X a ta) (hb : PE X (.BoolOp .And (b :: rest) pos) tb) : PE X (.BoolOp .And (a :: b :: rest) pos) (tAndV ta tb) := by
  intro pins s σ H Q I h
  refine BoolOp_and (thn (ha pins s σ H _ I h) fun v s1 ⟨x, H1, I1, r1, q1⟩ => ?_)
  obtain ⟨c, rfl, q1⟩ := q1
  cases r1
  refine wpAny_truthy_bool ?_
  cases c with
  | true => exact hb pins s1 σ H1 Q I1 q1
  | false => exact ⟨.bl false, H1, I1, rfl, q1⟩
theorem pe_not (ha : PE X a ta) : PE X (.UnaryOp .Not a pos) (tNotV ta) := by
  intro pins s σ H Q I h
  refine UnaryOp_ (thn (ha pins s σ H _ I h) fun v s1 ⟨x, H1, I1, r1, q1⟩ => ?_)
  obtain ⟨c, rfl, q1⟩ := q1
  cases r1
  exact not_of (wpAny_truthy_bool ⟨.bl (!c), H1, I1, rfl, q1⟩)
def tIf (t : TT) (ta tb : TE) : TE := fun σ H Q => t σ H fun c H1 => if c = true then ta σ H1 Q else tb σ H1 Q
theorem pe_ifExp {c : Expr} (hc : PT X c tA) (ha : PE X a ta) (hb : PE X b tb) : PE X (.IfExp c a b pos) (tIf tA ta tb) := by
  intro pins s σ H Q I h
  refine wpAny_IfExp (thn (hc pins s σ H _ I h) fun d s1 ⟨H1, I1, q1⟩ => ?_)
  cases d with
  | true => exact ha pins s1 σ H1 Q I1 q1
  | false => exact hb pins s1 σ H1 Q I1 q1
end
end L2

namespace L2
open PySem PySem.Spec PyProof.Rows

/-! ### a list, a tuple that is read: tracked, frozen, or an object of the module -/
def SqL (K : PySem.W.Frag) (H : Hp) (a : Addr) (xs : List V) : Prop :=
  Rd H a (.lst xs) ∨
    ∃ (o : Obj) (its : Array Value) (n : Nat), K.lookup a = some o ∧ o.cls = .type "list" ∧ o.dict = none ∧ o.data = .seq its n ∧ its.size ≤ sizeLine ∧ Vals xs its.toList
def SqT (K : PySem.W.Frag) (H : Hp) (a : Addr) (xs : List V) : Prop :=
  Rd H a (.tup xs) ∨
    ∃ (o : Obj) (its : Array Value) (n : Nat), K.lookup a = some o ∧ o.cls = .type "tuple" ∧ o.data = .seq its n ∧ its.size ≤ sizeLine ∧ Vals xs its.toList
def absV : Value → Option V
  | .none => some .non
  | .bool b => some (.bl b)
  | .int i _ => some (.int i)
  | .str x _ => some (.str x)
  | .bytes b _ => some (.byt b)
  | .float b _ => some (.flt b)
  | .ref a => some (.ref a)
  | .type n => some (.ty n)
  | _ => none
theorem RelV.abs {x : V} {u : Value} (r : RelV x u) : absV u = some x := by
  cases x with
  | non => cases r; rfl
  | bl _ => cases r; rfl
  | int _ => obtain ⟨t, rfl⟩ := r; rfl
  | str _ => obtain ⟨t, rfl⟩ := r; rfl
  | byt _ => obtain ⟨t, rfl⟩ := r; rfl
  | flt _ => obtain ⟨t, rfl⟩ := r; rfl
  | ref _ => cases r; rfl
  | ty _ => cases r; rfl
theorem RelV.inj {x y : V} {u : Value} (r : RelV x u) (q : RelV y u) : x = y := Option.some.inj (r.abs.symm.trans q.abs)
theorem Vals.inj : ∀ {xs ys : List V} {us : List Value}, Vals xs us → Vals ys us → xs = ys
  | _, _, _, .nil, .nil => rfl
  | _, _, _, .cons r t, .cons r' t' => by rw [r.inj r', Vals.inj t t']
section
variable {X : Cx} {pins : List (Addr × Obj)} {σ : St} {H : Hp} {s : Shared} {a : Addr} {xs ys : List V}
theorem SqL.of {K : PySem.W.Frag} (h : H a = some (.lst xs)) : SqL K H a xs := .inl (.inl h)
theorem SqT.of {K : PySem.W.Frag} (h : H a = some (.tup xs)) : SqT K H a xs := .inl (.inl h)
theorem Inv.list (I : Inv X pins σ H s) (h : SqL X.K H a xs) : ∃ its : List Value, Vals xs its ∧ PlainL s.heap a its.toArray ∧ xs.length ≤ sizeLine := by
  rcases h with h | ⟨o, its, n, hk, hc, hd, hs, hz, r⟩
  · obtain ⟨z, its, n, r, e⟩ := h.ok I.hok
    exact ⟨its, r, ⟨_, n, e, rfl, rfl, rfl⟩, z⟩
  · refine ⟨its.toList, r, ⟨o, n, I.kIn a o hk, hc, hd, by simpa using hs⟩, ?_⟩
    have e := r.length
    simp only [Array.length_toList] at e
    omega
theorem Inv.tuple (I : Inv X pins σ H s) (h : SqT X.K H a xs) : ∃ its : List Value, Vals xs its ∧ IsTup s.heap a its.toArray ∧ xs.length ≤ sizeLine := by
  rcases h with h | ⟨o, its, n, hk, hc, hs, hz, r⟩
  · obtain ⟨z, its, r, p⟩ := h.ok I.hok
    exact ⟨its, r, p, z⟩
  · refine ⟨its.toList, r, ⟨o, I.kIn a o hk, hc, n, by simpa using hs⟩, ?_⟩
    have e := r.length
    simp only [Array.length_toList] at e
    omega
theorem Inv.list_inj (I : Inv X pins σ H s) (h : SqL X.K H a xs) (h' : SqL X.K H a ys) : xs = ys := by
  obtain ⟨its, r, ⟨o, n, e, _, _, d⟩, _⟩ := I.list h
  obtain ⟨its', r', ⟨o', n', e', _, _, d'⟩, _⟩ := I.list h'
  rw [e] at e'; cases e'
  rw [d] at d'
  injection d' with d1 _
  have : its = its' := by simpa using congrArg Array.toList d1
  subst this
  exact r.inj r'
end

/-! ### another wish about exceptions -/
abbrev Cx.wish (X : Cx) (E : Value → Shared → Prop) : Cx := { X with xe := E }
abbrev Cx.nox (X : Cx) : Cx := X.wish fun _ _ => False
theorem Cx.Ok.wish {X : Cx} (ok : X.Ok) (E : Value → Shared → Prop) : (X.wish E).Ok :=
  ⟨ok.mod, ok.kind, ok.glob, ok.blt, ok.above, ok.inj, ok.has, ok.cab, ok.hd, ok.frames, ok.stk, ok.exf, ok.bs, ok.bsz, ok.noex, ok.exfs, ok.funs, ok.frf⟩
theorem Cx.Ok.unwish {X : Cx} {E : Value → Shared → Prop} (ok : (X.wish E).Ok) : X.Ok :=
  ⟨ok.mod, ok.kind, ok.glob, ok.blt, ok.above, ok.inj, ok.has, ok.cab, ok.hd, ok.frames, ok.stk, ok.exf, ok.bs, ok.bsz, ok.noex, ok.exfs, ok.funs, ok.frf⟩
section
variable {X : Cx} {pins : List (Addr × Obj)} {σ : St} {H : Hp} {s : Shared} {E : Value → Shared → Prop}
theorem Inv.wish (I : Inv X pins σ H s) (E : Value → Shared → Prop) : Inv (X.wish E) pins σ H s := ⟨I.ok.wish E, I.os, I.bare, I.base, I.loc, I.cell, I.free, I.freeC, I.pin, I.hok, I.len⟩
theorem Inv.unwish (I : Inv (X.wish E) pins σ H s) : Inv X pins σ H s := ⟨I.ok.unwish, I.os, I.bare, I.base, I.loc, I.cell, I.free, I.freeC, I.pin, I.hok, I.len⟩
theorem SP.unwish {D : Ends} {f : Flow} {s' : Shared} (h : SP (X.wish E) pins D f s') : SP X pins D f s' := by
  cases f with
  | next => obtain ⟨σ', H', I, q⟩ := h; exact ⟨σ', H', I.unwish, q⟩
  | brk => obtain ⟨σ', H', I, q⟩ := h; exact ⟨σ', H', I.unwish, q⟩
  | cont => obtain ⟨σ', H', I, q⟩ := h; exact ⟨σ', H', I.unwish, q⟩
  | ret u => obtain ⟨v, σ', H', I, r, q⟩ := h; exact ⟨v, σ', H', I.unwish, r, q⟩
theorem PE.nox {e : Expr} {t : TE} (h : PE X.nox e t) : PE X e t := fun pins s σ H Q I hw =>
  wpAny_mono (h pins s σ H Q (I.wish _) hw) (fun _ _ ⟨v, H', I', r, q⟩ => ⟨v, H', I'.unwish, r, q⟩) fun _ _ z => False.elim z
theorem PT.nox {e : Expr} {t : TT} (h : PT X.nox e t) : PT X e t := fun pins s σ H Q I hw =>
  wpAny_mono (h pins s σ H Q (I.wish _) hw) (fun _ _ ⟨H', I', q⟩ => ⟨H', I'.unwish, q⟩) fun _ _ z => False.elim z
theorem PSs.nox {st : List Stmt} {t : TS} (h : PSs X.nox st t) : PSs X st t := fun pins s σ H D I hw =>
  wpAny_mono (h pins s σ H D (I.wish _) hw) (fun _ _ q => q.unwish) fun _ _ z => False.elim z
end

/-! ### blocks and small statements -/
section
variable {X : Cx} {st : Stmt} {rest : List Stmt} {t u : TS} {e : Expr} {te : TE} {pos : Pos}
def tNext : TS := fun D σ H => D.nx σ H
def tSeq (t u : TS) : TS := fun D σ H => t { D with nx := u D } σ H
theorem pss_nil : PSs X [] tNext := fun _ _ σ H _ I h => wpAny_execs_nil ⟨σ, H, I, h⟩
theorem pss_cons (h1 : PS X st t) (h2 : PSs X rest u) : PSs X (st :: rest) (tSeq t u) := by
  intro pins s σ H D I h
  refine wpAny_execs_cons (thn (h1 pins s σ H { D with nx := u D } I h) fun f s1 q => ?_)
  cases f with
  | next =>
    obtain ⟨σ', H', I', q⟩ := q
    exact h2 pins s1 σ' H' D I' q
  | ret v => exact q
  | brk => exact q
  | cont => exact q
theorem pss_one (h1 : PS X st t) : PSs X [st] t := by
  intro pins s σ H D I h
  refine wpAny_execs_cons (thn (h1 pins s σ H D I h) fun f s1 q => ?_)
  cases f with
  | next => exact wpAny_execs_nil q
  | ret v => exact q
  | brk => exact q
  | cont => exact q
theorem Inv.quiet {pins : List (Addr × Obj)} {σ : St} {H : Hp} {s : Shared} (I : Inv X pins σ H s) : interactive X.env = false := by simp [interactive, I.ok.kind]
def tDrop (te : TE) : TS := fun D σ H => te σ H fun _ H1 => D.nx σ H1
theorem ps_expr (he : PE X e te) (hs : swapsWith e none pos.line X.env = pure false := by rfl) : PS X (.Expr e pos) (tDrop te) := by
  intro pins s σ H D I h
  exact wpAny_Expr_any (thn (he pins s σ H _ I h) fun v s1 ⟨x, H1, I1, r1, q1⟩ => ⟨σ, H1, I1, q1⟩) I.quiet hs
def tRet (te : TE) : TS := fun D σ H => te σ H D.rt
theorem ps_ret (he : PE X e te) : PS X (.Return (some e) pos) (tRet te) := by
  intro pins s σ H D I h
  exact wpAny_Return_some (thn (he pins s σ H _ I h) fun v s1 ⟨x, H1, I1, r1, q1⟩ => ⟨x, σ, H1, I1, r1, q1⟩)
def tRetN : TS := fun D _ H => D.rt .non H
theorem ps_retN : PS X (.Return none pos) tRetN := fun _ _ σ H _ I h => wpAny_Return_none ⟨.non, σ, H, I, rfl, h⟩
def tIfS (c : TT) (t u : TS) : TS := fun D σ H => c σ H fun b H1 => if b = true then t D σ H1 else u D σ H1
theorem ps_if {c : Expr} {a b : List Stmt} {tc : TT} (hc : PT X c tc) (ha : PSs X a t) (hb : PSs X b u) : PS X (.If c a b pos) (tIfS tc t u) := by
  intro pins s σ H D I h
  refine wpAny_If (thn (hc pins s σ H _ I h) fun d s1 ⟨H1, I1, q1⟩ => ?_)
  cases d with
  | true => exact ha pins s1 σ H1 D I1 q1
  | false => exact hb pins s1 σ H1 D I1 q1
def tNever : TS := fun _ _ _ => False
theorem ps_never : PS X st tNever := fun _ _ _ _ _ _ h => h.elim
end

/-! ### targets -/
abbrev TG := V → St → Hp → (St → Hp → Prop) → Prop
abbrev TGs := List V → St → Hp → (St → Hp → Prop) → Prop
def PG (X : Cx) (target : Expr) (t : TG) : Prop :=
  ∀ (pins : List (Addr × Obj)) (s : Shared) (σ : St) (H : Hp) (v : V) (u : Value) (Q : St → Hp → Prop), Inv X pins σ H s → RelV v u → t v σ H Q →
    wpAny (model X.prog X.w) X.A (assign target X.env u) (fun _ s' => ∃ σ' H', Inv X pins σ' H' s' ∧ Q σ' H') X.xe s
def PGs (X : Cx) (ts : List Expr) (t : TGs) : Prop :=
  ∀ (pins : List (Addr × Obj)) (s : Shared) (σ : St) (H : Hp) (vs : List V) (us : List Value) (Q : St → Hp → Prop), Inv X pins σ H s → Vals vs us → t vs σ H Q →
    wpAny (model X.prog X.w) X.A (assignInOrder ((assignEach ts X.env).map (·.2)) us) (fun _ s' => ∃ σ' H', Inv X pins σ' H' s' ∧ Q σ' H') X.xe s
abbrev TSet := V → V → V → Hp → (Hp → Prop) → Prop
def PSet (X : Cx) (t : TSet) : Prop :=
  ∀ (pins : List (Addr × Obj)) (s : Shared) (σ : St) (H : Hp) (o i v : V) (ov iv u : Value) (Q : Hp → Prop), Inv X pins σ H s → RelV o ov → RelV i iv → RelV v u → t o i v H Q →
    wpAny (model X.prog X.w) X.A (setItem ov iv u) (fun _ s' => ∃ H', Inv X pins σ H' s' ∧ Q H') X.xe s
abbrev TIp := V → V → Hp → VK → Prop
def PIp (X : Cx) (op : Operator) (t : TIp) : Prop :=
  ∀ (pins : List (Addr × Obj)) (s : Shared) (σ : St) (H : Hp) (x y : V) (v u : Value) (Q : VK), Inv X pins σ H s → RelV x v → RelV y u → t x y H Q →
    wpAny (model X.prog X.w) X.A (inplaceOp op v u) (EP X pins σ Q) X.xe s
section
variable {X : Cx} {pos : Pos}
def gName (i : Nat) : TG := fun v σ H Q => Q (σ.set i (some v)) H
theorem pg_name {i : Nat} {x : Str} (hN : X.N.Nodup) (hi : X.N[i]? = some x) (hx : Loc X.env.scope x) (hf : X.fn x = true ∨ X.env.scope.names.lookup x = some .local := by first | exact .inl rfl | exact .inr rfl | assumption) : PG X (.Name x pos) (gName i) := by
  intro pins s σ H v u Q I r h
  exact wpAny_assign_Name (store_ok I hN hi hx r (fun s' I' => ⟨_, H, I', h⟩) hf)
def gNil : TGs := fun vs σ H Q => vs = [] ∧ Q σ H
def gCons (t : TG) (u : TGs) : TGs := fun vs σ H Q => ∃ v r, vs = v :: r ∧ t v σ H fun σ' H' => u r σ' H' Q
theorem pgs_nil : PGs X [] gNil := by
  intro pins s σ H vs us Q I r h
  obtain ⟨e, h⟩ := h
  subst e
  cases r
  exact assignInOrder_nil ⟨σ, H, I, h⟩
theorem pgs_cons {e : Expr} {es : List Expr} {t : TG} {u : TGs} (h1 : PG X e t) (h2 : PGs X es u)
    (hs : (assignEach (e :: es) X.env).map (·.2) = assign e X.env :: (assignEach es X.env).map (·.2) := by rfl) : PGs X (e :: es) (gCons t u) := by
  intro pins s σ H vs us Q I r h
  obtain ⟨v, vr, e1, h⟩ := h
  subst e1
  cases r with
  | cons r rr =>
    rw [hs]
    refine assignInOrder_cons (thn (h1 pins s σ H _ _ _ I r h) fun _ s1 ⟨σ1, H1, I1, q1⟩ => ?_)
    exact h2 pins s1 σ1 H1 _ _ Q I1 rr q1
def gTup (K : PySem.W.Frag) (n : Nat) (t : TGs) : TG := fun v σ H Q => ∃ a xs, v = .ref a ∧ SqT K H a xs ∧ xs.length = n ∧ t xs σ H Q
theorem pg_tup {es : List Expr} {k : Nat} {t : TGs} {n : Nat} (hc : X.calm = true) (h : PGs X es t)
    (hn : (assignEach es X.env).length = n := by rfl) (hst : (assignEach es X.env).findIdx? (·.1) = none := by rfl) : PG X (.Tuple es k pos) (gTup X.K n t) := by
  intro pins s σ H v u Q I r hw
  obtain ⟨a, xs, e1, hq, hl, hw⟩ := hw
  subst e1
  cases r
  obtain ⟨its, rv, ht, hz⟩ := I.tuple hq
  refine assign_Tuple_tuple (I.ok.hd hc) ht (by simp [hn, ← hl, rv.length]) hst fun h' hx => ?_
  have I1 : Inv X pins σ H { s with heap := h' } := I.kept (t' := s.toks) fun b o e => hx b o (Nat.ne_of_lt (Heap.lt_size e)) e
  exact h pins _ σ H xs _ Q I1 (by simpa using rv) hw
def gSub (to ti : TE) (t : TSet) : TG := fun v σ H Q => to σ H fun o H1 => ti σ H1 fun i H2 => t o i v H2 fun H3 => Q σ H3
theorem pg_sub {o i : Expr} {to ti : TE} {t : TSet} (ho : PE X o to) (hi : PE X i ti) (hs : PSet X t)
    (ha : ∀ v, assign (.Subscript o i pos) X.env v = (do
      let ov ← holding [v] (eval o X.env)
      let iv ← holding [v, ov] (eval i X.env)
      standAt pos
      holding [v, ov, iv] (setItem ov iv v)
      release [v, ov, iv] []) := by intro _; rfl) : PG X (.Subscript o i pos) (gSub to ti t) := by
  intro pins s σ H v u Q I r h
  rw [ha]
  refine wpAny_bind (wpAny_holding (thn (ho pins s σ H _ I h) fun ov s1 ⟨x, H1, I1, r1, q1⟩ => ?_))
  refine wpAny_bind (wpAny_holding (thn (hi pins s1 σ H1 _ I1 q1) fun iv s2 ⟨y, H2, I2, r2, q2⟩ => ?_))
  refine wpAny_bind (wpAny_standAt (wpAny_bind (wpAny_holding (thn (hs pins s2 σ H2 x y v ov iv u _ I2 r1 r2 r q2) fun _ s3 ⟨H3, I3, q3⟩ => ?_))))
  exact wpAny_release ⟨σ, H3, I3, q3⟩
def tAsg (te : TE) (g : TG) : TS := fun D σ H => te σ H fun x H1 => g x σ H1 D.nx
theorem ps_asg {tg e : Expr} {te : TE} {g : TG} (he : PE X e te) (hg : PG X tg g) (hs : swapsWithSole [tg] e pos.line X.env = pure false := by rfl) (hw : swappedStores [tg] e X.env = pure none := by rfl)
    (h1 : (assignEach [tg] X.env).map (·.2) = [assign tg X.env] := by rfl) : PS X (.Assign [tg] e pos) (tAsg te g) := by
  intro pins s σ H D I h
  refine wpAny_Assign_stores (thn (he pins s σ H _ I h) fun v s1 ⟨x, H1, I1, r1, q1⟩ => ?_) hs hw
  rw [h1]
  exact thn (hg pins s1 σ H1 x v _ I1 r1 q1) fun _ s2 q => q
theorem ps_set {i : Nat} {x : Str} {e : Expr} {te : TE} {pos' : Pos} (hN : X.N.Nodup) (hi : X.N[i]? = some x) (hx : Loc X.env.scope x) (he : PE X e te) (hs : swapsWith e (some (.Name x pos')) pos.line X.env = pure false := by rfl) (hf : X.fn x = true ∨ X.env.scope.names.lookup x = some .local := by first | exact .inl rfl | exact .inr rfl | assumption) :
    PS X (.Assign [.Name x pos'] e pos) (tAsg te (gName i)) := by
  intro pins s σ H D I h
  refine wpAny_Assign_Name (thn (he pins s σ H _ I h) fun v s1 ⟨y, H1, I1, r1, q1⟩ => ?_) hs
  exact store_ok I1 hN hi hx r1 (fun s2 I2 => ⟨_, H1, I2, q1⟩) hf
def tPar (i j : Nat) (ta : TA) : TS := fun D σ H => ta σ H fun vs H1 => ∃ v w, vs = [v, w] ∧ D.nx ((σ.set i (some v)).set j (some w)) H1
theorem ps_par {i j : Nat} {x y : Str} {a b : Expr} {ta : TA} {px py pt : Pos} {kt k2 pt2} (hc : X.calm = true) (hN : X.N.Nodup) (hi : X.N[i]? = some x) (hj : X.N[j]? = some y) (hij : i ≠ j)
    (hx : X.env.scope.names.lookup x = some .local) (hy : X.env.scope.names.lookup y = some .local) (ha : PA X [a, b] ta)
    (hw : swappedStores [.Tuple [.Name x px, .Name y py] kt pt] (.Tuple [a, b] k2 pt2) X.env = pure (some [x, y]))
    (hs : swapsWithSole [.Tuple [.Name x px, .Name y py] kt pt] (.Tuple [a, b] k2 pt2) pos.line X.env = pure false := by rfl) :
    PS X (.Assign [.Tuple [.Name x px, .Name y py] kt pt] (.Tuple [a, b] k2 pt2) pos) (tPar i j ta) := by
  intro pins s σ H D I h
  rw [exec_Assign_arm]
  refine wpAny_bind (wpAny_standAt ?_)
  rw [hs]
  refine wpAny_bind (wpAny_pure ?_)
  rw [if_neg (by decide)]
  refine wpAny_bind (Tuple_ (thn (ha _ pins s σ H _ I h) fun us s1 ⟨vs, H1, I1, r1, q1⟩ => ?_))
  obtain ⟨v, w, e1, q1⟩ := q1
  subst e1
  obtain ⟨u1, u2, rfl, rv, rw'⟩ : ∃ u1 u2, us = [u1, u2] ∧ RelV v u1 ∧ RelV w u2 := by
    cases r1 with
    | cons p q =>
      cases q with
      | cons p' q' =>
        cases q'
        exact ⟨_, _, rfl, p, p'⟩
  refine wpAny_newObj_type ?_ (by show 2 ≤ sizeLine; decide)
  have I2 : Inv X pins σ H1 { s1 with heap := s1.heap.push { cls := .type "tuple", data := .seq [u1, u2].toArray } } := I1.kept (t' := s1.toks) fun b o e => Heap.get?_push_of_some _ e
  rw [hw]
  refine wpAny_bind (wpAny_pure ?_)
  show wpAny (model X.prog X.w) X.A (do rule "assign.swapped-stores"; let items ← unpackItems (.ref s1.heap.objs.size) 2 none; assignInOrder [fun v => bindName X.env y v, fun v => bindName X.env x v] items.reverse; pure Flow.next) _ _ _
  refine wpAny_bind (wpAny_rule (wpAny_bind (unpackItems_tuple (items := #[u1, u2]) (I.ok.hd hc) (IsTup.new s1.heap _) fun h' hx' => ?_)))
  have I3 := I2.kept (h' := h') (t' := s1.toks) fun b o e => hx' b o (Nat.ne_of_lt (Heap.lt_size e)) e
  show wpAny _ _ (assignInOrder [fun v => bindName X.env y v, fun v => bindName X.env x v] [u2, u1] >>= fun _ => pure Flow.next) _ _ _
  refine wpAny_bind (assignInOrder_cons (wpAny_bindName (store_ok I3 hN hj (.inl hy) rw' (fun s2 I4 => ?_) (.inr hy))))
  refine assignInOrder_cons (wpAny_bindName (store_ok I4 hN hi (.inl hx) rv (fun s3 I5 => assignInOrder_nil (wpAny_pure ?_)) (.inr hx)))
  rw [List.set_comm _ _ (Ne.symm hij)] at I5
  exact ⟨_, H1, I5, q1⟩
def tAug (i : Nat) (te : TE) (ti : TIp) : TS := fun D σ H => ∃ x, σ[i]? = some (some x) ∧ te σ H fun y H1 => ti x y H1 fun z H2 => D.nx (σ.set i (some z)) H2
theorem ps_aug {i : Nat} {x : Str} {e : Expr} {te : TE} {op : Operator} {ti : TIp} {pos' : Pos} (hN : X.N.Nodup) (hi : X.N[i]? = some x) (hx : Loc X.env.scope x) (he : PE X e te) (ho : PIp X op ti) (hf : X.fn x = true ∨ X.env.scope.names.lookup x = some .local := by first | exact .inl rfl | exact .inr rfl | assumption) :
    PS X (.AugAssign (.Name x pos') op e pos) (tAug i te ti) := by
  intro pins s σ H D I h
  obtain ⟨v, e1, h⟩ := h
  obtain ⟨m, hn, hl⟩ := I.loc
  have vis : Vis X.env.scope x := by rcases hx with k | k; exact .inl k; exact .inr (.inl k)
  obtain ⟨u, r, l⟩ := hl i x v hi e1 vis
  refine wpAny_AugAssign_Name ?_
  have go : wpAny (model X.prog X.w) X.A (eval e X.env) (fun w s₂ => wpAny (model X.prog X.w) X.A (inplaceOp op u w) (fun r s₃ => wpAny (model X.prog X.w) X.A (storeName X.env x r) (fun _ => SP X pins D .next) X.xe s₃) X.xe s₂) X.xe s := by
    refine thn (he pins s σ H _ I h) fun w s1 ⟨y, H1, I1, r1, q1⟩ => ?_
    refine thn (ho pins s1 σ H1 v y u w _ I1 r r1 q1) fun z s2 ⟨zv, H2, I2, r2, q2⟩ => ?_
    exact store_ok I2 hN hi hx r2 (fun s3 I3 => ⟨_, H2, I3, q2⟩) hf
  rcases l with ⟨hk, hm⟩ | ⟨hk, c, hc, hcell⟩
  · exact wpAny_loadName_local I.ok.kind hk hn hm go
  · rcases hk with hk | hk
    · exact wpAny_loadName_cell I.ok.kind hk hc hcell go
    · rcases hx with k | k
      · have : X.env.scope.names.lookup x = some .free := hk
        rw [k] at this; cases this
      · have : X.env.scope.names.lookup x = some .free := hk
        rw [k] at this; cases this
def ipI (f : Int → Int → Int) : TIp := fun x y H Q => ∃ i j, x = .int i ∧ y = .int j ∧ Q (.int (f i j)) H
theorem ip_add : PIp X .Add (ipI fun i j => i + j) := by
  intro pins s σ H x y v u Q I r1 r2 h
  obtain ⟨i, j, e1, e2, q⟩ := h
  subst e1; subst e2
  obtain ⟨t, rfl⟩ := r1
  obtain ⟨t', rfl⟩ := r2
  exact iadd_int ⟨.int _, H, I.tok _, ⟨_, rfl⟩, q⟩
theorem ip_sub : PIp X .Sub (ipI fun i j => i - j) := by
  intro pins s σ H x y v u Q I r1 r2 h
  obtain ⟨i, j, e1, e2, q⟩ := h
  subst e1; subst e2
  obtain ⟨t, rfl⟩ := r1
  obtain ⟨t', rfl⟩ := r2
  exact isub_int ⟨.int _, H, I.tok _, ⟨_, rfl⟩, q⟩
end

/-! ### while -/
section
variable {X : Cx} {pos : Pos}
def tWhile (c : TT) (tb : TS) : TS := fun D σ H => ∃ W : Nat → St → Hp → Prop, (∃ m, W m σ H) ∧ ∀ m σ H, W m σ H →
  c σ H fun b H1 => if b = true then ∃ N : St → Hp → Prop, (∀ σ' H', N σ' H' → ∃ m', m' < m ∧ W m' σ' H') ∧ tb { D with nx := N, ct := N, bk := D.nx } σ H1 else D.nx σ H1
theorem ps_while {c : Expr} {body : List Stmt} {tc : TT} {tb : TS} (hp : PassesOwn (model X.prog X.w) X.A X.env X.xe) (hc : PT X c tc) (hb : PSs X body tb) : PS X (.While c body [] pos) (tWhile tc tb) := by
  intro pins s σ H D I h
  obtain ⟨W, ⟨m0, w0⟩, turn⟩ := h
  refine wpAny_While (codeAny_whileLoop (fun n s' => ∃ σ' H', Inv X pins σ' H' s' ∧ W n σ' H') ?_ m0 ⟨σ, H, I, w0⟩)
  rintro n s1 ⟨σ1, H1, I1, w1⟩
  refine wpAny_passesOwn hp (thn (hc pins s1 σ1 H1 _ I1 (turn n σ1 H1 w1)) fun b s2 ⟨H2, I2, q2⟩ => ?_)
  cases b with
  | true =>
    obtain ⟨N, hN, q2⟩ := q2
    rw [if_pos rfl]
    refine wpAny_passesOwn hp (thn (hb pins s2 σ1 H2 _ I2 q2) fun f s3 q3 => ?_)
    cases f with
    | next =>
      obtain ⟨σ3, H3, I3, n3⟩ := q3
      obtain ⟨m', hm, w3⟩ := hN σ3 H3 n3
      exact ⟨m', hm, σ3, H3, I3, w3⟩
    | cont =>
      obtain ⟨σ3, H3, I3, n3⟩ := q3
      obtain ⟨m', hm, w3⟩ := hN σ3 H3 n3
      exact ⟨m', hm, σ3, H3, I3, w3⟩
    | brk => exact q3
    | ret v => exact q3
  | false =>
    rw [if_neg Bool.false_ne_true]
    exact wpAny_execs_nil ⟨σ1, H2, I2, q2⟩
end

/-! ### what a loop or a comprehension walks -/
structure It where
  go : Nat → Hp → Prop
  yld : Nat → Hp → V → Hp → Prop
  stop : Nat → Hp → Prop
def FpOk (X : Cx) (pins : List (Addr × Obj)) (H : Hp) (b : Addr) : Prop :=
  H b = none ∧ b ≠ X.env.locals ∧ b ∉ X.fs ∧ (b ∈ X.ex ∨ X.s₀.heap.objs.size ≤ b) ∧ (∀ x c, X.env.cells.lookup x = some c → c ≠ b) ∧ ∀ p ∈ X.pn ++ pins, p.1 ≠ b
theorem Inv.fpOk {X : Cx} {pins : List (Addr × Obj)} {σ : St} {H H' : Hp} {s : Shared} {b : Addr} (I : Inv X pins σ H s) (hb : s.heap.objs.size ≤ b) (hn : H' b = none) : FpOk X pins H' b := by
  refine ⟨hn, Nat.ne_of_gt (Nat.lt_of_lt_of_le I.lt hb), I.nofs hb, .inr (Nat.le_trans I.sz hb), fun x c e z => ?_, fun p hp z => ?_⟩
  · obtain ⟨v, q⟩ := I.cell x c e
    exact absurd (Nat.lt_of_lt_of_le q.lt (by rw [z]; exact hb)) (Nat.lt_irrefl _)
  · exact absurd (Nat.lt_of_lt_of_le (Heap.lt_size (I.pin p hp).1) (by rw [z]; exact hb)) (Nat.lt_irrefl _)
structure Turn (P : Program) (w : World) (K : PySem.W.Frag) (tg : Expr) (J : It) (fp : List Addr) (it : Addr) (tn : Nat → Heap → Prop) : Prop where
  mem : it ∈ fp
  obj : ∀ i h, tn i h → ∀ b ∈ fp, ∃ o, h.get? b = some o ∧ ∀ v, o.data ≠ .cell v
  keep : ∀ i h h', tn i h → (∀ b ∈ fp, ∀ o, h.get? b = some o → h'.get? b = some o) → tn i h'
  item : ∀ (X : Cx), X.prog = P → X.w = w → X.K = K → X.calm = true → ∀ (i : Nat) (pins : List (Addr × Obj)) (s : Shared) (σ : St) (H : Hp) (E : Value → Shared → Prop), Inv X pins σ H s → (∀ b ∈ fp, FpOk X pins H b) → tn i s.heap → J.go i H →
    wpAny (model P w) X.A (pyNext (.ref it)) (fun r s1 => ∃ u, r = some u ∧
      wpAny (model P w) X.A (letOwnedTupleGo tg (.ref it) u) (fun _ s2 => ∃ x H', Inv X pins σ H' s2 ∧ RelV x u ∧ J.yld i H x H' ∧ tn (i + 1) s2.heap ∧ ∀ b ∈ fp, H' b = none) E s1) E s
  done : ∀ (X : Cx), X.prog = P → X.w = w → X.K = K → X.calm = true → ∀ (i : Nat) (pins : List (Addr × Obj)) (s : Shared) (σ : St) (H : Hp) (E : Value → Shared → Prop), Inv X pins σ H s → (∀ b ∈ fp, FpOk X pins H b) → tn i s.heap → J.stop i H →
    wpAny (model P w) X.A (pyNext (.ref it)) (fun r s1 => r = none ∧ Inv X pins σ H s1) E s
  self : ∀ (A : Around) (i : Nat) (s : Shared) (Q : Value → Shared → Prop) (E : Value → Shared → Prop), tn i s.heap → Q (.ref it) s → wpAny (model P w) A (pyIter (.ref it)) Q E s
abbrev TI := St → Hp → (It → Hp → Prop) → Prop
def PIE (X : Cx) (pins : List (Addr × Obj)) (σ : St) (tg : Expr) (R : It → Hp → Prop) (itv : Value) (s2 : Shared) : Prop :=
  ∃ (it : Addr) (fp : List Addr) (tn : Nat → Heap → Prop) (J : It) (H' : Hp), itv = .ref it ∧ Inv X pins σ H' s2 ∧ Turn X.prog X.w X.K tg J fp it tn ∧ tn 0 s2.heap ∧ (∀ b ∈ fp, FpOk X pins H' b) ∧ R J H'
def PI (X : Cx) (tg iter : Expr) (wi : TI) : Prop :=
  ∀ (pins : List (Addr × Obj)) (s : Shared) (σ : St) (H : Hp) (R : It → Hp → Prop), Inv X pins σ H s → wi σ H R →
    wpAny (model X.prog X.w) X.A (eval iter X.env) (fun v s1 => wpAny (model X.prog X.w) X.A (pyIter v) (PIE X pins σ tg R) X.xe s1) X.xe s

theorem go_of {M : Model} {A : Around} {E : Value → Shared → Prop} {s : Shared} {tg : Expr} {it : Addr} {u : Value} {o : Obj} {n : String} {vs : Array Value} {Q : Unit → Shared → Prop} (ho : s.heap.get? it = some o) (hc : o.cls = .type n) (hd : o.data = .fields vs)
    (hn : ["enumerate", "zip", "dict_itemiterator", "dict_reverseitemiterator", "odict_iterator", "itertools.zip_longest", "itertools.pairwise"].contains n = false) (hQ : Q () s) : wpAny M A (letOwnedTupleGo tg (.ref it) u) Q E s := by
  unfold letOwnedTupleGo
  cases tg <;> first
    | exact wpAny_pure hQ
    | (cases u <;> first
        | exact wpAny_pure hQ
        | (refine wpAny_bind (wpAny_load ho ?_)
           rw [hc, hd]
           show wpAny M A (if (["enumerate", "zip", "dict_itemiterator", "dict_reverseitemiterator", "odict_iterator", "itertools.zip_longest", "itertools.pairwise"].contains n && vs[0]? == some (rawInt _)) = true then _ else _) Q E s
           rw [if_neg (by intro h; rw [hn, Bool.false_and] at h; cases h)]
           exact wpAny_pure hQ))

def Itl (K : PySem.W.Frag) (a : Addr) : It :=
  ⟨fun i H => ∃ xs x, SqL K H a xs ∧ xs[i]? = some x, fun i H x H' => H' = H ∧ ∀ xs, SqL K H a xs → xs[i]? = some x, fun i H => ∃ xs, SqL K H a xs ∧ xs.length ≤ i⟩
theorem turn_list {P : Program} {w : World} {K : PySem.W.Frag} {tg : Expr} (a it : Addr) : Turn P w K tg (Itl K a) [it] it (fun i h => h.IsListIter it a i) where
  mem := by simp
  obj := fun i h st b hb => by
    have e : b = it := by simpa using hb
    subst e
    obtain ⟨o, e, c, d⟩ := st
    exact ⟨o, e, fun v z => by rw [d] at z; cases z⟩
  keep := fun i h h' st k => st.at fun o e => k it (by simp) o e
  item := by
    intro X hP hw hK hc i pins s σ H E I hf st hg
    subst hP hw hK
    obtain ⟨xs, x, hq, hx⟩ := hg
    obtain ⟨its, rv, p, hz⟩ := I.list hq
    obtain ⟨u, hu, ru⟩ := rv.get hx
    obtain ⟨f0, f1, f2, f3, f4, f5⟩ := hf it (by simp)
    refine wpAny_pyNext_list_item st p.isList (x := u) (by simpa using hu) fun h' st' sb => ?_
    have I1 : Inv X pins σ H { s with heap := h' } := I.turned (t' := s.toks) (fun b o hb e => (sb.2 b hb).trans e) f0 f1 f3 f4 f5
    obtain ⟨o, e, c, d⟩ := id st'
    exact ⟨u, rfl, go_of (s := { s with heap := h' }) e c d (by decide) ⟨x, H, I1, ru, ⟨rfl, fun ys hy => by rw [I.list_inj hy hq]; exact hx⟩, st', fun b hb => (hf b hb).1⟩⟩
  done := by
    intro X hP hw hK hc i pins s σ H E I hf st hg
    subst hP hw hK
    obtain ⟨xs, hq, hx⟩ := hg
    obtain ⟨its, rv, p, hz⟩ := I.list hq
    obtain ⟨f0, f1, f2, f3, f4, f5⟩ := hf it (by simp)
    have hl := rv.length
    exact wpAny_pyNext_list_end (I.ok.hd hc) st p.isList (by simp; omega) fun h' eb => ⟨rfl, I.turned (t' := s.toks) (fun b o hb e => eb b o hb e) f0 f1 f3 f4 f5⟩
  self := fun _ _ _ _ _ st h => wpAny_pyIter_listiter st h
end L2

namespace L2
open PySem PySem.Spec PyProof.Rows
section
variable {X : Cx} {tg : Expr}
def iList (K : PySem.W.Frag) (tl : TE) : TI := fun σ H R => tl σ H fun x H1 => ∃ a, x = .ref a ∧ (∃ xs, SqL K H1 a xs) ∧ R (Itl K a) H1
theorem pi_list {l : Expr} {tl : TE} (hl : PE X l tl) : PI X tg l (iList X.K tl) := by
  intro pins s σ H R I h
  refine thn (hl pins s σ H _ I h) fun v s1 ⟨x, H1, I1, r1, q1⟩ => ?_
  obtain ⟨a, e, ⟨xs, hq⟩, q⟩ := q1
  subst e
  cases r1
  obtain ⟨its, rv, p, hz⟩ := I1.list hq
  refine wpAny_pyIter_list p.isList ?_
  refine ⟨s1.heap.objs.size, [s1.heap.objs.size], _, _, H1, rfl, I1.kept (t' := s1.toks) fun b o e => Heap.get?_push_of_some _ e, turn_list a _, ⟨_, Heap.get?_push_size _ rfl, rfl, rfl⟩, fun b hb => ?_, q⟩
  have e : b = s1.heap.objs.size := by simpa using hb
  subst e
  exact I1.fpOk (Nat.le_refl _) (I1.hok.fresh (Nat.le_refl _))
/-! ### for -/
def tFor (wi : TI) (g : TG) (tb : TS) : TS := fun D σ H => wi σ H fun J H1 => ∃ W : Nat → Nat → St → Hp → Prop, (∃ m, W 0 m σ H1) ∧ ∀ i m σ H, W i m σ H →
  (J.stop i H ∧ D.nx σ H) ∨ (J.go i H ∧ ∃ N : St → Hp → Prop, (∀ σ' H', N σ' H' → ∃ m', m' < m ∧ W (i + 1) m' σ' H') ∧ ∀ x H', J.yld i H x H' → g x σ H' fun σ2 H2 => tb { D with nx := N, ct := N, bk := D.nx } σ2 H2)
def pinsAt (fp : List Addr) (h : Heap) : List (Addr × Obj) := fp.filterMap fun b => (h.get? b).map fun o => (b, o)
theorem mem_pinsAt {fp : List Addr} {h : Heap} {b : Addr} {o : Obj} (hb : b ∈ fp) (e : h.get? b = some o) : (b, o) ∈ pinsAt fp h := List.mem_filterMap.mpr ⟨b, hb, by rw [e]; rfl⟩
theorem of_pinsAt {fp : List Addr} {h : Heap} {p : Addr × Obj} (hp : p ∈ pinsAt fp h) : p.1 ∈ fp ∧ h.get? p.1 = some p.2 := by
  obtain ⟨b, hb, e⟩ := List.mem_filterMap.mp hp
  cases q : h.get? b with
  | none => rw [q] at e; cases e
  | some o =>
    rw [q] at e
    have e' : (b, o) = p := Option.some.inj e
    subst e'
    exact ⟨hb, q⟩
theorem Inv.pinned {pins : List (Addr × Obj)} {σ : St} {H : Hp} {s : Shared} {fp : List Addr} (I : Inv X pins σ H s) (hf : ∀ b ∈ fp, FpOk X pins H b) (ho : ∀ b ∈ fp, ∃ o, s.heap.get? b = some o ∧ ∀ v, o.data ≠ .cell v) : Inv X (pins ++ pinsAt fp s.heap) σ H s :=
  I.pins_of fun p hp => (List.mem_append.mp hp).elim (fun z => I.pin p (List.mem_append_right _ z)) fun z => by
    obtain ⟨hb, e⟩ := of_pinsAt z
    obtain ⟨f0, f1, f2, _⟩ := hf p.1 hb
    obtain ⟨o, e', d⟩ := ho p.1 hb
    rw [e] at e'; cases e'
    exact ⟨e, f0, f1, f2, d⟩
theorem Inv.unpinned {pins pl : List (Addr × Obj)} {σ : St} {H : Hp} {s : Shared} (I : Inv X (pins ++ pl) σ H s) : Inv X pins σ H s := I.pins_of fun p hp => I.pin p (List.mem_append_right _ (List.mem_append_left _ hp))
theorem ps_for {iter : Expr} {body : List Stmt} {wi : TI} {g : TG} {tb : TS} {pos : Pos} (hp : PassesOwn (model X.prog X.w) X.A X.env X.xe) (hc : X.calm = true) (hi : PI X tg iter wi) (hg : PG X tg g) (hb : PSs X body tb)
    (hs : ∀ x, foldedSetIterable iter X.env x = pure x := by intro _; rfl) : PS X (.For tg iter body [] pos) (tFor wi g tb) := by
  intro pins s σ H D I h
  refine wpAny_For (thn (hi pins s σ H _ I h) fun v s1 h1 => thn h1 fun itv s2 h2 => ?_) hs
  obtain ⟨it, fp, tn, J, H2, e, I2, T, st2, f2, W, ⟨m0, w0⟩, turn⟩ := h2
  subst e
  -- what stays true of the iterator's objects through the loop
  have stat : ∀ {H' : Hp}, (∀ b ∈ fp, H' b = none) → ∀ b ∈ fp, FpOk X pins H' b := fun hn b hb => ⟨hn b hb, (f2 b hb).2⟩
  refine codeAny_forLoop_any (fun n s' => ∃ i σ' H', Inv X pins σ' H' s' ∧ tn i s'.heap ∧ (∀ b ∈ fp, H' b = none) ∧ W i n σ' H') ?_ m0 ⟨0, σ, H2, I2, st2, fun b hb => (f2 b hb).1, w0⟩
  rintro n s3 ⟨i, σ3, H3, I3, st3, fr3, w3⟩
  rcases turn i n σ3 H3 w3 with ⟨stop, qn⟩ | ⟨go, N, hN, step⟩
  · refine wpAny_passesOwn hp (thn (T.done X rfl rfl rfl hc i pins s3 σ3 H3 X.xe I3 (stat fr3) st3 stop) fun r s4 ⟨hr, I4⟩ => ?_)
    subst hr
    exact wpAny_execs_nil ⟨σ3, H3, I4, qn⟩
  · refine wpAny_passesOwn hp (thn (T.item X rfl rfl rfl hc i pins s3 σ3 H3 X.xe I3 (stat fr3) st3 go) fun r s4 ⟨u, hr, h4⟩ => ?_)
    subst hr
    refine wpAny_passesOwn hp (thn h4 fun _ s5 ⟨x, H5, I5, r5, y5, st5, fr5⟩ => ?_)
    have I5' := I5.pinned (stat fr5) (T.obj _ _ st5)
    refine wpAny_passesOwn hp (thn (hg _ s5 σ3 H5 x u _ I5' r5 (step x H5 y5)) fun _ s6 ⟨σ6, H6, I6, q6⟩ => ?_)
    refine wpAny_passesOwn hp (thn (hb _ s6 σ6 H6 _ I6 q6) fun f s7 q7 => ?_)
    have again : ∀ {σ7 : St} {H7 : Hp}, Inv X (pins ++ pinsAt fp s5.heap) σ7 H7 s7 → N σ7 H7 → ∃ m, m < n ∧ ∃ i σ' H', Inv X pins σ' H' s7 ∧ tn i s7.heap ∧ (∀ b ∈ fp, H' b = none) ∧ W i m σ' H' := fun {σ7 H7} I7 n7 => by
      obtain ⟨m', hm, w7⟩ := hN σ7 H7 n7
      refine ⟨m', hm, i + 1, σ7, H7, I7.unpinned, T.keep _ _ _ st5 fun b hb o e => (I7.pin (b, o) (List.mem_append_right _ (List.mem_append_right _ (mem_pinsAt hb e)))).1, fun b hb => ?_, w7⟩
      obtain ⟨o, e, d⟩ := T.obj _ _ st5 b hb
      exact (I7.pin (b, o) (List.mem_append_right _ (List.mem_append_right _ (mem_pinsAt hb e)))).2.1
    cases f with
    | next => obtain ⟨σ7, H7, I7, n7⟩ := q7; exact again I7 n7
    | cont => obtain ⟨σ7, H7, I7, n7⟩ := q7; exact again I7 n7
    | brk => obtain ⟨σ7, H7, I7, q7⟩ := q7; exact ⟨σ7, H7, I7.unpinned, q7⟩
    | ret v => obtain ⟨x7, σ7, H7, I7, r7, q7⟩ := q7; exact ⟨x7, σ7, H7, I7.unpinned, r7, q7⟩
end

/-! ### the forms one uses -/
theorem for_list {K : PySem.W.Frag} {a : Addr} {xs : List V} {g : TG} {tb : TS} {D : Ends} {σ : St} {H : Hp} (Pv : Nat → St → Hp → Prop) (h0 : Pv 0 σ H) (hl : ∀ i σ H, i ≤ xs.length → Pv i σ H → SqL K H a xs)
    (hs : ∀ i x σ H, xs[i]? = some x → Pv i σ H → g x σ H fun σ2 H2 => tb { D with nx := Pv (i + 1), ct := Pv (i + 1), bk := D.nx } σ2 H2) (hd : ∀ σ H, Pv xs.length σ H → D.nx σ H) :
    ∃ W : Nat → Nat → St → Hp → Prop, (∃ m, W 0 m σ H) ∧ ∀ i m σ H, W i m σ H →
      ((Itl K a).stop i H ∧ D.nx σ H) ∨ ((Itl K a).go i H ∧ ∃ N : St → Hp → Prop, (∀ σ' H', N σ' H' → ∃ m', m' < m ∧ W (i + 1) m' σ' H') ∧ ∀ x H', (Itl K a).yld i H x H' → g x σ H' fun σ2 H2 => tb { D with nx := N, ct := N, bk := D.nx } σ2 H2) := by
  refine ⟨fun i m σ H => m = xs.length - i ∧ i ≤ xs.length ∧ Pv i σ H, ⟨xs.length, by simp, Nat.zero_le _, h0⟩, ?_⟩
  rintro i m σ H ⟨rfl, hi, p⟩
  have q := hl i σ H hi p
  by_cases hlt : i < xs.length
  · refine .inr ⟨⟨xs, xs[i], q, by simp [hlt]⟩, Pv (i + 1), fun σ' H' p' => ⟨xs.length - (i + 1), by omega, rfl, hlt, p'⟩, fun x H' y => ?_⟩
    obtain ⟨e, y⟩ := y
    subst e
    exact hs i x σ _ (y xs q) p
  · have e : i = xs.length := by omega
    subst e
    exact .inl ⟨⟨xs, q, Nat.le_refl _⟩, hd σ H p⟩
theorem while_by {c : TT} {tb : TS} {D : Ends} {σ : St} {H : Hp} (Pv : St → Hp → Prop) (μ : St → Hp → Nat) (h0 : Pv σ H)
    (hs : ∀ σ H, Pv σ H → c σ H fun b H1 => if b = true then tb { D with nx := fun σ' H' => Pv σ' H' ∧ μ σ' H' < μ σ H, ct := fun σ' H' => Pv σ' H' ∧ μ σ' H' < μ σ H, bk := D.nx } σ H1 else D.nx σ H1)
    (mono : ∀ σ H Q Q', (∀ b H1, Q b H1 → Q' b H1) → c σ H Q → c σ H Q') : tWhile c tb D σ H := by
  refine ⟨fun m σ H => m = μ σ H ∧ Pv σ H, ⟨_, rfl, h0⟩, ?_⟩
  rintro m σ H ⟨rfl, p⟩
  refine mono σ H _ _ (fun b H1 q => ?_) (hs σ H p)
  cases b with
  | true => exact ⟨_, fun σ' H' ⟨p', l⟩ => ⟨_, l, rfl, p'⟩, q⟩
  | false => exact q
end L2

namespace L2
open PySem PySem.Spec PyProof.Rows

abbrev R2 := V → V → Hp → VK → Prop
def OpR (X : Cx) (f : Value → Value → Sem Value) (r : R2) : Prop :=
  ∀ (pins : List (Addr × Obj)) (s : Shared) (σ : St) (H : Hp) (x y : V) (v u : Value) (Q : VK), Inv X pins σ H s → RelV x v → RelV y u → r x y H Q →
    wpAny (model X.prog X.w) X.A (f v u) (EP X pins σ Q) X.xe s
def UnR (X : Cx) (f : Value → Sem Value) (r : V → Hp → VK → Prop) : Prop :=
  ∀ (pins : List (Addr × Obj)) (s : Shared) (σ : St) (H : Hp) (x : V) (v : Value) (Q : VK), Inv X pins σ H s → RelV x v → r x H Q →
    wpAny (model X.prog X.w) X.A (f v) (EP X pins σ Q) X.xe s
def CallR (X : Cx) (f : Value) (r : List V → Hp → VK → Prop) : Prop :=
  ∀ (pins : List (Addr × Obj)) (s : Shared) (σ : St) (H : Hp) (xs : List V) (us : List Value) (Q : VK), Inv X pins σ H s → Vals xs us → r xs H Q →
    wpAny (model X.prog X.w) X.A (call f us) (EP X pins σ Q) X.xe s
def tOp (r : R2) (ta tb : TE) : TE := fun σ H Q => ta σ H fun x H1 => tb σ H1 fun y H2 => r x y H2 Q
def tUn (r : V → Hp → VK → Prop) (ta : TE) : TE := fun σ H Q => ta σ H fun x H1 => r x H1 Q
def rI (C : Int → Int → Prop) (g : Int → Int → V) : R2 := fun x y H Q => ∃ i j, x = .int i ∧ y = .int j ∧ C i j ∧ Q (g i j) H
def rI0 (g : Int → Int → V) : R2 := fun x y H Q => ∃ i j, x = .int i ∧ y = .int j ∧ Q (g i j) H
def rU (g : Int → V) : V → Hp → VK → Prop := fun x H Q => ∃ i, x = .int i ∧ Q (g i) H

section
variable {X : Cx} {a b c : Expr} {ta tb tc : TE} {pos : Pos}

theorem binT (ha : PE X a ta) (hb : PE X b tb) {pins : List (Addr × Obj)} {s : Shared} {σ : St} {H : Hp} {R : V → V → Hp → Prop} (I : Inv X pins σ H s)
    (h : ta σ H fun x H1 => tb σ H1 fun y H2 => R x y H2) {Q : Value → Shared → Prop} {f : Value → Value → Sem Value}
    (hf : ∀ v u s2 x y H2, Inv X pins σ H2 s2 → RelV x v → RelV y u → R x y H2 → wpAny (model X.prog X.w) X.A (f v u) Q X.xe s2) :
    wpAny (model X.prog X.w) X.A (eval a X.env) (fun v s₁ => wpAny (model X.prog X.w) X.A (eval b X.env) (fun u s₂ => wpAny (model X.prog X.w) X.A (f v u) Q X.xe s₂) X.xe s₁) X.xe s := by
  refine thn (ha pins s σ H _ I h) fun v s1 ⟨x, H1, I1, r1, q1⟩ => ?_
  refine thn (hb pins s1 σ H1 _ I1 q1) fun u s2 ⟨y, H2, I2, r2, q2⟩ => ?_
  exact hf v u s2 x y H2 I2 r1 r2 q2

theorem pe_op {op : Operator} {r : R2} (ho : OpR X (binaryOp op) r) (ha : PE X a ta) (hb : PE X b tb) : PE X (.BinOp a op b pos) (tOp r ta tb) := by
  intro pins s σ H Q I h
  exact wpAny_BinOp (binT ha hb I h fun v u s2 x y H2 I2 rx ry q => ho pins s2 σ H2 x y v u Q I2 rx ry q)
theorem pe_un {op : UnaryOp} {r : V → Hp → VK → Prop} (ho : UnR X (unaryOp op) r) (ha : PE X a ta) : PE X (.UnaryOp op a pos) (tUn r ta) := by
  intro pins s σ H Q I h
  exact UnaryOp_ (thn (ha pins s σ H _ I h) fun v s1 ⟨x, H1, I1, r1, q1⟩ => ho pins s1 σ H1 x v Q I1 r1 q1)
/-! ### ints -/
theorem opI {f : Value → Value → Sem Value} {C : Int → Int → Prop} {g : Int → Int → Int}
    (rule : ∀ (i j : Int) (t u : Tok) (s : Shared) (Q : Value → Shared → Prop) (E : Value → Shared → Prop), C i j → Q (.int (g i j) s.toks) { s with toks := s.toks + 1 } → wpAny (model X.prog X.w) X.A (f (.int i t) (.int j u)) Q E s) :
    OpR X f (rI C fun i j => .int (g i j)) := by
  intro pins s σ H x y v u Q I rx ry h
  obtain ⟨i, j, rfl, rfl, hc, q⟩ := h
  obtain ⟨t, rfl⟩ := rx
  obtain ⟨t', rfl⟩ := ry
  exact rule i j t t' s _ _ hc ⟨.int (g i j), H, I.tok _, ⟨_, rfl⟩, q⟩
theorem opI0 {f : Value → Value → Sem Value} {g : Int → Int → Int}
    (rule : ∀ (i j : Int) (t u : Tok) (s : Shared) (Q : Value → Shared → Prop) (E : Value → Shared → Prop), Q (.int (g i j) s.toks) { s with toks := s.toks + 1 } → wpAny (model X.prog X.w) X.A (f (.int i t) (.int j u)) Q E s) :
    OpR X f (rI0 fun i j => .int (g i j)) := by
  intro pins s σ H x y v u Q I rx ry h
  obtain ⟨i, j, rfl, rfl, q⟩ := h
  obtain ⟨t, rfl⟩ := rx
  obtain ⟨t', rfl⟩ := ry
  exact rule i j t t' s _ _ ⟨.int (g i j), H, I.tok _, ⟨_, rfl⟩, q⟩
theorem opB0 {f : Value → Value → Sem Value} {g : Int → Int → Bool}
    (rule : ∀ (i j : Int) (t u : Tok) (s : Shared) (Q : Value → Shared → Prop) (E : Value → Shared → Prop), Q (.bool (g i j)) s → wpAny (model X.prog X.w) X.A (f (.int i t) (.int j u)) Q E s) :
    OpR X f (rI0 fun i j => .bl (g i j)) := by
  intro pins s σ H x y v u Q I rx ry h
  obtain ⟨i, j, rfl, rfl, q⟩ := h
  obtain ⟨t, rfl⟩ := rx
  obtain ⟨t', rfl⟩ := ry
  exact rule i j t t' s _ _ ⟨.bl (g i j), H, I, rfl, q⟩

def CPow (i j : Int) : Prop := 0 ≤ j ∧ j ≤ 1000000 ∧ i.natAbs < 2 ^ 64
def CMul (i j : Int) : Prop := (-(2 ^ 64) < i ∧ i < 2 ^ 64) ∨ (-(2 ^ 64) < j ∧ j < 2 ^ 64)
theorem CMul.ok {i j : Int} (h : CMul i j) : IntMulOk i j := by
  rcases h with ⟨h1, h2⟩ | ⟨h1, h2⟩
  · exact .of_left (intBits_le_64 h1 h2)
  · exact .of_right (intBits_le_64 h1 h2)
theorem op_add : OpR X (binaryOp .Add) (rI0 fun i j => .int (i + j)) := opI0 fun _ _ _ _ _ _ _ q => add_int q
theorem op_sub : OpR X (binaryOp .Sub) (rI0 fun i j => .int (i - j)) := opI0 fun _ _ _ _ _ _ _ q => sub_int q
theorem op_mul : OpR X (binaryOp .Mult) (rI CMul fun i j => .int (i * j)) := opI fun _ _ _ _ _ _ _ hc q => mul_int q hc.ok
theorem op_mod : OpR X (binaryOp .Mod) (rI (fun _ j => 0 < j) fun i j => .int (i % j)) := opI fun i j _ _ _ _ _ hc q => by
  have h1 : (0 : Int) < j := hc
  exact mod_int' (by omega) (by rw [Int.fmod_eq_emod_of_nonneg i (by omega)]; exact q)
theorem op_pow : OpR X (binaryOp .Pow) (rI CPow fun i j => .int (i ^ j.toNat)) := opI fun _ _ _ _ _ _ _ hc q => pow_int_small hc.1 hc.2.1 hc.2.2 q
theorem unI {f : Value → Sem Value} {g : Int → Int}
    (rule : ∀ (i : Int) (t : Tok) (s : Shared) (Q : Value → Shared → Prop) (E : Value → Shared → Prop), Q (.int (g i) s.toks) { s with toks := s.toks + 1 } → wpAny (model X.prog X.w) X.A (f (.int i t)) Q E s) :
    UnR X f (rU fun i => .int (g i)) := by
  intro pins s σ H x v Q I rx h
  obtain ⟨i, rfl, q⟩ := h
  obtain ⟨t, rfl⟩ := rx
  exact rule i t s _ _ ⟨.int (g i), H, I.tok _, ⟨_, rfl⟩, q⟩
theorem un_neg : UnR X (unaryOp .USub) (rU fun i => .int (-i)) := unI fun _ _ _ _ _ q => neg_int q
/-! ### bools among ints: n += (a < b) -/
end

/-! ### comparisons -/
def scal : V → V → Bool
  | .non, .non => true | .non, .int _ => true | .int _, .non => true | .non, .bl _ => true | .bl _, .non => true | .non, .str _ => true | .str _, .non => true
  | .int _, .int _ => true | .bl _, .bl _ => true | .str _, .str _ => true | .byt _, .byt _ => true
  | .int _, .str _ => true | .str _, .int _ => true | .bl _, .str _ => true | .str _, .bl _ => true
  | _, _ => false
def rEq : R2 := fun x y H Q => scal x y = true ∧ Q (.bl (decide (x = y))) H
def rNe : R2 := fun x y H Q => scal x y = true ∧ Q (.bl (!decide (x = y))) H

theorem dec_int {i j : Int} : decide (V.int i = V.int j) = (i == j) := by
  rw [Bool.eq_iff_iff]
  simp
theorem dec_bl {i j : Bool} : decide (V.bl i = V.bl j) = (i == j) := by
  rw [Bool.eq_iff_iff]
  simp
theorem dec_str {i j : Str} : decide (V.str i = V.str j) = (i == j) := by
  rw [Bool.eq_iff_iff]
  simp
theorem dec_byt {i j : Array UInt8} : decide (V.byt i = V.byt j) = (i.toList == j.toList) := by
  rw [Bool.eq_iff_iff]
  cases i
  cases j
  simp

section
variable {X : Cx} {a b c : Expr} {ta tb tc : TE} {pos : Pos}
theorem fin_bl {pins : List (Addr × Obj)} {σ : St} {H : Hp} {s : Shared} {Q : VK} {k k' : Bool} (I : Inv X pins σ H s) (q : Q (.bl k) H) (e : k = k') : EP X pins σ Q (.bool k') s := by
  subst e
  exact ⟨.bl k, H, I, rfl, q⟩
theorem op_eq : OpR X (compareOp .Eq) rEq := by
  intro pins s σ H x y v u Q I rx ry h
  obtain ⟨hs, q⟩ := h
  cases x with
  | non =>
    cases rx
    cases y with
    | non => cases ry; exact PySem.EqNone.eq_none_none (fin_bl I q (by simp))
    | bl j => cases ry; exact PySem.EqNone.eq_none_bool (fin_bl I q (by simp))
    | int j => obtain ⟨t', rfl⟩ := ry; exact PySem.EqNone.eq_none_int (fin_bl I q (by simp))
    | str j => obtain ⟨t', rfl⟩ := ry; exact PySem.EqNone.eq_none_str (fin_bl I q (by simp))
    | _ => exact absurd (show false = true from hs) Bool.false_ne_true
  | bl i =>
    cases rx
    cases y with
    | non => cases ry; exact PySem.EqNone.eq_bool_none (fin_bl I q (by simp))
    | bl j => cases ry; exact eq_bool (fin_bl I q dec_bl)
    | str j => obtain ⟨t', rfl⟩ := ry; exact PySem.EqMixed.eq_bool_str (fin_bl I q (by simp))
    | _ => exact absurd (show false = true from hs) Bool.false_ne_true
  | int i =>
    obtain ⟨t, rfl⟩ := rx
    cases y with
    | non => cases ry; exact PySem.EqNone.eq_int_none (fin_bl I q (by simp))
    | int j => obtain ⟨t', rfl⟩ := ry; exact eq_int (fin_bl I q dec_int)
    | str j => obtain ⟨t', rfl⟩ := ry; exact PySem.EqMixed.eq_int_str (fin_bl I q (by simp))
    | _ => exact absurd (show false = true from hs) Bool.false_ne_true
  | str i =>
    obtain ⟨t, rfl⟩ := rx
    cases y with
    | non => cases ry; exact PySem.EqNone.eq_str_none (fin_bl I q (by simp))
    | bl j => cases ry; exact PySem.EqMixed.eq_str_bool (fin_bl I q (by simp))
    | int j => obtain ⟨t', rfl⟩ := ry; exact PySem.EqMixed.eq_str_int (fin_bl I q (by simp))
    | str j => obtain ⟨t', rfl⟩ := ry; exact eq_str (fin_bl I q dec_str)
    | _ => exact absurd (show false = true from hs) Bool.false_ne_true
  | byt i =>
    obtain ⟨t, rfl⟩ := rx
    cases y with
    | byt j => obtain ⟨t', rfl⟩ := ry; exact PySem.W.eq_bytes (fin_bl I q dec_byt)
    | _ => exact absurd (show false = true from hs) Bool.false_ne_true
  | _ => cases y <;> exact absurd (show false = true from hs) Bool.false_ne_true
theorem op_ne : OpR X (compareOp .NotEq) rNe := by
  intro pins s σ H x y v u Q I rx ry h
  obtain ⟨hs, q⟩ := h
  cases x with
  | non =>
    cases rx
    cases y with
    | non => cases ry; exact PySem.EqNone.ne_none_none (fin_bl I q (by simp))
    | bl j => cases ry; exact PySem.EqNone.ne_none_bool (fin_bl I q (by simp))
    | int j => obtain ⟨t', rfl⟩ := ry; exact PySem.EqNone.ne_none_int (fin_bl I q (by simp))
    | str j => obtain ⟨t', rfl⟩ := ry; exact PySem.EqNone.ne_none_str (fin_bl I q (by simp))
    | _ => exact absurd (show false = true from hs) Bool.false_ne_true
  | bl i =>
    cases rx
    cases y with
    | non => cases ry; exact PySem.EqNone.ne_bool_none (fin_bl I q (by simp))
    | bl j => cases ry; exact ne_bool (fin_bl I q (congrArg not dec_bl))
    | str j => obtain ⟨t', rfl⟩ := ry; exact PySem.EqMixed.ne_bool_str (fin_bl I q (by simp))
    | _ => exact absurd (show false = true from hs) Bool.false_ne_true
  | int i =>
    obtain ⟨t, rfl⟩ := rx
    cases y with
    | non => cases ry; exact PySem.EqNone.ne_int_none (fin_bl I q (by simp))
    | int j => obtain ⟨t', rfl⟩ := ry; exact ne_int (fin_bl I q (congrArg not dec_int))
    | str j => obtain ⟨t', rfl⟩ := ry; exact PySem.EqMixed.ne_int_str (fin_bl I q (by simp))
    | _ => exact absurd (show false = true from hs) Bool.false_ne_true
  | str i =>
    obtain ⟨t, rfl⟩ := rx
    cases y with
    | non => cases ry; exact PySem.EqNone.ne_str_none (fin_bl I q (by simp))
    | bl j => cases ry; exact PySem.EqMixed.ne_str_bool (fin_bl I q (by simp))
    | int j => obtain ⟨t', rfl⟩ := ry; exact PySem.EqMixed.ne_str_int (fin_bl I q (by simp))
    | str j => obtain ⟨t', rfl⟩ := ry; exact ne_str (fin_bl I q (congrArg not dec_str))
    | _ => exact absurd (show false = true from hs) Bool.false_ne_true
  | byt i =>
    obtain ⟨t, rfl⟩ := rx
    cases y with
    | byt j => obtain ⟨t', rfl⟩ := ry; exact PySem.W.ne_bytes (fin_bl I q (congrArg not dec_byt))
    | _ => exact absurd (show false = true from hs) Bool.false_ne_true
  | _ => cases y <;> exact absurd (show false = true from hs) Bool.false_ne_true

theorem op_lt : OpR X (compareOp .Lt) (rI0 fun i j => .bl (decide (i < j))) := opB0 fun _ _ _ _ _ _ _ q => lt_int q
theorem op_le : OpR X (compareOp .LtE) (rI0 fun i j => .bl (decide (i ≤ j))) := opB0 fun _ _ _ _ _ _ _ q => le_int q
theorem op_gt : OpR X (compareOp .Gt) (rI0 fun i j => .bl (decide (j < i))) := opB0 fun _ _ _ _ _ _ _ q => gt_int q
theorem op_ge : OpR X (compareOp .GtE) (rI0 fun i j => .bl (decide (j ≤ i))) := opB0 fun _ _ _ _ _ _ _ q => ge_int q
theorem OpR.or {f : Value → Value → Sem Value} {r r' : R2} (h : OpR X f r) (h' : OpR X f r') : OpR X f (fun x y H Q => r x y H Q ∨ r' x y H Q) := by
  intro pins s σ H x y v u Q I rx ry q
  rcases q with q | q
  · exact h pins s σ H x y v u Q I rx ry q
  · exact h' pins s σ H x y v u Q I rx ry q

theorem nomark (b : Expr) {op : CmpOp} (h : op ≠ .In := by decide) (h2 : op ≠ .NotIn := by decide) : behindInMarks op b = false := by
  have e1 : (op == CmpOp.In) = false := by cases op <;> first | rfl | exact absurd rfl h
  have e2 : (op == CmpOp.NotIn) = false := by cases op <;> first | rfl | exact absurd rfl h2
  cases b <;> simp [behindInMarks, e1, e2]
theorem pe_cmpR {op : CmpOp} {r : R2} (ho : OpR X (compareOp op) r) (ha : PE X a ta) (hb : PE X b tb) (hm : behindInMarks op b = false) : PE X (.Compare a [op] [b] pos) (tOp r ta tb) := by
  intro pins s σ H Q I h
  exact wpAny_Compare1 (binT ha hb I h fun v u s2 x y H2 I2 rx ry q => ho pins s2 σ H2 x y v u Q I2 rx ry q) hm
def tTest (t : TE) : TT := fun σ H Q => t σ H fun x H' => ∃ k, x = .bl k ∧ Q k H'
theorem pt_cmpR {op : CmpOp} {r : R2} (ho : OpR X (compareOp op) r) (ha : PE X a ta) (hb : PE X b tb) (hm : behindInMarks op b = false) : PT X (.Compare a [op] [b] pos) (tTest (tOp r ta tb)) := by
  intro pins s σ H Q I h
  refine wpAny_isTrue_Compare1 (thn (ha pins s σ H _ I h) fun v s1 ⟨x, H1, I1, r1, q1⟩ => thn (hb pins s1 σ H1 _ I1 q1) fun u s2 ⟨y, H2, I2, r2, q2⟩ =>
    thn (ho pins s2 σ H2 x y v u _ I2 r1 r2 q2) fun c s3 ⟨z, H3, I3, r3, k, e, q3⟩ => ?_) hm
  subst e
  cases r3
  exact wpAny_truthy_bool ⟨H3, I3, q3⟩
/-! ### truth -/
theorem line63 : (sizeLine : Nat) < 2 ^ 63 := by rw [sizeLine_eq]; decide
/-! ### strs and bytes -/
/-! ### scalar builtins, by CallR -/
theorem vals1 {x : V} {us : List Value} (r : Vals [x] us) : ∃ u, us = [u] ∧ RelV x u := by
  cases r with
  | cons r1 r2 => cases r2; exact ⟨_, rfl, r1⟩
theorem vals2 {x y : V} {us : List Value} (r : Vals [x, y] us) : ∃ u w', us = [u, w'] ∧ RelV x u ∧ RelV y w' := by
  cases r with
  | cons r1 r2 =>
    cases r2 with
    | cons r3 r4 => cases r4; exact ⟨_, _, rfl, r1, r3⟩
theorem call_abs : CallR X (.builtin "abs") (fun xs H Q => ∃ i, xs = [.int i] ∧ Q (.int (if i < 0 then -i else i)) H) := by
  intro pins s σ H xs us Q I r h
  obtain ⟨i, rfl, q⟩ := h
  obtain ⟨u, rfl, t, rfl⟩ := vals1 r
  exact call_abs_int fun u tk => ⟨.int (if i < 0 then -i else i), H, I.tok _, ⟨_, rfl⟩, q⟩
theorem call_max2 (hc : X.calm = true) : CallR X (.builtin "max") (fun xs H Q => ∃ i j, xs = [.int i, .int j] ∧ Q (.int (if j > i then j else i)) H) := by
  intro pins s σ H xs us Q I r h
  obtain ⟨i, j, rfl, q⟩ := h
  obtain ⟨u, w', rfl, ⟨t, rfl⟩, ⟨t', rfl⟩⟩ := vals2 r
  refine max_two_ints (I.ok.hd hc) fun h' tk k => ⟨_, H, I.kept k, ?_, q⟩
  by_cases hj : j > i
  · rw [if_pos hj, if_pos hj]; exact ⟨_, rfl⟩
  · rw [if_neg hj, if_neg hj]; exact ⟨_, rfl⟩
theorem call_min2 (hc : X.calm = true) : CallR X (.builtin "min") (fun xs H Q => ∃ i j, xs = [.int i, .int j] ∧ Q (.int (if j < i then j else i)) H) := by
  intro pins s σ H xs us Q I r h
  obtain ⟨i, j, rfl, q⟩ := h
  obtain ⟨u, w', rfl, ⟨t, rfl⟩, ⟨t', rfl⟩⟩ := vals2 r
  refine min_two_ints (I.ok.hd hc) fun h' tk k => ⟨_, H, I.kept k, ?_, q⟩
  by_cases hj : j < i
  · rw [if_pos hj, if_pos hj]; exact ⟨_, rfl⟩
  · rw [if_neg hj, if_neg hj]; exact ⟨_, rfl⟩
end
end L2

namespace L2
open PySem PySem.Spec PyProof.Rows

/-! ### an instance, its attributes a map -/
structure ObjM (h : Heap) (x dx C : Addr) (mA : Str → Option Value) : Prop where
  obj : h.get? x = some (PySem.W.instObj C dx)
  ns : h.Ns1 dx mA
  ne : dx ≠ x

theorem lookIn_ns {h : Heap} {dx : Addr} {mA : Str → Option Value} (n : h.Ns1 dx mA) : ∃ od, h.get? dx = some od ∧ ∀ name, PySem.W.lookIn name od = some (mA name) := by
  obtain ⟨o, es, ep, ho, hd, hk, _, hm⟩ := n
  refine ⟨o, ho, fun name => ?_⟩
  have e := hm name
  unfold nsFind findBy at e
  rw [← Array.find?_toList] at e
  unfold PySem.W.lookIn
  rw [hd]
  dsimp only
  split
  · rename_i y q
    rw [q] at e
    exact congrArg some e
  · rename_i q
    rw [q] at e
    have a : es.toList.any (·.refKey) = false := by
      rw [List.any_eq_false]
      intro y hy
      obtain ⟨z, t, hkey⟩ := hk y (Array.mem_toList_iff.mp hy)
      simp [DictEntry.refKey, hkey]
    have a' : ¬ es.toList.any (·.refKey) = true := by rw [a]; exact Bool.false_ne_true
    rw [if_neg a']
    exact congrArg some e

theorem ObjM.look {h : Heap} {x dx C : Addr} {mA : Str → Option Value} (I : ObjM h x dx C mA) : ∃ od, PySem.W.InstAt h x (PySem.W.instObj C dx) C (some od) ∧ ∀ name, PySem.W.lookIn name od = some (mA name) :=
  let ⟨od, ho, hl⟩ := lookIn_ns I.ns
  ⟨od, ⟨I.obj, rfl, rfl, ho⟩, hl⟩

section
variable {prog : Program} {w : World} {A : Around} {E : Value → Shared → Prop} {s : Shared} {K : PySem.W.Frag} {x dx C f : Addr} {mA : Str → Option Value} {name : Str} {v : Value}

theorem get_map {expr : Bool} {Q : Value → Shared → Prop} (X : K.In s.heap) (I : ObjM s.heap x dx C mA) (hg : PySem.W.plainGet K C name = true) (hh : PySem.W.hasDictIn K C = true)
    (ha : PySem.W.findIn K (.ref C) name = some none) (hv : mA name = some v) (hv' : PySem.W.handedIn v = true) (h : Q v { s with toks := s.toks + 1 }) :
    wpAny (model prog w) A (getAttr (.ref x) name expr) Q E s := by
  obtain ⟨od, J, hl⟩ := I.look
  exact PySem.W.get_value X J (PySem.W.plainGet_of hg).1 (PySem.W.findObj_own hh ha rfl (by rw [hl, hv])) hv' h

theorem set_map {ns : List Str} {Q : Unit → Shared → Prop} (X : K.In s.heap) (I : ObjM s.heap x dx C mA)
    (hs : PySem.W.findIn K (.ref C) "__setattr__" = some (some (.builtin "object.__setattr__"))) (hp : PySem.W.plainOver K C = true) (ht : PySem.W.takerIn K C name = some none) (hh : PySem.W.hasDictIn K C = true)
    (hw : PySem.Within mA ns) (hsz : ns.length ≤ sizeLine)
    (h : ∀ h', ObjM h' x dx C (fun y => if y = name then some v else mA y) → Heap.SameBut dx s.heap h' → Q () { s with heap := h', toks := s.toks + 2 }) :
    wpAny (model prog w) A (setAttr (.ref x) name v) Q E s := by
  obtain ⟨od, J, hl⟩ := I.look
  refine PySem.W.set_plain X J hs (PySem.W.osa_open (s := { s with toks := s.toks + 1 }) (r := none) X J hp ht fun b => ?_)
  obtain ⟨cd, hc, hd'⟩ := PySem.W.any_some hh
  have hx : s.heap.get? x = some ⟨.ref C, some dx, .plain, #[]⟩ := I.obj
  refine wpAny_bind (wpAny_pure (wpAny_bind (wpAny_bind (wpAny_loadPart hx (wpAny_bind (PySem.W.Looks.here (s := { s with toks := s.toks + 1 }) (PySem.W.looks_clsIn X hc) ?_))))))
  rw [hd']
  refine wpAny_pure (a := some dx) (wpAny_bind (wpAny_pure (wpAny_bind ?_)))
  refine wpAny_nsSet1 (s := { s with toks := s.toks + 1 }) I.ns fun h' hn2 hs2 => ?_
  obtain ⟨oD, esD, epD, hoD, hdD, hcD⟩ := hn2.count (PySem.Within.cons name v hw)
  refine wpAny_bind (wpAny_lookBehind hoD (by rw [hdD]; exact pastItsLine_dict (Nat.le_trans hcD (by rw [List.length_cons]; omega))) ?_)
  exact wpAny_pure (h _ ⟨(hs2.2 _ (Ne.symm I.ne)).trans I.obj, hn2, I.ne⟩ hs2)

theorem make_map {R : Result → Shared → Prop} {vs : List Value} {kw : List (Str × Value)} (X : K.In s.heap) (hm : PySem.W.makesIn K C = true)
    (hi : PySem.W.findIn K (.ref C) "__init__" = some (some (.ref f))) (hf : PySem.W.typeIn K (.ref f) = some (.type "function"))
    (h : codeAny (model prog w) (A.under (.builtin "type.__call__" ⟨.ref C :: vs, kw⟩)) (.call (.ref f) ⟨.ref (s.heap.objs.size + 1) :: vs, kw⟩) (PySem.W.InitBack (s.heap.objs.size + 1) R)
      { s with heap := (s.heap.push PySem.W.emptyDict).push (PySem.W.instObj C s.heap.objs.size) }) :
    codeAny (model prog w) A (.call (.ref C) ⟨vs, kw⟩) R s := by
  obtain ⟨hh, g, d, t, os⟩ := s
  exact PySem.W.make_core (PySem.W.makes_of X hm) (PySem.W.looks_findIn X hi) (fun self => PySem.W.bind_fn X self hf) (.inl rfl) h
end

/-! ### the attributes as a list of pairs -/
def putF (f : Str) (v : V) : List (Str × V) → List (Str × V)
  | [] => [(f, v)]
  | (g, x) :: r => if g = f then (g, v) :: r else (g, x) :: putF f v r
theorem lookup_putF (f g : Str) (v : V) : ∀ fs : List (Str × V), (putF f v fs).lookup g = if g = f then some v else fs.lookup g
  | [] => by
    show List.lookup g [(f, v)] = _
    by_cases h : g = f
    · have hb : (g == f) = true := beq_iff_eq.mpr h
      simp only [List.lookup, hb, if_pos h]
    · have hb : (g == f) = false := beq_eq_false_iff_ne.mpr h
      simp only [List.lookup, hb, if_neg h]
  | (k, x) :: r => by
    have ih := lookup_putF f g v r
    rw [show putF f v ((k, x) :: r) = (if k = f then (k, v) :: r else (k, x) :: putF f v r) from rfl]
    by_cases hk : k = f
    · rw [if_pos hk]
      by_cases h : g = k
      · have hb : (g == k) = true := beq_iff_eq.mpr h
        simp only [List.lookup, hb, if_pos (h.trans hk)]
      · have hb : (g == k) = false := beq_eq_false_iff_ne.mpr h
        simp only [List.lookup, hb, if_neg (fun e : g = f => h (e.trans hk.symm))]
    · rw [if_neg hk]
      by_cases h : g = k
      · have hb : (g == k) = true := beq_iff_eq.mpr h
        simp only [List.lookup, hb, if_neg (fun e : g = f => hk (h.symm.trans e))]
      · have hb : (g == k) = false := beq_eq_false_iff_ne.mpr h
        simp only [List.lookup, hb]
        exact ih
theorem keys_putF (f : Str) (v : V) : ∀ fs : List (Str × V), f ∈ (putF f v fs).map (·.1) ∧ ∀ g, g ∈ fs.map (·.1) → g ∈ (putF f v fs).map (·.1)
  | [] => ⟨by simp [putF], fun g h => by simp at h⟩
  | (k, x) :: r => by
    obtain ⟨i1, i2⟩ := keys_putF f v r
    rw [show putF f v ((k, x) :: r) = (if k = f then (k, v) :: r else (k, x) :: putF f v r) from rfl]
    by_cases hk : k = f
    · rw [if_pos hk]
      subst hk
      exact ⟨by simp, fun g h => by simpa using h⟩
    · rw [if_neg hk]
      refine ⟨?_, fun g h => ?_⟩
      · rw [List.map_cons]
        exact List.mem_cons_of_mem _ i1
      · rw [List.map_cons] at h ⊢
        rcases List.mem_cons.mp h with e | e
        · exact List.mem_cons.mpr (.inl e)
        · exact List.mem_cons_of_mem _ (i2 g e)
theorem length_putF (f : Str) (v : V) : ∀ fs : List (Str × V), (putF f v fs).length ≤ fs.length + 1
  | [] => by simp [putF]
  | (k, x) :: r => by
    have ih := length_putF f v r
    rw [show putF f v ((k, x) :: r) = (if k = f then (k, v) :: r else (k, x) :: putF f v r) from rfl]
    by_cases hk : k = f
    · rw [if_pos hk, List.length_cons, List.length_cons]; omega
    · rw [if_neg hk, List.length_cons, List.length_cons]; omega

theorem RelO.some_of {v : V} {o : Option Value} (r : RelO (some v) o) : ∃ u, o = some u ∧ RelV v u := by
  cases o with
  | none => exact (show False from r).elim
  | some u => exact ⟨u, rfl, r⟩
theorem RelO.none_of {o : Option Value} (r : RelO none o) : o = none := by
  cases o with
  | none => rfl
  | some u => exact (show False from r).elim
theorem handed_of {v : V} {u : Value} (r : RelV v u) : PySem.W.handedIn u = true := by
  cases v with
  | non => cases (show u = Value.none from r); rfl
  | bl b => cases (show u = Value.bool b from r); rfl
  | int i => obtain ⟨t, e⟩ := (show ∃ t, u = Value.int i t from r); cases e; rfl
  | str x => obtain ⟨t, e⟩ := (show ∃ t, u = Value.str x t from r); cases e; rfl
  | byt b => obtain ⟨t, e⟩ := (show ∃ t, u = Value.bytes b t from r); cases e; rfl
  | flt b => obtain ⟨t, e⟩ := (show ∃ t, u = Value.float b t from r); cases e; rfl
  | ref a => cases (show u = Value.ref a from r); rfl
  | ty n => cases (show u = Value.type n from r); rfl

section
variable {P : Program} {w : World} {H H' : Hp} {h h' : Heap} {a C dx : Addr} {fs fs' : List (Str × V)}
theorem ins_get (hok : HOk P w H h) (e : H a = some (.ins C dx fs)) : ∃ mA, ObjM h a dx C mA ∧ (∀ f, RelO (fs.lookup f) (mA f)) ∧ PySem.Within mA (fs.map (·.1)) ∧ fs.length ≤ 1000 ∧ H dx = some (.own a) := by
  obtain ⟨d, z, ne, ob, mA, n, r, q⟩ := (show ObjOk P w H h a (.ins C dx fs) from hok a _ e)
  exact ⟨mA, ⟨ob, n, ne⟩, r, q, z, d⟩
end

/-! ### what of the text a class must have -/
structure Cls (K : PySem.W.Frag) (C : Addr) : Prop where
  pg : PySem.W.plainGet K C Str.empty = true
  hd : PySem.W.hasDictIn K C = true
  po : PySem.W.plainOver K C = true
  sa : PySem.W.findIn K (.ref C) "__setattr__" = some (some (.builtin "object.__setattr__"))
theorem Cls.get {K : PySem.W.Frag} {C : Addr} (c : Cls K C) (f : Str) : PySem.W.plainGet K C f = true := c.pg
def NoAttr (K : PySem.W.Frag) (C : Addr) (f : Str) : Prop := PySem.W.findIn K (.ref C) f = some none
theorem NoAttr.taker {K : PySem.W.Frag} {C : Addr} {f : Str} (n : NoAttr K C f) : PySem.W.takerIn K C f = some none := by
  unfold PySem.W.takerIn
  rw [show PySem.W.findIn K (.ref C) f = some none from n]
  rfl
structure Con (K : PySem.W.Frag) (C : Addr) (f : Str) (v : V) (u : Value) : Prop where
  at_ : PySem.W.findIn K (.ref C) f = some (some u)
  rel : RelV v u
  get : PySem.W.specialIn K u "__get__" = some none
  cp : PySem.W.copiedNames.contains f = false
structure Meth (K : PySem.W.Frag) (C : Addr) (m : Str) (f : Addr) : Prop where
  at_ : PySem.W.findIn K (.ref C) m = some (some (.ref f))
  fn : PySem.W.isFn K (.ref f) = true
  kp : PySem.W.keepIn K (.ref f) = true

section
variable {X : Cx} {pins : List (Addr × Obj)} {σ : St} {H : Hp} {s : Shared} {a C dx : Addr} {fs : List (Str × V)} {f : Str} {v : V} {A : Around} {E : Value → Shared → Prop}

theorem getattr_ok {b : Bool} {Q : Value → Shared → Prop} (I : Inv X pins σ H s) (e : H a = some (.ins C dx fs)) (c : Cls X.K C) (n : NoAttr X.K C f) (l : fs.lookup f = some v)
    (h : ∀ u s', Inv X pins σ H s' → RelV v u → Q u s') : wpAny (model X.prog X.w) A (getAttr (.ref a) f b) Q E s := by
  obtain ⟨mA, O, r, _, _, _⟩ := ins_get I.hok e
  obtain ⟨u, hu, ru⟩ := RelO.some_of (v := v) (o := mA f) (by rw [← l]; exact r f)
  exact get_map I.kIn O (c.get f) c.hd n hu (handed_of ru) (h u _ (I.tok _) ru)

theorem setattr_ok {y : V} {u : Value} {Q : Unit → Shared → Prop} (I : Inv X pins σ H s) (e : H a = some (.ins C dx fs)) (c : Cls X.K C) (n : NoAttr X.K C f) (hl : fs.length < 1000) (ry : RelV y u)
    (h : ∀ s', Inv X pins σ (upd H a (.ins C dx (putF f y fs))) s' → Q () s') : wpAny (model X.prog X.w) A (setAttr (.ref a) f u) Q E s := by
  obtain ⟨mA, O, r, wi, _, ho⟩ := ins_get I.hok e
  have hz : (fs.map (·.1)).length ≤ sizeLine := by rw [List.length_map, sizeLine_eq]; omega
  refine set_map I.kIn O c.sa c.po n.taker c.hd wi hz fun h' O' sb => h _ ?_
  have hd : ∃ o, h'.get? dx = some o := let ⟨o, _, _, e', _⟩ := O'.ns; ⟨o, e'⟩
  refine I.write (x := a) (e := dx) (by rw [e]; exact True.intro) (.inr ho) (fun b q hb z => (sb.2 b hb).trans z) hd ?_
  refine ⟨by rw [upd_ne O.ne]; exact ho, ?_, O.ne, O'.obj, _, O'.ns, fun g => ?_, fun g hg => ?_⟩
  · have := length_putF f y fs; omega
  · show RelO ((putF f y fs).lookup g) (if g = f then some u else mA g)
    rw [lookup_putF]
    by_cases q : g = f
    · rw [if_pos q, if_pos q]; exact ry
    · rw [if_neg q, if_neg q]; exact r g
  · by_cases q : g = f
    · rw [q]; exact (keys_putF f y fs).1
    · refine (keys_putF f y fs).2 g (wi g fun z => hg ?_)
      show (if g = f then some u else mA g) = none
      rw [if_neg q]; exact z

theorem Inv.made (I : Inv X pins σ H s) : Inv X pins σ (upd (upd H s.heap.objs.size (.own (s.heap.objs.size + 1))) (s.heap.objs.size + 1) (.ins C s.heap.objs.size []))
    { s with heap := (s.heap.push PySem.W.emptyDict).push (PySem.W.instObj C s.heap.objs.size) } := by
  have e1 : (s.heap.push PySem.W.emptyDict).get? s.heap.objs.size = some PySem.W.emptyDict := Heap.get?_push_size s.heap rfl
  have e2 : ((s.heap.push PySem.W.emptyDict).push (PySem.W.instObj C s.heap.objs.size)).get? (s.heap.objs.size + 1) = some (PySem.W.instObj C s.heap.objs.size) := by
    have := Heap.get?_push_size (s.heap.push PySem.W.emptyDict) (o := PySem.W.instObj C s.heap.objs.size) rfl
    rwa [Heap.size_push] at this
  have e3 : (s.heap.push PySem.W.emptyDict).Ns s.heap.objs.size (fun _ => none) := ⟨PySem.W.emptyDict, #[], _, e1, rfl, (fun e he => absurd he (by simp)), fun _ => rfl⟩
  have I1 := I.laid (a := s.heap.objs.size) (o := .own (s.heap.objs.size + 1)) (h' := s.heap.push PySem.W.emptyDict) (t' := s.toks) (fun b u q => Heap.get?_push_of_some _ q) (Nat.le_refl _) ⟨_, e1⟩
  refine I1.laid (a := s.heap.objs.size + 1) (o := .ins C s.heap.objs.size []) (t' := s.toks) (fun b u q => Heap.get?_push_of_some _ q) (Nat.le_of_eq (Heap.size_push _ _)) ?_
  have ne : s.heap.objs.size ≠ s.heap.objs.size + 1 := Nat.ne_of_lt (Nat.lt_succ_self _)
  refine ⟨by rw [upd_ne ne, upd_same], Nat.zero_le _, ne, e2, fun _ => none, (Heap.Ns1.of_empty e3).at fun o q => Heap.get?_push_of_some _ q, fun _ => True.intro, fun y hy => absurd rfl hy⟩

theorem attr_of {prog : Program} {w : World} {env : Env} {e : Expr} {f : Str} {pos : Pos} {s : Shared} {Q : Value → Shared → Prop} (hb : attributeBase e f env (eval e env) = eval e env)
    (h : wpAny (model prog w) A (eval e env) (fun o s₁ => wpAny (model prog w) A (getAttr o f true) Q E s₁) E s) : wpAny (model prog w) A (eval (.Attribute e f pos) env) Q E s :=
  Attribute_any_ h (by rw [arm_eval_Attribute, hb])
end

/-! ### readings and rules -/
def tFld (K : PySem.W.Frag) (ta : TE) (f : Str) : TE := fun σ H Q => ta σ H fun x H1 => ∃ a C dx fs v, x = .ref a ∧ H1 a = some (.ins C dx fs) ∧ Cls K C ∧ NoAttr K C f ∧ fs.lookup f = some v ∧ Q v H1
def sFld (K : PySem.W.Frag) (ta tv : TE) (f : Str) : TS := fun D σ H => tv σ H fun y H1 => ta σ H1 fun x H2 => ∃ a C dx fs, x = .ref a ∧ H2 a = some (.ins C dx fs) ∧ Cls K C ∧ NoAttr K C f ∧ fs.length < 1000 ∧
  D.nx σ (upd H2 a (.ins C dx (putF f y fs)))
section
variable {X : Cx} {o e value : Expr} {f : Str} {pos pos' tpos : Pos} {ta tv : TE}
theorem pe_fld (he : PE X e ta) (hb : attributeBase e f X.env (eval e X.env) = eval e X.env) : PE X (.Attribute e f pos) (tFld X.K ta f) := by
  intro pins s σ H Q I h
  refine attr_of hb (thn (he pins s σ H _ I h) fun u s1 ⟨x, H1, I1, rx, a, C, dx, fs, v, ex, ea, c, n, l, q⟩ => ?_)
  subst ex
  obtain rfl : u = Value.ref a := rx
  exact getattr_ok I1 ea c n l fun u' s2 I2 ru => ⟨v, H1, I2, ru, q⟩
theorem ps_fld (ha : PE X o ta) (hv : PE X value tv) (hs : swapsWith value (some (.Attribute o f pos')) pos.line X.env = pure false) : PS X (.Assign [.Attribute o f pos'] value pos) (sFld X.K ta tv f) := by
  intro pins s σ H D I h
  refine plainObj_wpAny_Assign_Attribute (thn (hv pins s σ H _ I h) fun u s1 ⟨y, H1, I1, ry, q⟩ => thn (ha pins s1 σ H1 _ I1 q) fun ov s2 ⟨x, H2, I2, rx, a, C, dx, fs, ex, ea, c, n, l, q2⟩ => ?_) hs
  subst ex
  obtain rfl : ov = Value.ref a := rx
  exact setattr_ok I2 ea c n l ry fun s3 I3 => ⟨σ, _, I3, q2⟩
end

/-! ### isinstance -/
section
variable {X : Cx} {pins : List (Addr × Obj)} {σ : St} {H : Hp} {s : Shared} {A : Around} {E : Value → Shared → Prop} {Q : Value → Shared → Prop} {c : Value} {b : Bool}
inductive TyOf (K : PySem.W.Frag) (H : Hp) : V → Value → Prop where
  | non : TyOf K H .non (.type "NoneType")
  | bl (x : Bool) : TyOf K H (.bl x) (.type "bool")
  | int (i : Int) : TyOf K H (.int i) (.type "int")
  | str (x : Str) : TyOf K H (.str x) (.type "str")
  | flt (x : UInt64) : TyOf K H (.flt x) (.type "float")
  | lst {a : Addr} {xs : List V} (e : H a = some (.lst xs)) : TyOf K H (.ref a) (.type "list")
  | frz {a : Addr} {o : Obj} {xs : List V} (e : H a = some (.frz o (.lst xs))) : TyOf K H (.ref a) (.type "list")
  | tup {a : Addr} {xs : List V} (e : H a = some (.tup xs)) : TyOf K H (.ref a) (.type "tuple")
  | dK {a : Addr} {kvs : List (Key × V)} (e : H a = some (.dK kvs)) : TyOf K H (.ref a) (.type "dict")
  | dT {a : Addr} {kvs : List (List Key × V)} (e : H a = some (.dT kvs)) : TyOf K H (.ref a) (.type "dict")
  | ins {a C dx : Addr} {fs : List (Str × V)} (e : H a = some (.ins C dx fs)) (cl : Cls K C) (ha : PySem.W.findIn K (.ref C) "__class__" = some (some (.builtin "object.__class__")))
      (hn : PySem.W.specialIn K (.builtin "object.__class__") "__get__" = some (some (.builtin "getset_descriptor.__get__"))) (htk : PySem.W.takesIn K (.builtin "object.__class__") = some true)
      (hm : PySem.W.mroIn K C (.type "object") = some true) : TyOf K H (.ref a) (.ref C)
theorem isinst_ok {x : V} {u t : Value} (I : Inv X pins σ H s) (rx : RelV x u) (ty : TyOf X.K H x t) (e : PySem.W.kitOne X.K t c = some b) (h : ∀ tk, Q (.bool b) { s with toks := tk }) :
    wpAny (model X.prog X.w) A (call (.builtin "isinstance") [u, c]) Q E s := by
  cases ty with
  | non => cases (show u = Value.none from rx); exact PySem.W.kia_one PySem.W.kitx_none I.kIn True.intro e (fun z => nomatch z) h
  | bl y => cases (show u = Value.bool y from rx); exact PySem.W.kia_one PySem.W.kitx_bool I.kIn True.intro e (fun z => nomatch z) h
  | int i => obtain ⟨t, q⟩ := (show ∃ t, u = Value.int i t from rx); cases q; exact PySem.W.kia_one PySem.W.kitx_int I.kIn True.intro e (fun z => nomatch z) h
  | str y => obtain ⟨t, q⟩ := (show ∃ t, u = Value.str y t from rx); cases q; exact PySem.W.kia_one PySem.W.kitx_str I.kIn True.intro e (fun z => nomatch z) h
  | flt y => obtain ⟨t, q⟩ := (show ∃ t, u = Value.float y t from rx); cases q; exact PySem.W.kia_one PySem.W.kitx_float I.kIn True.intro e (fun z => nomatch z) h
  | @lst a xs ea =>
    cases (show u = Value.ref a from rx)
    obtain ⟨_, _, n, _, h1⟩ := (show ObjOk X.prog X.w H s.heap a (.lst xs) from I.hok a _ ea)
    exact PySem.W.kia_one PySem.W.kitx_list I.kIn ⟨_, h1, rfl⟩ e (fun z => nomatch z) h
  | @frz a ob xs ea =>
    cases (show u = Value.ref a from rx)
    obtain ⟨_, _, _, n, _, h1⟩ := (show ObjOk X.prog X.w H s.heap a (.frz ob (.lst xs)) from I.hok a _ ea)
    exact PySem.W.kia_one PySem.W.kitx_list I.kIn ⟨_, h1, rfl⟩ e (fun z => nomatch z) h
  | @tup a xs ea =>
    cases (show u = Value.ref a from rx)
    obtain ⟨_, _, _, p⟩ := (show ObjOk X.prog X.w H s.heap a (.tup xs) from I.hok a _ ea)
    obtain ⟨o, h1, h2, _⟩ := p
    exact PySem.W.kia_one PySem.W.kitx_tuple I.kIn ⟨o, h1, h2⟩ e (fun z => nomatch z) h
  | @dK a kvs ea =>
    cases (show u = Value.ref a from rx)
    obtain ⟨_, _, vs, _, p⟩ := (show ObjOk X.prog X.w H s.heap a (.dK kvs) from I.hok a _ ea)
    obtain ⟨o, es, ep, h1, h2, _⟩ := p
    exact PySem.W.kia_one PySem.W.kitx_dict I.kIn ⟨o, h1, h2.1⟩ e (fun z => nomatch z) h
  | @dT a kvs ea =>
    cases (show u = Value.ref a from rx)
    obtain ⟨_, _, xs, _, o, es, ep, h1, h2, _⟩ := (show ObjOk X.prog X.w H s.heap a (.dT kvs) from I.hok a _ ea)
    exact PySem.W.kia_one PySem.W.kitx_dict I.kIn ⟨o, h1, h2.1⟩ e (fun z => nomatch z) h
  | @ins a C dx fs ea cl ha hn htk hm =>
    cases (show u = Value.ref a from rx)
    obtain ⟨mA, O, _⟩ := ins_get I.hok ea
    obtain ⟨od, J, _⟩ := O.look
    exact PySem.W.kia_one (PySem.W.kitx_own (cl.get _) cl.hd ha hn htk hm) I.kIn J e (fun z => nomatch z) h
end
end L2

namespace L2
open PySem PySem.Spec PyProof.Rows

/-! ### room -/
structure Room (k : Nat) (A : Around) : Prop where
  hd : A.handled = none
  dp : A.depth + 3 * k + 5 < recursionLimit
  un : A.units + 16 * k + 200 < cLine
theorem Room.mono {j k : Nat} {A : Around} (r : Room k A) (h : j ≤ k) : Room j A := ⟨r.hd, by have := r.dp; omega, by have := r.un; omega⟩
theorem Room.deeper {k : Nat} {A : Around} (r : Room (k + 1) A) (env : Env) : Room k (A.deeper env) :=
  ⟨r.hd, by have := r.dp; show A.depth + 1 + 3 * k + 5 < _; omega, by have := r.un; show A.units + 3 + 16 * k + 200 < _; omega⟩
theorem Room.in1 {k : Nat} {A : Around} (r : Room (k + 1) A) : Room k A.in1 :=
  ⟨r.hd, by have := r.dp; show A.depth + 3 * k + 5 < _; omega, by have := r.un; show A.units + 1 + 16 * k + 200 < _; omega⟩
theorem make_depth {A : Around} {C : Addr} {us : List Value} {kw : List (Str × Value)} : (A.under (.builtin "type.__call__" ⟨.ref C :: us, kw⟩)).depth = A.depth + 1 := by
  first | rfl | simp [Around.under, Code.weight, Code.isCreation, Code.isGuard, Code.isCaller, Code.frames, Code.isFrame, guardIds]
theorem make_units {A : Around} {C : Addr} {us : List Value} {kw : List (Str × Value)} : (A.under (.builtin "type.__call__" ⟨.ref C :: us, kw⟩)).units = A.units + 1 := by
  first | rfl | simp [Around.under, Code.cUnits, Code.frames, Code.isFrame]
theorem Room.make {k : Nat} {A : Around} (r : Room (k + 1) A) (C : Addr) (us : List Value) (kw : List (Str × Value)) : Room k (A.under (.builtin "type.__call__" ⟨.ref C :: us, kw⟩)) :=
  ⟨r.hd, by have := r.dp; rw [make_depth]; omega, by have := r.un; rw [make_units]; omega⟩
theorem Room.depth {k : Nat} {A : Around} (r : Room k A) : A.depth < recursionLimit := by have := r.dp; omega
theorem Room.units {k : Nat} {A : Around} (r : Room k A) : A.units + 64 < cLine := by have := r.un; omega
/-! ### argument lists and displays -/
def tNil : TA := fun _ H Q => Q [] H
def tCons (ta : TE) (tr : TA) : TA := fun σ H Q => ta σ H fun x H1 => tr σ H1 fun xs H2 => Q (x :: xs) H2
section
variable {X : Cx} {e : Expr} {es : List Expr} {te : TE} {t : TA} {pos : Pos}
theorem pa_nil : PA X [] tNil := fun _ _ _ _ H Q I h => Calls.spliced_nil ⟨[], H, I, .nil, h⟩
theorem pa_cons (ha : PE X e te) (hr : PA X es t) (hs : starEach (e :: es) X.env = (false, eval e X.env) :: starEach es X.env := by rfl) : PA X (e :: es) (tCons te t) := by
  intro pos pins s σ H Q I h
  rw [hs]
  show wpAny _ _ (spliced ((false, eval e X.env) :: backTo pos (starEach es X.env))) _ _ s
  refine Calls.spliced_cons (thn (ha pins s σ H _ I h) fun u s1 ⟨x, H1, I1, r1, q1⟩ => ?_)
  exact thn (hr pos pins s1 σ H1 _ I1 q1) fun us s2 ⟨xs, H2, I2, r2, q2⟩ => ⟨x :: xs, H2, I2, .cons r1 r2, q2⟩

def tTup (t : TA) : TE := fun σ H Q => t σ H fun xs H1 => xs.length ≤ sizeLine ∧ ∀ p, H1 p = none → Q (.ref p) (upd H1 p (.tup xs))
def tLst (t : TA) : TE := fun σ H Q => t σ H fun xs H1 => xs.length ≤ sizeLine ∧ ∀ p, H1 p = none → Q (.ref p) (upd H1 p (.lst xs))
theorem pe_tup {x1} (h : PA X es t) : PE X (.Tuple es x1 pos) (tTup t) := by
  intro pins s σ H Q I hq
  refine wpAny_Tuple_spliced (thn (h pos pins s σ H _ I hq) fun us s1 ⟨xs, H1, I1, r, z, q⟩ => ⟨by rw [← r.length]; exact z, ?_⟩)
  have hf : H1 s1.heap.objs.size = none := I1.hok.fresh (Nat.le_refl _)
  refine ⟨.ref s1.heap.objs.size, upd H1 s1.heap.objs.size (.tup xs), I1.laid (t' := s1.toks) (fun b u e => Heap.get?_push_of_some _ e) (Nat.le_refl _) ?_, rfl, q _ hf⟩
  exact ⟨z, us, r, ⟨_, Heap.get?_push_size _ rfl, rfl, _, rfl⟩⟩
theorem pe_lst (h : PA X es t) : PE X (.List es pos) (tLst t) := by
  intro pins s σ H Q I hq
  refine wpAny_List_spliced (thn (h pos pins s σ H _ I hq) fun us s1 ⟨xs, H1, I1, r, z, q⟩ => ⟨by rw [← r.length]; exact z, ?_⟩)
  have hf : H1 s1.heap.objs.size = none := I1.hok.fresh (Nat.le_refl _)
  refine ⟨.ref s1.heap.objs.size, upd H1 s1.heap.objs.size (.lst xs), I1.laid (t' := s1.toks) (fun b u e => Heap.get?_push_of_some _ e) (Nat.le_refl _) ?_, rfl, q _ hf⟩
  exact ⟨z, us, 0, r, Heap.get?_push_size _ rfl⟩
end

/-! ### what a def promises -/
abbrev Sp := List V → Hp → VK → XK → Prop
abbrev CXT := List Env → Hp → Shared → XK → Value → Shared → Prop

structure Env0 (P : Program) (w : World) (K : PySem.W.Frag) (mg : Str → Option Value) (base : Heap) (A : Around) (outer : List Env) (s : Shared) (H : Hp) : Prop where
  frames : A.frames = some outer
  mod : Mod K mg base
  bs : ∀ b o, base.get? b = some o → s.heap.get? b = some o ∧ H b = none
  bsz : base.objs.size ≤ s.heap.objs.size
  funs : s.heap.FunFrames base outer
  frf : ∀ b ∈ frs outer, H b = none
  hok : HOk P w H s.heap
  bare : AllBare s.gens
def CE (outer : List Env) (P : Program) (w : World) (H : Hp) (s : Shared) (Q : VK) (u : Value) (s' : Shared) : Prop :=
  ∃ v H', s'.os = s.os ∧ AllBare s'.gens ∧ Un (frs outer) [] H H' s.heap s'.heap ∧ HOk P w H' s'.heap ∧ RelV v u ∧ Q v H'
def CR (CX : CXT) (outer : List Env) (P : Program) (w : World) (H : Hp) (s : Shared) (Q : VK) (E : XK) (r : Result) (s' : Shared) : Prop :=
  match r with
  | .ok (.ret u) => CE outer P w H s Q u s'
  | .ok _ => False
  | .error e => CX outer H s E e s'
structure FnOk (P : Program) (w : World) (K : PySem.W.Frag) (mg : Str → Option Value) (base : Heap) (CX : CXT) (k : Nat) (f : Addr) (fd : FuncData) (ps : List Str) (sp : Sp) : Prop where
  len : ∀ vs H Q E, sp vs H Q E → vs.length = ps.length
  run : ∀ (A : Around) (outer : List Env) (s : Shared) (H : Hp) (args : Args) (us : List Value) (vs : List V) (Q : VK) (E : XK), Room k A → Env0 P w K mg base A outer s H → BindsTo s fd args (ps.zip us) → Vals vs us → sp vs H Q E →
    codeAny (model P w) A (.call (.ref f) args) (CR CX outer P w H s Q E) s
theorem FnOk.mono {P : Program} {w : World} {K : PySem.W.Frag} {mg : Str → Option Value} {base : Heap} {CX : CXT} {j k : Nat} {f : Addr} {fd : FuncData} {ps : List Str} {sp : Sp} (F : FnOk P w K mg base CX j f fd ps sp) (h : j ≤ k) :
    FnOk P w K mg base CX k f fd ps sp := ⟨F.len, fun A outer s H args us vs Q E hr => F.run A outer s H args us vs Q E (hr.mono h)⟩
theorem FnOk.imp {P : Program} {w : World} {K : PySem.W.Frag} {mg : Str → Option Value} {base : Heap} {CX : CXT} {k : Nat} {f : Addr} {fd : FuncData} {ps : List Str} {sp sp' : Sp} (F : FnOk P w K mg base CX k f fd ps sp)
    (h : ∀ vs H Q E, sp' vs H Q E → sp vs H Q E) : FnOk P w K mg base CX k f fd ps sp' :=
  ⟨fun vs H Q E q => F.len vs H Q E (h _ _ _ _ q), fun A outer s H args us vs Q E hr he hb hv hs => F.run A outer s H args us vs Q E hr he hb hv (h _ _ _ _ hs)⟩

theorem Env0.make {P : Program} {w : World} {K : PySem.W.Frag} {mg : Str → Option Value} {base : Heap} {A : Around} {outer : List Env} {s : Shared} {H : Hp} (e : Env0 P w K mg base A outer s H) (C : Addr) (us : List Value) (kw : List (Str × Value)) :
    Env0 P w K mg base (A.under (.builtin "type.__call__" ⟨.ref C :: us, kw⟩)) outer s H := ⟨by first | exact e.frames | (simpa [Around.under, Code.envs, Code.isFrame, pushEnvs] using e.frames), e.mod, e.bs, e.bsz, e.funs, e.frf, e.hok, e.bare⟩
theorem Env0.in1 {P : Program} {w : World} {K : PySem.W.Frag} {mg : Str → Option Value} {base : Heap} {A : Around} {outer : List Env} {s : Shared} {H : Hp} (e : Env0 P w K mg base A outer s H) :
    Env0 P w K mg base A.in1 outer s H := ⟨e.frames, e.mod, e.bs, e.bsz, e.funs, e.frf, e.hok, e.bare⟩

section
variable {X : Cx} {pins : List (Addr × Obj)} {σ : St} {H : Hp} {s s' : Shared}
theorem Inv.env0 (I : Inv X pins σ H s) : Env0 X.prog X.w X.K X.mg X.base X.A X.stack s H :=
  ⟨I.ok.frames, I.ok.mod, I.bs, Nat.le_trans I.ok.bsz I.sz, I.stack, I.stkFree, I.hok, I.bare⟩
theorem Inv.after {Q : VK} {u : Value} (I : Inv X pins σ H s) (h : CE X.stack X.prog X.w H s Q u s') : EP X pins σ Q u s' := by
  obtain ⟨v, H', os, bare, un, hok, r, q⟩ := h
  obtain ⟨hh, g, d, t, os'⟩ := s'
  obtain rfl : os' = s.os := os
  exact ⟨v, H', I.call (h' := hh) (g' := g) (d' := d) (t' := t) (ch := []) un hok bare (fun b z => absurd z (by simp)), r, q⟩
end

/-! ### calls -/
def tCall (sp : Sp) (dvs : List V) (E : XK) (t : TA) : TE := fun σ H Q => t σ H fun vs H1 => sp (vs ++ dvs) H1 Q E
def tMake (C : Addr) (sp : Sp) (dvs : List V) (E : XK) (t : TA) : TE := fun σ H Q => t σ H fun vs H1 => ∀ x dx, H1 x = none → H1 dx = none → dx ≠ x →
  sp (.ref x :: (vs ++ dvs)) (upd (upd H1 dx (.own x)) x (.ins C dx [])) (fun v H2 => v = .non ∧ Q (.ref x) H2) E

def Binds (K : PySem.W.Frag) (fd : FuncData) (ps : List Str) (ds : List Value) : Prop :=
  ∀ (s : Shared) (us : List Value), K.In s.heap → (us ++ ds).length = ps.length → BindsTo s fd ⟨us, []⟩ (ps.zip (us ++ ds))
theorem Binds.all {K : PySem.W.Frag} {fd : FuncData} {ps : List Str} (h : ∀ us : List Value, us.length = ps.length → bindArgs fd ⟨us, []⟩ = pure (ps.zip us)) : Binds K fd ps [] := fun s us _ hl => by
  rw [List.append_nil] at hl ⊢
  exact .of_eq (h us hl)

def Passes (CX : CXT) (X : Cx) (E : XK) : Prop := ∀ (pins : List (Addr × Obj)) (σ : St) (H : Hp) (s : Shared) (e : Value) (s' : Shared), Inv X pins σ H s → CX X.stack H s E e s' → X.xe e s'

section
variable {X : Cx} {CX : CXT} {k : Nat} {f C : Addr} {fd : FuncData} {ps : List Str} {sp : Sp} {dvs : List V} {ds : List Value} {E : XK} {x m : Str} {p pos apos : Pos} {e o : Expr} {es : List Expr} {ta : TE} {t : TA}

theorem run_fn {pins : List (Addr × Obj)} {σ : St} {H : Hp} {s : Shared} {Q : VK} {us : List Value} {vs : List V} (F : FnOk X.prog X.w X.K X.mg X.base CX k f fd ps sp) (hr : Room k X.A) (hb : Binds X.K fd ps ds) (hd : Vals dvs ds) (hx : Passes CX X E)
    (I : Inv X pins σ H s) (r : Vals vs us) (h : sp (vs ++ dvs) H Q E) : wpAny (model X.prog X.w) X.A (call (.ref f) us) (EP X pins σ Q) X.xe s := by
  have r2 : Vals (vs ++ dvs) (us ++ ds) := r.append hd
  have hl : (us ++ ds).length = ps.length := by rw [← r2.length]; exact F.len _ _ _ _ h
  refine wpAny_call (codeAny_mono (F.run X.A X.stack s H ⟨us, []⟩ (us ++ ds) (vs ++ dvs) Q E hr I.env0 (hb s us I.kIn hl) r2 h) fun r s' hq => ?_)
  cases r with
  | error e => exact hx pins σ H s e s' I hq
  | ok fl =>
    cases fl with
    | ret u => exact I.after hq
    | next => exact False.elim hq
    | brk => exact False.elim hq
    | cont => exact False.elim hq

theorem pe_call (F : FnOk X.prog X.w X.K X.mg X.base CX k f fd ps sp) (hr : Room k X.A) (hg : Gl X x) (hm : X.mg x = some (.ref f)) (hk : PySem.W.keepIn X.K (.ref f) = true) (hb : Binds X.K fd ps ds) (hd : Vals dvs ds) (hx : Passes CX X E)
    (ha : PA X (e :: es) t) (hdb : (x == ("__debug__" : Str)) = false := by decide) (he : starEach (e :: es) X.env = (false, eval e X.env) :: starEach es X.env := by rfl) (hpl : (backTo pos (starEach es X.env)).any (·.1) = false := by rfl) :
    PE X (.Call (.Name x p) (e :: es) [] pos) (tCall sp dvs E t) := by
  intro pins s σ H Q I h
  refine wpAny_Call_Name_kw (ld_glob I hg hm ?_ hdb)
  refine PySem.W.callWith_K (h₀ := X.base) I.ok.mod.kin hk (thn (ha pos pins s σ H _ I h) fun us s1 ⟨vs, H1, I1, r, q⟩ => ⟨I1.kIn, ?_⟩) he hpl
  exact run_fn F hr hb hd hx I1 r q
structure Mk (K : PySem.W.Frag) (C f : Addr) : Prop where
  makes : PySem.W.makesIn K C = true
  init : PySem.W.findIn K (.ref C) "__init__" = some (some (.ref f))
  fn : PySem.W.isFn K (.ref f) = true
  kp : PySem.W.keepIn K (.ref C) = true

theorem run_make {pins : List (Addr × Obj)} {σ : St} {H : Hp} {s : Shared} {Q : VK} {us : List Value} {vs : List V} (M : Mk X.K C f) (F : FnOk X.prog X.w X.K X.mg X.base CX k f fd ps sp) (hr : Room (k + 1) X.A) (hb : Binds X.K fd ps ds) (hd : Vals dvs ds)
    (hx : Passes CX X E) (I : Inv X pins σ H s) (r : Vals vs us)
    (h : ∀ x dx, H x = none → H dx = none → dx ≠ x → sp (.ref x :: (vs ++ dvs)) (upd (upd H dx (.own x)) x (.ins C dx [])) (fun v H2 => v = .non ∧ Q (.ref x) H2) E) :
    wpAny (model X.prog X.w) X.A (call (.ref C) us) (EP X pins σ Q) X.xe s := by
  have hq := h (s.heap.objs.size + 1) s.heap.objs.size (I.hok.fresh (Nat.le_succ _)) (I.hok.fresh (Nat.le_refl _)) (Nat.ne_of_lt (Nat.lt_succ_self _))
  have I2 := Inv.made (C := C) I
  have r2 : Vals (V.ref (s.heap.objs.size + 1) :: (vs ++ dvs)) (Value.ref (s.heap.objs.size + 1) :: (us ++ ds)) := .cons rfl (r.append hd)
  have hl : (Value.ref (s.heap.objs.size + 1) :: us ++ ds).length = ps.length := by
    have e := r2.length
    rw [F.len _ _ _ _ hq] at e
    exact e.symm
  refine wpAny_call (make_map (f := f) I.kIn M.makes M.init (beq_iff_eq.mp M.fn) (codeAny_mono (F.run _ X.stack _ _ ⟨Value.ref (s.heap.objs.size + 1) :: us, []⟩ (Value.ref (s.heap.objs.size + 1) :: (us ++ ds)) _ _ E (hr.make C us [])
    (I2.env0.make C us []) (hb _ (Value.ref (s.heap.objs.size + 1) :: us) I2.kIn hl) r2 hq) fun r s' hq' => ?_))
  cases r with
  | error e => exact hx pins σ _ _ e s' I2 hq'
  | ok fl =>
    cases fl with
    | ret u =>
      obtain ⟨v, H', I3, rv, ev, q3⟩ := I2.after hq'
      subst ev
      exact ⟨rv, ⟨V.ref (s.heap.objs.size + 1), H', I3, rfl, q3⟩⟩
    | next => exact False.elim hq'
    | brk => exact False.elim hq'
    | cont => exact False.elim hq'
theorem pe_make (M : Mk X.K C f) (F : FnOk X.prog X.w X.K X.mg X.base CX k f fd ps sp) (hr : Room (k + 1) X.A) (hg : Gl X x) (hm : X.mg x = some (.ref C)) (hb : Binds X.K fd ps ds) (hd : Vals dvs ds) (hx : Passes CX X E)
    (ha : PA X (e :: es) t) (hdb : (x == ("__debug__" : Str)) = false := by decide) (he : starEach (e :: es) X.env = (false, eval e X.env) :: starEach es X.env := by rfl) (hpl : (backTo pos (starEach es X.env)).any (·.1) = false := by rfl) :
    PE X (.Call (.Name x p) (e :: es) [] pos) (tMake C sp dvs E t) := by
  intro pins s σ H Q I h
  refine wpAny_Call_Name_kw (ld_glob I hg hm ?_ hdb)
  refine PySem.W.callWith_K (h₀ := X.base) I.ok.mod.kin M.kp (thn (ha pos pins s σ H _ I h) fun us s1 ⟨vs, H1, I1, r, q⟩ => ⟨I1.kIn, ?_⟩) he hpl
  exact run_make M F hr hb hd hx I1 r q
end

/-! ### keywords -/
def PK (X : Cx) (kws : List Keyword) (t : TA) : Prop :=
  ∀ (pos : Pos) (pins : List (Addr × Obj)) (s : Shared) (σ : St) (H : Hp) (Q : List V → Hp → Prop), Inv X pins σ H s → t σ H Q → wpAny (model X.prog X.w) X.A (evalAll ((backToKw pos (keywordEach kws X.env)).map (·.2))) (AP X pins σ Q) X.xe s
section
variable {X : Cx} {CX : CXT} {k : Nat} {f C : Addr} {fd : FuncData} {ps ks : List Str} {sp : Sp} {E : XK} {x m : Str} {p pos apos kpos : Pos} {e o : Expr} {es : List Expr} {kws : List Keyword} {te ta : TE} {t tk : TA} {nm : Option Str}
theorem pk_nil : PK X [] tNil := fun _ _ _ _ H Q I h => wpAny_evalAll_nil ⟨[], H, I, .nil, h⟩
theorem pk_cons (ha : PE X e te) (hr : PK X kws t) : PK X (⟨nm, e, kpos⟩ :: kws) (tCons te t) := by
  intro pos pins s σ H Q I h
  show wpAny _ _ (evalAll ((do let v ← eval e X.env; standAt pos; pure v) :: (backToKw pos (keywordEach kws X.env)).map (·.2))) _ _ s
  refine wpAny_evalAll_cons (wpAny_bind (thn (ha pins s σ H _ I h) fun u s1 ⟨x, H1, I1, r1, q1⟩ => wpAny_bind (wpAny_standAt (wpAny_pure ?_))))
  exact thn (hr pos pins s1 σ H1 _ I1 q1) fun us s2 ⟨xs, H2, I2, r2, q2⟩ => ⟨x :: xs, H2, I2, .cons r1 r2, q2⟩

structure KBinds (K : PySem.W.Frag) (fd : FuncData) (ps ks : List Str) (g : List Value → List Value → List Value) (gV : List V → List V → List V) : Prop where
  to : ∀ (s : Shared) (us ws : List Value), K.In s.heap → (g us ws).length = ps.length → BindsTo s fd ⟨us, ks.zip ws⟩ (ps.zip (g us ws))
  rel : ∀ {vs : List V} {us : List Value} {zs : List V} {ws : List Value}, Vals vs us → Vals zs ws → Vals (gV vs zs) (g us ws)
variable {g : List Value → List Value → List Value} {gV : List V → List V → List V}
end

/-! ### a def's body keeps its promise -/
structure FnScope (N P : List Str) (sc : Scope) : Prop where
  kind : sc.kind = .function
  co : sc.isCoroutine = false
  gen : sc.isGenerator = false
  nd : N.Nodup
  pre : N.take P.length = P
  par : ∀ x ∈ P, sc.names.lookup x = some .local ∨ sc.names.lookup x = some .cell
  nofree : ∀ y ∈ sc.names, y.2 ≠ .free

theorem bindL_out {kindOf : Str → Option NameKind} {x : Str} : ∀ {binds : List (Str × Value)} {m : Str → Option Value}, (∀ v, (x, v) ∉ binds) → bindL kindOf binds m x = m x
  | [], _, _ => rfl
  | (n, v) :: r, m, h => by
    unfold bindL
    rw [bindL_out fun w hw => h w (List.mem_cons_of_mem _ hw)]
    split
    · have : x ≠ n := by rintro rfl; exact h v List.mem_cons_self
      simp [this]
    · rfl
theorem bindC_out {kindOf : Str → Option NameKind} {x : Str} : ∀ {binds : List (Str × Value)} {m : Str → Option Value}, (∀ v, (x, v) ∉ binds) → bindC kindOf binds m x = m x
  | [], _, _ => rfl
  | (n, v) :: r, m, h => by
    unfold bindC
    rw [bindC_out fun w hw => h w (List.mem_cons_of_mem _ hw)]
    split
    · rfl
    · have : x ≠ n := by rintro rfl; exact h v List.mem_cons_self
      simp [this]
theorem bindL_get {kindOf : Str → Option NameKind} {x : Str} {v : Value} : ∀ {P : List Str} {vs : List Value} {i : Nat} {m : Str → Option Value}, P.Nodup → P[i]? = some x → vs[i]? = some v → kindOf x = some .local →
    bindL kindOf (P.zip vs) m x = some v
  | [], _, _, _, _, h, _, _ => by simp at h
  | _ :: _, [], _, _, _, _, h, _ => by simp at h
  | p :: P, w :: vs, 0, m, nd, h1, h2, hk => by
    simp at h1 h2; subst h1; subst h2
    show bindL kindOf ((p, w) :: P.zip vs) m p = _
    unfold bindL
    rw [bindL_out fun v hv => (List.nodup_cons.mp nd).1 (List.of_mem_zip hv).1, if_pos hk]
    simp
  | p :: P, w :: vs, i + 1, m, nd, h1, h2, hk => by
    show bindL kindOf ((p, w) :: P.zip vs) m x = _
    unfold bindL
    exact bindL_get (i := i) (List.nodup_cons.mp nd).2 (by simpa using h1) (by simpa using h2) hk
theorem bindC_get {kindOf : Str → Option NameKind} {x : Str} {v : Value} : ∀ {P : List Str} {vs : List Value} {i : Nat} {m : Str → Option Value}, P.Nodup → P[i]? = some x → vs[i]? = some v → kindOf x ≠ some .local →
    bindC kindOf (P.zip vs) m x = some v
  | [], _, _, _, _, h, _, _ => by simp at h
  | _ :: _, [], _, _, _, _, h, _ => by simp at h
  | p :: P, w :: vs, 0, m, nd, h1, h2, hk => by
    simp at h1 h2; subst h1; subst h2
    show bindC kindOf ((p, w) :: P.zip vs) m p = _
    unfold bindC
    rw [bindC_out fun v hv => (List.nodup_cons.mp nd).1 (List.of_mem_zip hv).1, if_neg hk]
    simp
  | p :: P, w :: vs, i + 1, m, nd, h1, h2, hk => by
    show bindC kindOf ((p, w) :: P.zip vs) m x = _
    unfold bindC
    exact bindC_get (i := i) (List.nodup_cons.mp nd).2 (by simpa using h1) (by simpa using h2) hk

def start (N : List Str) (vs : List V) : St := vs.map some ++ List.replicate (N.length - vs.length) none

def cxOf (CX : CXT) (P : Program) (w : World) (K : PySem.W.Frag) (mg : Str → Option Value) (base : Heap) (N : List Str) (qual : Str) (scope : Scope) (f : Addr) (cd : Value) (A : Around) (outer : List Env) (s : Shared) (H : Hp) (E : XK) : Cx where
  prog := P
  w := w
  K := K
  mg := mg
  base := base
  A := A.deeper (envOfC qual scope s.heap.objs.size f cd)
  N := N
  s₀ := s
  H₀ := H
  env := envOfC qual scope s.heap.objs.size f cd
  outer := outer
  stack := envOfC qual scope s.heap.objs.size f cd :: outer
  ex := []
  calm := true
  fn := fun _ => true
  pn := []
  xe := fun e s' => wpAny (model P w) (A.deeper (envOfC qual scope s.heap.objs.size f cd)) (leaving (envOfC qual scope s.heap.objs.size f cd) e) (fun _ s'' => CX outer H s E e s'') (fun e' s'' => CX outer H s E e' s'') s'

theorem cell_has {sc : Scope} {n : Nat} {x : Str} (h : sc.names.lookup x = some .cell) : ∃ c, (cellsFrom n sc.names []).lookup x = some c := by
  have q := PySem.W.cellsFrom_some sc.names n [] (.inl h)
  exact Option.isSome_iff_exists.mp q

theorem inv_start {CX : CXT} {P : Program} {w : World} {K : PySem.W.Frag} {mg : Str → Option Value} {base : Heap} {N ps : List Str} {qual : Str} {scope : Scope} {f : Addr} {cd : Value} {A : Around} {outer : List Env} {s s1 : Shared} {H : Hp} {E : XK} {us : List Value} {vs : List V}
    (S : FnScope N ps scope) (hd : A.handled = none) (e0 : Env0 P w K mg base A outer s H) (hl : vs.length = ps.length) (r : Vals vs us)
    (x : InCallC s s.heap.objs.size (bindL (envOfC qual scope s.heap.objs.size f cd).kindOf (ps.zip us) fun _ => none) (cellsFrom (s.heap.objs.size + 1) scope.names []) (bindC (envOfC qual scope s.heap.objs.size f cd).kindOf (ps.zip us) fun _ => none) s1) :
    Inv (cxOf CX P w K mg base N qual scope f cd A outer s H E) [] (start N vs) H s1 := by
  have hpl : ps.length ≤ N.length := by have := congrArg List.length S.pre; rw [List.length_take] at this; omega
  obtain ⟨h1, tk, rfl, hk⟩ := x.done
  have noA : ∀ b : Addr, b ∉ (cxOf CX P w K mg base N qual scope f cd A outer s H E).ex := fun b z => absurd (show b ∈ ([] : List Addr) from z) (by simp)
  refine ⟨⟨e0.mod, S.kind, rfl, rfl, Nat.le_refl _, fun y z c h1 h2 => ?_, fun y hy => ?_, fun y c _ h => ?_, fun _ => hd, Around.frames_deeper e0.frames, .inr ⟨rfl, rfl⟩, fun b z => absurd z (noA b), e0.bs, e0.bsz, fun b _ _ => noA b, fun b z => absurd z (noA b), e0.funs, e0.frf⟩,
    rfl, e0.bare, Un.kept hk, ⟨_, x.toInCall.ns, fun i y v h1 h2 h3 => ?_⟩, fun y c h => ⟨_, x.cell y c h⟩, e0.hok.fresh (Nat.le_refl _), fun y c h => ?_, fun p hp => absurd (show p ∈ ([] : List (Addr × Obj)) from hp) (by simp), e0.hok.kept hk, ?_⟩
  · exact name_of_addr x.apart (PySem.mem_of_lookup h1) (PySem.mem_of_lookup h2)
  · have hy : scope.names.lookup y = some .cell ∨ scope.names.lookup y = some .free := hy
    rcases hy with hy | hy
    · exact cell_has hy
    · exact absurd rfl (S.nofree _ (PySem.mem_of_lookup hy))
  · exact Nat.le_of_lt (x.above y c (PySem.mem_of_lookup h))
  · have hi : i < vs.length := by
      unfold start at h2
      by_cases hi : i < vs.length
      · exact hi
      · rw [List.getElem?_append_right (by simpa using hi)] at h2
        rw [List.getElem?_replicate] at h2
        split at h2 <;> cases h2
    have ha : vs[i]? = some v := by
      unfold start at h2
      rw [List.getElem?_append_left (by simpa using hi), List.getElem?_map] at h2
      cases e : vs[i]? with
      | none => rw [e] at h2; cases h2
      | some a => rw [e] at h2; cases h2; rfl
    obtain ⟨u, hu, rv⟩ := r.get ha
    have hp : ps[i]? = some y := by
      rw [← S.pre, List.getElem?_take_of_lt (by omega)]; exact h1
    have ndP : ps.Nodup := by rw [← S.pre]; exact S.nd.sublist (List.take_sublist _ _)
    refine ⟨u, rv, ?_⟩
    rcases S.par y (List.mem_of_getElem? hp) with k | k
    · exact .inl ⟨k, bindL_get ndP hp hu k⟩
    · obtain ⟨c, e⟩ := cell_has (n := s.heap.objs.size + 1) k
      refine .inr ⟨.inl k, c, e, ?_⟩
      have q := x.cell y c e
      rw [bindC_get ndP hp hu (by show scope.names.lookup y ≠ _; rw [k]; decide)] at q
      exact q
  · exact e0.hok.fresh (Nat.le_of_lt (x.above y c (PySem.mem_of_lookup h)))
  · unfold start
    show _ = N.length
    rw [List.length_append, List.length_map, List.length_replicate]
    omega

theorem fn_of {CX : CXT} {P : Program} {w : World} {K : PySem.W.Frag} {mg : Str → Option Value} {base : Heap} {k : Nat} {f : Addr} {name qual : Str} {params : Arguments} {body : List Stmt} {scope : Scope} {dV kV doc pm cdv ct oc : Value} {an od : Option Addr}
    {osl : Array (Option Value)} {N ps : List Str} {sp : Sp} (lk : K.lookup f = some ⟨oc, od, .func (PySem.W.fnOf name qual params body scope dV kV doc pm an cdv ct), osl⟩) (hcd : PySem.W.codeIn K cdv qual = true) (S : FnScope N ps scope)
    (len : ∀ vs H Q E, sp vs H Q E → vs.length = ps.length)
    (hbody : ∀ (A : Around) (outer : List Env) (s : Shared) (H : Hp) (vs : List V) (Q : VK) (E : XK), Room k (A.deeper (envOfC qual scope s.heap.objs.size f cdv)) → sp vs H Q E →
      ∃ t, PSs (cxOf CX P w K mg base N qual scope f cdv A outer s H E) body t ∧ t { nx := fun _ H' => Q .non H', rt := Q } (start N vs) H) :
    FnOk P w K mg base CX (k + 1) f (PySem.W.fnOf name qual params body scope dV kV doc pm an cdv ct) ps sp := by
  refine ⟨len, fun A outer s H args us vs Q E hr e0 hb r hsp => ?_⟩
  have hl := len _ _ _ _ hsp
  have KX : K.In s.heap := e0.mod.kin.keeps fun b o e => (e0.bs b o e).1
  have lim : s.heap.NoLimit := e0.mod.nolimit.keeps fun b o e => (e0.bs b o e).1
  have hkind : ∀ y ∈ ps.zip us, scope.names.lookup y.1 = some .local ∨ (scope.names.lookup y.1 = some .cell ∧ ((cellsFrom (s.heap.objs.size + 1) scope.names []).lookup y.1).isSome = true) := fun ⟨n, v⟩ hy => by
    rcases S.par n (List.of_mem_zip hy).1 with q | q
    · exact .inl q
    · exact .inr ⟨q, PySem.W.cellsFrom_some _ _ _ (.inl q)⟩
  refine codeAny_call_function hr.depth (KX _ _ lk) rfl S.co S.gen rfl (PySem.W.codeRec_of KX hcd) (hb _ _ _ _ ?_)
  refine wpAny_newFunctionEnv_cells S.kind hkind fun env he s1 x => ?_
  subst he
  refine ⟨lim.keeps x.toInCall.keep, codeAny_func ?_⟩
  obtain ⟨t, ht, hq⟩ := hbody A outer s H vs Q E (hr.deeper _) hsp
  have I : Inv (cxOf CX P w K mg base N qual scope f cdv A outer s H E) [] (start N vs) H s1 := inv_start S hr.hd e0 hl r x
  refine wpAny_mono (ht [] s1 (start N vs) H _ I hq) (fun fl s' hs => ?_) fun e s' hs => hs
  have fin : ∀ {σ' : St} {H' : Hp} {v : V} {u : Value}, Inv (cxOf CX P w K mg base N qual scope f cdv A outer s H E) [] σ' H' s' → RelV v u → Q v H' → CE outer P w H s Q u s' :=
    fun {σ' H' v u} J rv q => ⟨v, H', J.os, J.bare, J.base, J.hok, rv, q⟩
  cases fl with
  | ret u =>
    obtain ⟨v, σ', H', J, rv, q⟩ := hs
    exact fin J rv q
  | next =>
    obtain ⟨σ', H', J, q⟩ := hs
    exact fin (v := V.non) (u := Value.none) J rfl q
  | brk =>
    obtain ⟨_, _, _, q⟩ := hs
    exact False.elim q
  | cont =>
    obtain ⟨_, _, _, q⟩ := hs
    exact False.elim q
end L2

namespace L2
open PySem PySem.Spec PyProof.Rows
section
variable {X : Cx} {x : Str} {p pos : Pos} {e : Expr} {es : List Expr} {t : TA} {id T : String} {r : List V → Hp → VK → Prop}

def tCB (r : List V → Hp → VK → Prop) (t : TA) : TE := fun σ H Q => t σ H fun vs H1 => r vs H1 Q
theorem pe_callB (hc : CallR X (.builtin id) r) (hg : Gl X x) (hm : X.mg x = none) (hv : bootBuiltins x = some (.builtin id)) (ha : PA X (e :: es) t) (hn : x ≠ "__name__" := by decide) (hdb : (x == ("__debug__" : Str)) = false := by decide)
    (he : starEach (e :: es) X.env = (false, eval e X.env) :: starEach es X.env := by rfl) (hpl : (backTo pos (starEach es X.env)).any (·.1) = false := by rfl) : PE X (.Call (.Name x p) (e :: es) [] pos) (tCB r t) := by
  intro pins s σ H Q I h
  refine wpAny_Call_Name_kw (ld_blt I hg hm hv ?_ hn hdb)
  exact PyProof.Rows.callWith_builtin1 (thn (ha pos pins s σ H _ I h) fun us s1 ⟨vs, H1, I1, r1, q1⟩ => hc pins s1 σ H1 vs us Q I1 r1 q1) he hpl
theorem pe_callTy (hc : CallR X (.type T) r) (hg : Gl X x) (hm : X.mg x = none) (hv : bootBuiltins x = some (.type T)) (ha : PA X (e :: es) t) (hn : x ≠ "__name__" := by decide) (hdb : (x == ("__debug__" : Str)) = false := by decide)
    (he : starEach (e :: es) X.env = (false, eval e X.env) :: starEach es X.env := by rfl) (hpl : (backTo pos (starEach es X.env)).any (·.1) = false := by rfl) : PE X (.Call (.Name x p) (e :: es) [] pos) (tCB r t) := by
  intro pins s σ H Q I h
  refine wpAny_Call_Name_kw (ld_blt I hg hm hv ?_ hn hdb)
  exact PyProof.Rows.callWith_type1 (thn (ha pos pins s σ H _ I h) fun us s1 ⟨vs, H1, I1, r1, q1⟩ => hc pins s1 σ H1 vs us Q I1 r1 q1) he hpl
end
end L2

namespace HT
open PySem PyProof.Rows

section
open PySem.SeqAt
open PySem.AutoSeq1 (wpAny_loadPart')
open PySem.MeetsSeq PySem.MeetsSeq2 PySem.MeetsSeq3

end

section
variable {prog : Program} {w : World} {A : Around} {E : Value → Shared → Prop} {s : Shared}

/-! ### t[a:b], not the whole -/
end
end HT

namespace L2
open PySem PySem.Spec PyProof.Rows

/-! ### the parts of a slice -/
abbrev TO := St → Hp → (Option Int → Hp → Prop) → Prop
theorem intsAre_of {ns : List Int} : ∀ {us : List Value}, Vals (ns.map V.int) us → IntsAre us ns := by
  induction ns with
  | nil => intro us r; rw [List.map_nil] at r; cases r; exact .nil
  | cons n ns ih =>
    intro us r
    rw [List.map_cons] at r
    cases r with
    | cons r1 r2 =>
      obtain ⟨t, e⟩ := r1
      subst e
      exact .cons n t (ih r2)

section
variable {X : Cx} {e : Expr} {te : TE} {lo hi : Option Expr} {tl th : TO} {pos p2 : Pos}

def SlR (X : Cx) (r : V → Option Int → Option Int → Hp → VK → Prop) : Prop :=
  ∀ (pins : List (Addr × Obj)) (s : Shared) (σ : St) (H : Hp) (x : V) (v vl vu : Value) (lo hi : Option Int) (sl : Addr) (Q : VK), Inv X pins σ H s → RelV x v → s.heap.IsSliceOf sl vl vu .none → IsPart vl lo → IsPart vu hi → r x lo hi H Q →
    ∃ T id, typeLookup (.type T) "__getitem__" = pure (some (.builtin id)) ∧ s.TypeIs v T ∧ wpAny (model X.prog X.w) X.A (getItem v (.ref sl)) (EP X pins σ Q) X.xe s
theorem SlR.or {r r' : V → Option Int → Option Int → Hp → VK → Prop} (h : SlR X r) (h' : SlR X r') : SlR X (fun x lo hi H Q => r x lo hi H Q ∨ r' x lo hi H Q) := by
  intro pins s σ H x v vl vu lo hi sl Q I rx hs pl pu q
  rcases q with q | q
  · exact h pins s σ H x v vl vu lo hi sl Q I rx hs pl pu q
  · exact h' pins s σ H x v vl vu lo hi sl Q I rx hs pl pu q
/-! ### t < u, t + u -/
end
end L2

namespace L2
open PySem PySem.Spec PyProof.Rows

/-! ### places -/
def ixN (n : Nat) (i : Int) : Option Nat := if 0 ≤ i then (if i < n then some i.toNat else none) else if -(n : Int) ≤ i then some (i + n).toNat else none
def atI {α : Type} (xs : List α) (i : Int) : Option α := (ixN xs.length i).bind fun j => xs[j]?
theorem ixN_seq {n : Nat} {i : Int} {j : Nat} (h : ixN n i = some j) : seqIndex? i n = some j ∧ j < n ∧ -(n : Int) ≤ i ∧ i < n := by
  unfold ixN at h
  by_cases h0 : 0 ≤ i
  · rw [if_pos h0] at h
    by_cases h1 : i < n
    · rw [if_pos h1] at h
      have e : i.toNat = j := Option.some.inj h
      exact ⟨by rw [seqIndex_of h0 h1, e], by omega, by omega, h1⟩
    · rw [if_neg h1] at h; cases h
  · rw [if_neg h0] at h
    by_cases h1 : -(n : Int) ≤ i
    · rw [if_pos h1] at h
      have e : (i + n).toNat = j := Option.some.inj h
      exact ⟨by rw [seqIndex_neg (by omega) h1, e], by omega, h1, by omega⟩
    · rw [if_neg h1] at h; cases h
theorem atI_get {α : Type} {xs : List α} {i : Int} {v : α} (h : atI xs i = some v) : ∃ j, seqIndex? i xs.length = some j ∧ xs[j]? = some v ∧ j < xs.length ∧ -(xs.length : Int) ≤ i ∧ i < xs.length := by
  unfold atI at h
  cases e : ixN xs.length i with
  | none => rw [e] at h; cases h
  | some j =>
    rw [e] at h
    obtain ⟨h1, h2, h3, h4⟩ := ixN_seq e
    exact ⟨j, h1, h, h2, h3, h4⟩
theorem atI_nat {α : Type} {xs : List α} {j : Nat} {v : α} (h : xs[j]? = some v) : atI xs (j : Int) = some v := by
  have hj : j < xs.length := (List.getElem?_eq_some_iff.mp h).1
  have e : ixN xs.length (j : Int) = some j := by
    unfold ixN
    rw [if_pos (by omega), if_pos (by omega)]; simp
  unfold atI; rw [e]; exact h
theorem atI_last {α : Type} (xs : List α) (v : α) : atI (xs ++ [v]) (-1) = some v := by
  have hl : (xs ++ [v]).length = xs.length + 1 := by simp
  have e : ixN (xs ++ [v]).length (-1) = some xs.length := by
    unfold ixN
    rw [hl, if_neg (by decide), if_pos (by omega)]
    congr 1
    omega
  unfold atI
  rw [e]
  show (xs ++ [v])[xs.length]? = some v
  simp

/-! ### what may be subscripted -/
def PlainIx (b : Expr) : Prop := ∀ o i, subscripted b false o i = operate [o, i] (getItem o i)
def IxR (X : Cx) (r : R2) : Prop :=
  ∀ (value slice : Expr) (pins : List (Addr × Obj)) (s : Shared) (σ : St) (H : Hp) (x y : V) (v u : Value) (Q : VK), Inv X pins σ H s → RelV x v → RelV y u → r x y H Q →
    subscripted slice false v u = operate [v, u] (getItem v u) → wpAny (model X.prog X.w) X.A (subscriptTail value slice v u) (EP X pins σ Q) X.xe s
def MtR (X : Cx) (id : String) (r : V → List V → Hp → VK → Prop) : Prop :=
  ∀ (pins : List (Addr × Obj)) (s : Shared) (σ : St) (H : Hp) (x : V) (xs : List V) (v : Value) (us : List Value) (Q : VK), Inv X pins σ H s → RelV x v → Vals xs us → r x xs H Q →
    wpAny (model X.prog X.w) X.A (call (.builtin id) (v :: us)) (EP X pins σ Q) X.xe s
section
variable {X : Cx} {a b : Expr} {ta tb : TE} {pos : Pos}
theorem IxR.or {r r' : R2} (h : IxR X r) (h' : IxR X r') : IxR X (fun x y H Q => r x y H Q ∨ r' x y H Q) := by
  intro value slice pins s σ H x y v u Q I rx ry q hs
  rcases q with q | q
  · exact h value slice pins s σ H x y v u Q I rx ry q hs
  · exact h' value slice pins s σ H x y v u Q I rx ry q hs
theorem MtR.or {id : String} {r r' : V → List V → Hp → VK → Prop} (h : MtR X id r) (h' : MtR X id r') : MtR X id (fun x xs H Q => r x xs H Q ∨ r' x xs H Q) := by
  intro pins s σ H x xs v us Q I rx rs q
  rcases q with q | q
  · exact h pins s σ H x xs v us Q I rx rs q
  · exact h' pins s σ H x xs v us Q I rx rs q
theorem pe_ix {r : R2} (hr : IxR X r) (ha : PE X a ta) (hb : PE X b tb) (hs : PlainIx b) : PE X (.Subscript a b pos) (tOp r ta tb) := by
  intro pins s σ H Q I h
  exact Subscript_ (binT ha hb I h fun v u s2 x y H2 I2 rx ry q => hr a b pins s2 σ H2 x y v u Q I2 rx ry q (hs _ _))

def rIxL (K : PySem.W.Frag) : R2 := fun x y H Q => ∃ p xs i v, x = .ref p ∧ y = .int i ∧ SqL K H p xs ∧ atI xs i = some v ∧ Q v H
def rIxT (K : PySem.W.Frag) : R2 := fun x y H Q => ∃ p xs i v, x = .ref p ∧ y = .int i ∧ SqT K H p xs ∧ atI xs i = some v ∧ Q v H
theorem ix_list : IxR X (rIxL X.K) := by
  intro value slice pins s σ H x y v u Q I rx ry h hs
  obtain ⟨p, xs, i, z, rfl, rfl, hq, he, q⟩ := h
  cases rx
  obtain ⟨t, rfl⟩ := ry
  obtain ⟨its, r, pl, hz⟩ := I.list hq
  obtain ⟨j, h1, h2, h3, h4, h5⟩ := atI_get he
  obtain ⟨w, ew, rw'⟩ := r.get h2
  have hl := r.length
  have hn := line63
  have fin : EP X pins σ Q w s := ⟨z, H, I, rw', q⟩
  by_cases h0 : 0 ≤ i
  · have hj : i.toNat = j := by
      rw [seqIndex_of h0 h5] at h1
      exact Option.some.inj h1
    exact item_listR pl.isList h0 (by omega) (by rw [hj]; simpa using ew) fin hs
  · have hj : (i + (its.toArray.size : Int)).toNat = j := by
      rw [seqIndex_neg (by omega) h4] at h1
      rw [List.size_toArray, ← hl]
      exact Option.some.inj h1
    exact subscriptTail_builtinR (x := w) pl.isList.typeIs slot_list_getitem.lookup
      (wpAny_getItem_list_neg (Q := fun r s' => r = w ∧ EP X pins σ Q r s') pl.isList (by omega) (by rw [List.size_toArray] <;> omega) (by omega) (by rw [hj]; simpa using ew) ⟨rfl, fin⟩) hs
theorem ix_tup : IxR X (rIxT X.K) := by
  intro value slice pins s σ H x y v u Q I rx ry h hs
  obtain ⟨p, xs, i, z, rfl, rfl, hq, he, q⟩ := h
  cases rx
  obtain ⟨t, rfl⟩ := ry
  obtain ⟨its, r, pl, hz⟩ := I.tuple hq
  obtain ⟨j, h1, h2, h3, h4, h5⟩ := atI_get he
  obtain ⟨w, ew, rw'⟩ := r.get h2
  have hl := r.length
  have hn := line63
  have fin : EP X pins σ Q w s := ⟨z, H, I, rw', q⟩
  exact subscriptTail_builtinR (x := w) pl.typeIs slot_tuple_getitem.lookup
    (getItem_tuple (j := j) (Q := fun r s' => r = w ∧ EP X pins σ Q r s') pl (by omega) (by omega) (by rw [List.size_toArray, ← hl]; exact h1) (by simpa using ew) ⟨rfl, fin⟩) hs
/-! ### xs[i] = v, any sign -/
theorem mapSeq_set (its : List Value) (n j : Nat) (u : Value) : Obj.mapSeq (·.setIfInBounds j u) { cls := .type "list", data := .seq its.toArray n } = { cls := .type "list", data := .seq (its.set j u).toArray n } := by
  simp [Obj.mapSeq]
theorem Inv.lst {pins : List (Addr × Obj)} {σ : St} {H : Hp} {s : Shared} {p : Addr} {xs : List V} (I : Inv X pins σ H s) (h : H p = some (.lst xs)) :
    ∃ (its : List Value) (n : Nat), Vals xs its ∧ s.heap.get? p = some { cls := .type "list", data := .seq its.toArray n } ∧ xs.length ≤ sizeLine := by
  obtain ⟨z, its, n, r, e⟩ := I.hok p _ h
  exact ⟨its, n, r, e, z⟩
theorem Inv.lstUpd {pins : List (Addr × Obj)} {σ : St} {H : Hp} {s : Shared} {p : Addr} {xs ys : List V} {its its' : List Value} {n n' : Nat} {f : Obj → Obj} (I : Inv X pins σ H s) (h : H p = some (.lst xs))
    (ho : s.heap.get? p = some { cls := .type "list", data := .seq its.toArray n }) (hf : f { cls := .type "list", data := .seq its.toArray n } = { cls := .type "list", data := .seq its'.toArray n' }) (r : Vals ys its') (hz : ys.length ≤ sizeLine) (t : Nat) :
    Inv X pins σ (upd H p (.lst ys)) { s with heap := s.heap.update p f, toks := t } := by
  have e : (s.heap.update p f).get? p = some { cls := .type "list", data := .seq its'.toArray n' } := by
    rw [Heap.get?_update_self f ho (by rw [hf] <;> rfl), hf]
  refine I.write (x := p) (e := p) (by rw [h]; trivial) (.inl rfl) (fun b u hb q => (Heap.get?_update_other _ _ (Ne.symm hb)).trans q) ⟨_, e⟩ ?_
  exact ⟨hz, its', n', r, e⟩
def rSetL : V → V → V → Hp → (Hp → Prop) → Prop := fun o i v H Q => ∃ p xs k j, o = .ref p ∧ i = .int k ∧ H p = some (.lst xs) ∧ ixN xs.length k = some j ∧ Q (upd H p (.lst (xs.set j v)))
theorem set_list : PSet X rSetL := by
  intro pins s σ H o i v ov iv u Q I ro ri rv h
  obtain ⟨p, xs, k, j, rfl, rfl, hp, hj, q⟩ := h
  cases ro
  obtain ⟨t, rfl⟩ := ri
  obtain ⟨its, n, r, ho, hz⟩ := I.lst hp
  obtain ⟨h1, h2, h3, h4⟩ := ixN_seq hj
  have hl := r.length
  have hn := line63
  have I' : Inv X pins σ (upd H p (.lst (xs.set j v))) { s with heap := s.heap.update p (Obj.mapSeq (·.setIfInBounds j u)) } :=
    I.lstUpd hp ho (mapSeq_set its n j u) (r.set rv j) (by rw [List.length_set]; exact hz) s.toks
  by_cases h0 : 0 ≤ k
  · have hk : k.toNat = j := by
      rw [seqIndex_of h0 h4] at h1
      exact Option.some.inj h1
    exact PySem.W.ki_setAt ho h0 (by omega) (by rw [List.size_toArray, ← hl]; exact h4) (by rw [hk]; exact ⟨_, I', q⟩)
  · have hk : (k + (its.toArray.size : Int)).toNat = j := by
      rw [seqIndex_neg (by omega) h3] at h1
      rw [List.size_toArray, ← hl]
      exact Option.some.inj h1
    exact PySem.W.ki_setBack ho (by omega) (by rw [List.size_toArray, ← hl]; exact h3) (by omega) (by rw [hk]; exact ⟨_, I', q⟩)

/-! ### slices -/
/-! ### in, not in: flat items -/
def flatV : V → Bool
  | .non => true
  | .bl _ => true
  | .int _ => true
  | .str _ => true
  | _ => false
def eqV : V → V → Bool
  | .non, .non => true
  | .bl a, .bl b => a == b
  | .bl a, .int b => (if a then 1 else 0) == b
  | .int a, .bl b => a == (if b then 1 else 0)
  | .int a, .int b => a == b
  | .str a, .str b => a == b
  | _, _ => false
theorem eqAt_V {A : Around} {s : Shared} {y x : V} {u v : Value} (ry : RelV y u) (rx : RelV x v) (fy : flatV y = true) (fx : flatV x = true) : SeqAt.EqAt A s u v (eqV y x) := by
  cases y with
  | non =>
    cases ry
    cases x with
    | non => cases rx; exact SeqAt.EqAt.same _
    | bl b => cases rx; exact SeqAt.EqAt.none_bool b
    | int b => obtain ⟨t, rfl⟩ := rx; exact SeqAt.EqAt.none_int b t
    | str b => obtain ⟨t, rfl⟩ := rx; exact SeqAt.EqAt.none_str b t
    | _ => exact absurd (show false = true from fx) Bool.false_ne_true
  | bl a =>
    cases ry
    cases x with
    | non => cases rx; exact SeqAt.EqAt.bool_none a
    | bl b => cases rx; exact SeqAt.EqAt.bool_bool a b
    | int b => obtain ⟨t, rfl⟩ := rx; exact SeqAt.EqAt.bool_int a b t
    | str b => obtain ⟨t, rfl⟩ := rx; exact SeqAt.EqAt.bool_str a b t
    | _ => exact absurd (show false = true from fx) Bool.false_ne_true
  | int a =>
    obtain ⟨t', rfl⟩ := ry
    cases x with
    | non => cases rx; exact SeqAt.EqAt.int_none a t'
    | bl b => cases rx; exact SeqAt.EqAt.int_bool a t' b
    | int b => obtain ⟨t, rfl⟩ := rx; exact SeqAt.EqAt.int_int a t' b t
    | str b => obtain ⟨t, rfl⟩ := rx; exact SeqAt.EqAt.int_str a t' b t
    | _ => exact absurd (show false = true from fx) Bool.false_ne_true
  | str a =>
    obtain ⟨t', rfl⟩ := ry
    cases x with
    | non => cases rx; exact SeqAt.EqAt.str_none a t'
    | bl b => cases rx; exact SeqAt.EqAt.str_bool a t' b
    | int b => obtain ⟨t, rfl⟩ := rx; exact SeqAt.EqAt.str_int a t' b t
    | str b => obtain ⟨t, rfl⟩ := rx; exact SeqAt.EqAt.str_str a t' b t
    | _ => exact absurd (show false = true from fx) Bool.false_ne_true
  | _ => exact absurd (show false = true from fy) Bool.false_ne_true
/-! ### len, list(x), tuple(x) of any list or tuple that is read -/
theorem call_len_seq : CallR X (.builtin "len") (fun xs H Q => ∃ p ys, xs = [.ref p] ∧ (SqL X.K H p ys ∨ SqT X.K H p ys) ∧ Q (.int ys.length) H) := by
  intro pins s σ H xs us Q I r h
  obtain ⟨p, ys, rfl, hq, q⟩ := h
  obtain ⟨u, rfl, rx⟩ := vals1 r
  cases rx
  have hn := line63
  rcases hq with hq | hq
  · obtain ⟨its, r', pl, hz⟩ := I.list hq
    have hlen := r'.length
    exact Calls.call_len_list pl.isList (by simp only [List.size_toArray] <;> omega) ⟨.int ys.length, H, I.tok _, ⟨s.toks + 1, by rw [List.size_toArray, hlen]⟩, q⟩
  · obtain ⟨its, r', pl, hz⟩ := I.tuple hq
    have hlen := r'.length
    exact len_tuple pl (by simp only [List.size_toArray] <;> omega) ⟨.int ys.length, H, I.tok _, ⟨s.toks + 1, by rw [List.size_toArray, hlen]⟩, q⟩
theorem CallR.or {f : Value} {r r' : List V → Hp → VK → Prop} (h : CallR X f r) (h' : CallR X f r') : CallR X f (fun xs H Q => r xs H Q ∨ r' xs H Q) := by
  intro pins s σ H xs us Q I rs q
  rcases q with q | q
  · exact h pins s σ H xs us Q I rs q
  · exact h' pins s σ H xs us Q I rs q
theorem call_list_of : CallR X (.type "list") (fun xs H Q => ∃ p ys, xs = [.ref p] ∧ (SqL X.K H p ys ∨ SqT X.K H p ys) ∧ ∀ l, H l = none → Q (.ref l) (upd H l (.lst ys))) := by
  intro pins s σ H xs us Q I r h
  obtain ⟨p, ys, rfl, hq, q⟩ := h
  obtain ⟨u, rfl, rx⟩ := vals1 r
  cases rx
  have fin : ∀ (its : List Value), Vals ys its → ys.length ≤ sizeLine → ∀ (h' : Heap) (c' : Nat), (∀ b o', s.heap.get? b = some o' → h'.get? b = some o') →
      h'.get? s.heap.objs.size = some { cls := .type "list", dict := none, data := .seq its.toArray c', slots := #[] } → EP X pins σ Q (.ref s.heap.objs.size) { s with heap := h' } := fun its r' hz h' c' kp e =>
    ⟨.ref s.heap.objs.size, _, I.laid (t' := s.toks) kp (Nat.le_refl _) (show ObjOk X.prog X.w _ h' _ (.lst ys) from ⟨hz, its, c', r', e⟩), rfl, q _ (I.hok.fresh (Nat.le_refl _))⟩
  rcases hq with hq | hq
  · obtain ⟨its, r', pl, hz⟩ := I.list hq
    have hlen := r'.length
    obtain ⟨o, ho, hc, n, hd⟩ := pl.isList
    exact call_list_seq p (.inl rfl) ho hc hd (fun h' c' kp e => fin its r' hz h' c' kp e) (by simp only [List.size_toArray] <;> omega)
  · obtain ⟨its, r', pl, hz⟩ := I.tuple hq
    have hlen := r'.length
    obtain ⟨o, ho, hc, n, hd⟩ := pl
    exact call_list_seq p (.inr rfl) ho hc hd (fun h' c' kp e => fin its r' hz h' c' kp e) (by simp only [List.size_toArray] <;> omega)
/-! ### the call of a builtin's method: o.m(..) -/
def tyV (K : PySem.W.Frag) (T : String) (x : V) (H : Hp) : Prop := match x with
  | .str _ => T = "str"
  | .int _ => T = "int"
  | .ref p => (T = "list" ∧ ∃ xs, SqL K H p xs) ∨ (T = "tuple" ∧ ∃ o, K.lookup p = some o ∧ o.cls = .type "tuple" ∧ o.dict = none) ∨
      (T = "dict" ∧ ((∃ kvs, H p = some (.dK kvs)) ∨ ∃ kvs, H p = some (.dT kvs))) ∨ (T = "set" ∧ ∃ S n, H p = some (.set S n))
  | _ => False
theorem tyV_is {pins : List (Addr × Obj)} {σ : St} {H : Hp} {s : Shared} {T : String} {x : V} {v : Value} (I : Inv X pins σ H s) (r : RelV x v) (ty : tyV X.K T x H) :
    s.TypeIs v T ∧ ∀ a, v = .ref a → ∃ ob, s.heap.get? a = some ob ∧ ob.dict = none := by
  cases x with
  | str z =>
    obtain ⟨t, rfl⟩ := r
    cases (show T = "str" from ty)
    exact ⟨typeIs_str s z t, fun _ e => nomatch e⟩
  | int i =>
    obtain ⟨t, rfl⟩ := r
    cases (show T = "int" from ty)
    exact ⟨typeIs_int s i t, fun _ e => nomatch e⟩
  | ref p =>
    cases r
    rcases ty with ⟨rfl, xs, hq⟩ | ⟨rfl, o, hk, hc, hd⟩ | ⟨rfl, hk⟩ | ⟨rfl, S, n, hk⟩
    · obtain ⟨its, _, pl, _⟩ := I.list hq
      refine ⟨pl.isList.typeIs, fun a e => ?_⟩
      cases e
      obtain ⟨o, n, e, c, hd, _⟩ := pl
      exact ⟨o, e, hd⟩
    · refine ⟨⟨o, I.kIn p o hk, hc⟩, fun a e => ?_⟩
      cases e
      exact ⟨o, I.kIn _ o hk, hd⟩
    · have z : ∃ o, s.heap.get? p = some o ∧ o.ExactDict := by
        rcases hk with ⟨kvs, hk⟩ | ⟨kvs, hk⟩
        · obtain ⟨_, _, _, _, o, _, _, e, ex, _⟩ := I.hok p _ hk
          exact ⟨o, e, ex⟩
        · obtain ⟨_, _, _, _, o, _, _, e, ex, _⟩ := I.hok p _ hk
          exact ⟨o, e, ex⟩
      obtain ⟨o, e, ex⟩ := z
      refine ⟨⟨o, e, ex.1⟩, fun a e2 => ?_⟩
      cases e2
      exact ⟨o, e, ex.2.1⟩
    · obtain ⟨o, _, _, _, e, ex, _⟩ := I.hok p _ hk
      refine ⟨⟨o, e, ex.1⟩, fun a e2 => ?_⟩
      cases e2
      exact ⟨o, e, ex.2.1⟩
  | _ => exact False.elim ty
def tBM0 (K : PySem.W.Frag) (T : String) (r : V → List V → Hp → VK → Prop) (to : TE) : TE := fun σ H Q => to σ H fun x H1 => tyV K T x H1 ∧ r x [] H1 Q
def tBM (K : PySem.W.Frag) (T : String) (r : V → List V → Hp → VK → Prop) (to : TE) (t : TA) : TE := fun σ H Q => to σ H fun x H1 => tyV K T x H1 ∧ t σ H1 fun xs H2 => r x xs H2 Q
variable {o e : Expr} {es : List Expr} {to : TE} {t : TA} {name : Str} {apos cpos : Pos} {T id : String} {r : V → List V → Hp → VK → Prop}
theorem pe_bm0 (pa : PlainAttrs T) (slot : Slot T name id) (hty : typeOf (.builtin id) = pure (.type "method_descriptor")) (hm : MtR X id r) (ho : PE X o to)
    (hbase : attributeBase o name X.env (eval o X.env) = eval o X.env := by rfl) (hline : (apos.endLine == cpos.line) = true := by rfl) : PE X (.Call (.Attribute o name apos) [] [] cpos) (tBM0 X.K T r to) := by
  intro pins s σ H Q I h
  refine wpAny_Call_method0_late hbase hline (thn (ho pins s σ H _ I h) fun v s1 ⟨x, H1, I1, r1, ty, q1⟩ => ?_)
  obtain ⟨h1, h2⟩ := tyV_is I1 r1 ty
  exact ⟨T, id, pa, slot, hty, h1, h2, Calls.callWith_builtin rfl (PySem.evalArgs_none (hm pins s1 σ H1 x [] v [] Q I1 r1 .nil q1))⟩
theorem pe_bm (pa : PlainAttrs T) (slot : Slot T name id) (hty : typeOf (.builtin id) = pure (.type "method_descriptor")) (hm : MtR X id r) (ho : PE X o to) (ha : PA X (e :: es) t)
    (hbase : attributeBase o name X.env (eval o X.env) = eval o X.env := by rfl)
    (hfew : ((backTo cpos (starEach (e :: es) X.env)).all (fun x => !x.1) && (backToKw cpos (keywordEach [] X.env)).all (fun x => x.1.isSome)
      && decide ((e :: es).length + ([] : List Keyword).length + (if ([] : List Keyword).isEmpty then 0 else 1) < 30)) = true := by rfl)
    (hline : (apos.endLine == cpos.line) = true := by rfl) (hs : starEach (e :: es) X.env = (false, eval e X.env) :: starEach es X.env := by rfl) (hplain : (backTo cpos (starEach es X.env)).any (·.1) = false := by rfl) :
    PE X (.Call (.Attribute o name apos) (e :: es) [] cpos) (tBM X.K T r to t) := by
  intro pins s σ H Q I h
  refine wpAny_Call_method_late hbase hfew hline rfl (thn (ho pins s σ H _ I h) fun v s1 ⟨x, H1, I1, r1, ty, q1⟩ => ?_)
  obtain ⟨h1, h2⟩ := tyV_is I1 r1 ty
  refine ⟨T, id, pa, slot, hty, h1, h2, ?_⟩
  have hA := ha cpos pins s1 σ H1 _ I1 q1
  rw [hs] at hA ⊢
  refine Calls.callWith_builtin (by show (false || (backTo cpos (starEach es X.env)).any (·.1)) = false; rw [hplain] <;> rfl) (Calls.evalArgs_plain ?_)
  exact thn hA fun us s2 ⟨vs, H2, I2, r2, q2⟩ => hm pins s2 σ H2 x vs v us Q I2 r1 r2 q2
/- xs.append(e), list.index on a module's tuple .. are MtR facts of 06m -/
end
end L2

namespace L2
open PySem PySem.Spec PyProof.Rows

def MtM (X : Cx) (id : String) (r : V → List V → Hp → VK → Prop) : Prop :=
  ∀ (pins : List (Addr × Obj)) (s : Shared) (σ : St) (H : Hp) (x : V) (xs : List V) (v : Value) (us : List Value) (Q : VK), Inv X pins σ H s → RelV x v → Vals xs us → r x xs H Q →
    wpAny (model X.prog X.w) X.A (call (.builtin id) (v :: us)) (EP X pins σ Q) X.xe s

/-! ### lists of values -/
theorem Vals.one : ∀ {x : V} {us : List Value}, Vals [x] us → ∃ u, us = [u] ∧ RelV x u
  | _, _, .cons r .nil => ⟨_, rfl, r⟩
theorem Vals.two : ∀ {x y : V} {us : List Value}, Vals [x, y] us → ∃ u v, us = [u, v] ∧ RelV x u ∧ RelV y v
  | _, _, _, .cons r (.cons q .nil) => ⟨_, _, rfl, r, q⟩
theorem Vals.zero : ∀ {us : List Value}, Vals [] us → us = []
  | _, .nil => rfl
theorem Vals.dropLast {xs : List V} {us : List Value} (h : Vals xs us) : Vals xs.dropLast us.dropLast := by
  induction h with
  | nil => exact .nil
  | cons r t ih =>
    cases t with
    | nil => exact .nil
    | cons q t' => exact .cons r ih
theorem Vals.eraseIdx : ∀ {xs : List V} {us : List Value} (i : Nat), Vals xs us → Vals (xs.eraseIdx i) (us.eraseIdx i)
  | _, _, _, .nil => .nil
  | _, _, 0, .cons _ t => t
  | _, _, i + 1, .cons r t => .cons r (Vals.eraseIdx i t)
theorem Vals.reverse {xs : List V} {us : List Value} (h : Vals xs us) : Vals xs.reverse us.reverse := by
  induction h with
  | nil => exact .nil
  | cons r t ih => rw [List.reverse_cons, List.reverse_cons]; exact Vals.append ih (.cons r .nil)
theorem Vals.rep {xs : List V} {us : List Value} (h : Vals xs us) : ∀ k : Nat, Vals (List.replicate k xs).flatten (List.replicate k us).flatten
  | 0 => .nil
  | k + 1 => by
    rw [List.replicate_succ, List.replicate_succ, List.flatten_cons, List.flatten_cons]
    exact Vals.append h (Vals.rep h k)
theorem erase_last {α : Type} (l : List α) : l.eraseIdx (l.length - 1) = l.dropLast := by
  induction l with
  | nil => rfl
  | cons a r ih =>
    cases r with
    | nil => rfl
    | cons b r =>
      have e : (a :: b :: r).length - 1 = ((b :: r).length - 1) + 1 := by
        have h1 : (a :: b :: r).length = r.length + 2 := rfl
        have h2 : (b :: r).length = r.length + 1 := rfl
        omega
      rw [e, List.eraseIdx_cons_succ, ih]
      all_goals rfl
theorem foldl_rep (its : List Value) : ∀ (k : Nat) (acc : List Value),
    List.foldl (fun x1 x2 => x1 ++ x2) acc.toArray (List.replicate k its.toArray) = (acc ++ (List.replicate k its).flatten).toArray
  | 0, acc => by simp
  | k + 1, acc => by
    have e : acc.toArray ++ its.toArray = (acc ++ its).toArray := by simp
    have e2 : (acc ++ its) ++ (List.replicate k its).flatten = acc ++ (List.replicate (k + 1) its).flatten := by
      rw [List.replicate_succ, List.flatten_cons, List.append_assoc]
    rw [← e2, ← foldl_rep its k (acc ++ its), ← e, List.replicate_succ, List.foldl_cons]

section
variable {X : Cx} {pins : List (Addr × Obj)} {σ : St} {H : Hp} {s : Shared} {l b : Addr} {xs ys zs : List V}

/-! ### the two steps: a tracked list is rewritten, a new list is laid -/
theorem Inv.lset {its its' : List Value} {n : Nat} {f : Array Value → Array Value} {t' : Nat} (I : Inv X pins σ H s) (hH : H l = some (.lst xs))
    (e : s.heap.get? l = some { cls := .type "list", data := .seq its.toArray n }) (hf : f its.toArray = its'.toArray) (hv : Vals ys its') (hz : ys.length ≤ sizeLine) :
    Inv X pins σ (upd H l (.lst ys)) { s with heap := s.heap.update l (Obj.mapSeq f), toks := t' } := by
  have q := PySem.IsL.update e f
  rw [hf] at q
  refine I.write (x := l) (e := l) (by rw [hH]; exact trivial) (.inl rfl) (fun b' u hb hu => (Heap.get?_update_other s.heap (Obj.mapSeq f) (Ne.symm hb)).trans hu) ⟨_, q⟩ ?_
  exact ⟨hz, its', _, hv, q⟩
theorem Inv.lnew {its : List Value} {t' : Nat} (I : Inv X pins σ H s) (hv : Vals ys its) (hz : ys.length ≤ sizeLine) :
    Inv X pins σ (upd H s.heap.objs.size (.lst ys)) { s with heap := s.heap.push { cls := .type "list", data := .seq its.toArray }, toks := t' } :=
  I.laid (fun _ _ q => Heap.get?_push_of_some _ q) (Nat.le_refl _) ⟨hz, its, 0, hv, Heap.get?_push_size _ rfl⟩
theorem Inv.fresh (I : Inv X pins σ H s) : H s.heap.objs.size = none := I.hok.fresh (Nat.le_refl _)
theorem Inv.lstM (I : Inv X pins σ H s) (hH : H l = some (.lst xs)) : xs.length ≤ sizeLine ∧ ∃ (its : List Value) (n : Nat), Vals xs its ∧ xs.length = its.length ∧ s.heap.get? l = some { cls := .type "list", data := .seq its.toArray n } := by
  obtain ⟨z, its, n, r, e⟩ := I.hok l _ hH
  exact ⟨z, its, n, r, r.length, e⟩

theorem notLongL {n : Nat} (h : n ≤ sizeLine) : Builtin.List.listTooLong n = false := by
  unfold Builtin.List.listTooLong
  exact decide_eq_false (by omega)
end

section
variable {X : Cx}

/-! ### methods -/
def rAppend : V → List V → Hp → VK → Prop := fun x vs H Q => ∃ l xs y, x = .ref l ∧ vs = [y] ∧ H l = some (.lst xs) ∧ xs.length < sizeLine ∧ Q .non (upd H l (.lst (xs ++ [y])))
theorem mt_append : MtM X "list.append" rAppend := by
  intro pins s σ H x vs v us Q I rx rv h
  obtain ⟨l, xs, y, rfl, rfl, hH, hz, q⟩ := h
  cases rx
  obtain ⟨u, rfl, ru⟩ := rv.one
  obtain ⟨z, its, n, r, hl, e⟩ := I.lstM hH
  refine call_meets F.slot_list_append ⟨_, e, rfl⟩ F.entry_list_append (F.args_list_append_2 _ _) (PySem.list_append l its.toArray n u (by rw [List.size_toArray]; omega)) ⟨e, ?_⟩
  refine ⟨.non, _, I.lset (its' := its ++ [u]) hH e (by simp) (r.append (.cons ru .nil)) ?_, rfl, q⟩
  rw [List.length_append, List.length_singleton]
  omega

def rExtend : V → List V → Hp → VK → Prop := fun x vs H Q => ∃ l b xs zs, x = .ref l ∧ vs = [.ref b] ∧ H l = some (.lst xs) ∧ H b = some (.lst zs) ∧ xs.length + zs.length ≤ sizeLine ∧ Q .non (upd H l (.lst (xs ++ zs)))
theorem mt_extend : MtM X "list.extend" rExtend := by
  intro pins s σ H x vs v us Q I rx rv h
  obtain ⟨l, b, xs, zs, rfl, rfl, hH, hB, hz, q⟩ := h
  cases rx
  obtain ⟨u, rfl, ru⟩ := rv.one
  cases ru
  obtain ⟨z, its, n, r, hl, e⟩ := I.lstM hH
  obtain ⟨z2, its2, n2, r2, hl2, e2⟩ := I.lstM hB
  have hsz : its.toArray.size + its2.toArray.size ≤ sizeLine := by rw [List.size_toArray, List.size_toArray]; omega
  have hlong : ¬ (!its.toArray.isEmpty && Builtin.List.listTooLong (its.toArray.size + its2.toArray.size)) = true := by
    rw [notLongL hsz, Bool.and_false]
    exact Bool.false_ne_true
  refine call_meets F.slot_list_extend ⟨_, e, rfl⟩ F.entry_list_extend (F.args_list_extend_2 _ _)
    (AutoSeq1.list_extend_list_list_0 l its.toArray n b its2.toArray n2 hlong (by rw [List.size_toArray]; omega) (by omega)) ⟨e, e2, ?_⟩
  refine ⟨.non, _, I.lset (its' := its ++ its2) hH e (by simp) (r.append r2) ?_, rfl, q⟩
  rw [List.length_append]
  omega

def rPop : V → List V → Hp → VK → Prop := fun x vs H Q => ∃ l xs y, x = .ref l ∧ vs = [] ∧ H l = some (.lst xs) ∧ xs[xs.length - 1]? = some y ∧ Q y (upd H l (.lst xs.dropLast))
theorem mt_pop : MtM X "list.pop" rPop := by
  intro pins s σ H x vs v us Q I rx rv h
  obtain ⟨l, xs, y, rfl, rfl, hH, hy, q⟩ := h
  cases rx
  have hus := rv.zero
  subst hus
  obtain ⟨z, its, n, r, hl, e⟩ := I.lstM hH
  obtain ⟨u, hu, ru⟩ := r.get hy
  have hy' : its.toArray[its.toArray.size - 1]? = some u := by
    show its.toArray[its.length - 1]? = some u
    rw [← Array.getElem?_toList, ← hl]
    exact hu
  refine call_meets F.slot_list_pop ⟨_, e, rfl⟩ F.entry_list_pop (F.args_list_pop_1 _) (MeetsSeq.list_pop_last l its.toArray n u hy' (by rw [List.size_toArray]; omega)) ⟨e, ?_⟩
  refine ⟨y, _, I.lset (its' := its.dropLast) hH e ?_ r.dropLast ?_, ru, q⟩
  · show its.toArray.eraseIdxIfInBounds (its.toArray.size - 1) = its.dropLast.toArray
    rw [List.size_toArray, List.eraseIdxIfInBounds_toArray, erase_last]
  · rw [List.length_dropLast]
    omega

def rReverse : V → List V → Hp → VK → Prop := fun x vs H Q => ∃ l xs, x = .ref l ∧ vs = [] ∧ H l = some (.lst xs) ∧ Q .non (upd H l (.lst xs.reverse))
theorem mt_reverse : MtM X "list.reverse" rReverse := by
  intro pins s σ H x vs v us Q I rx rv h
  obtain ⟨l, xs, rfl, rfl, hH, q⟩ := h
  cases rx
  have hus := rv.zero
  subst hus
  obtain ⟨z, its, n, r, hl, e⟩ := I.lstM hH
  refine call_meets F.slot_list_reverse ⟨_, e, rfl⟩ F.entry_list_reverse (F.args_list_reverse_1 _) (AutoSeq1.list_reverse_list_0 l its.toArray n (by rw [List.size_toArray]; omega)) ⟨e, ?_⟩
  refine ⟨.non, _, I.lset (its' := its.reverse) hH e (by simp) r.reverse ?_, rfl, q⟩
  rw [List.length_reverse]
  omega

/-! ### list + list, list += list, list * int -/
def rCat : R2 := fun x y H Q => ∃ l b xs zs, x = .ref l ∧ y = .ref b ∧ H l = some (.lst xs) ∧ H b = some (.lst zs) ∧ xs.length + zs.length ≤ sizeLine ∧ ∀ p, H p = none → Q (.ref p) (upd H p (.lst (xs ++ zs)))
theorem op_cat : OpR X (binaryOp .Add) rCat := by
  intro pins s σ H x y v u Q I rx ry h
  obtain ⟨l, b, xs, zs, rfl, rfl, hH, hB, hz, q⟩ := h
  cases rx
  cases ry
  obtain ⟨z, its, n, r, hl, e⟩ := I.lstM hH
  obtain ⟨z2, its2, n2, r2, hl2, e2⟩ := I.lstM hB
  refine PySem.P.add_list e e2 ?_ (by rw [List.size_toArray, List.size_toArray]; omega)
  have ea : its.toArray ++ its2.toArray = (its ++ its2).toArray := by simp
  rw [ea]
  exact ⟨.ref _, _, I.lnew (t' := s.toks) (r.append r2) (by rw [List.length_append]; omega), rfl, q _ I.fresh⟩
def rRep : R2 := fun x y H Q => ∃ l k xs, x = .ref l ∧ y = .int k ∧ H l = some (.lst xs) ∧ -(2 ^ 63) ≤ k ∧ k < 2 ^ 63 ∧ xs.length * k.toNat ≤ sizeLine ∧
  ∀ p, H p = none → Q (.ref p) (upd H p (.lst (List.replicate k.toNat xs).flatten))
theorem len_rep {α : Type} (xs : List α) (k : Nat) : (List.replicate k xs).flatten.length = k * xs.length := by
  induction k with
  | zero => simp
  | succ k ih => rw [List.replicate_succ, List.flatten_cons, List.length_append, ih, Nat.succ_mul, Nat.add_comm]
theorem op_rep : OpR X (binaryOp .Mult) rRep := by
  intro pins s σ H x y v u Q I rx ry h
  obtain ⟨l, k, xs, rfl, rfl, hH, h1, h2, hz, q⟩ := h
  cases rx
  obtain ⟨t, rfl⟩ := ry
  obtain ⟨z, its, n, r, hl, e⟩ := I.lstM hH
  have hlen : its.toArray.size * k.toNat ≤ sizeLine := by rw [List.size_toArray, ← hl]; exact hz
  have hcap : ¬ its.toArray.size * k.toNat > (2 ^ 63 - 1) / 8 := by
    have : (sizeLine : Nat) ≤ (2 ^ 63 - 1) / 8 := by decide
    omega
  have hfit : ¬ (!Builtin.List.listFitsIndex k) = true := by
    rw [fitsIndex_both h1 h2]
    exact Bool.false_ne_true
  have hlong : ¬ Builtin.List.listTooLong (its.toArray.size * k.toNat) = true := by
    rw [notLongL hlen]
    exact Bool.false_ne_true
  have hnew : List.foldl (fun x1 x2 => x1 ++ x2) #[] (List.replicate (if its.toArray.isEmpty = true then 0 else k.toNat) its.toArray) = (List.replicate k.toNat its).flatten.toArray := by
    have f0 : ∀ m : Nat, List.foldl (fun x1 x2 => x1 ++ x2) #[] (List.replicate m its.toArray) = (List.replicate m its).flatten.toArray := fun m => by
      have := foldl_rep its m []
      rw [List.nil_append] at this
      exact this
    rw [f0]
    cases its with
    | nil => simp
    | cons a r' => rw [if_neg (by simp)]
  refine wpAny_binaryOp_repeat_ref (T := "list") (U := "int") (by decide) ⟨_, e, rfl⟩ (fun s' => typeIs_int s' k t) noFill_list_mul F.fills_int_mul F.slot_int_rmul repeat_list F.slot_int_index.lookup
    (call_meets F.slot_int_rmul (typeIs_int s k t) F.entry_int_rmul (F.args_int_rmul_2 _ _) (int___rmul___int_list k t l its.toArray n)
      ⟨e, rfl, ⟨_, e, rfl⟩, call_meets F.slot_list_mul ⟨_, e, rfl⟩ F.entry_list_mul (F.args_list_mul_2 _ _) (AutoListH.list___mul___list_int_3 l its.toArray n k t hfit hcap hlong) ⟨e, ?_⟩⟩)
  rw [hnew]
  exact ⟨.ref _, _, I.lnew (t' := s.toks) (r.rep k.toNat) (by rw [len_rep, Nat.mul_comm]; exact hz), rfl, q _ I.fresh⟩

/-! ### del xs[i] -/
end

/-! ### xs[a:b] = ys -/
section
variable {prog : Program} {w : World} {A : Around} {E : Value → Shared → Prop} {s : Shared}
set_option maxRecDepth 100000 in
end

section
variable {X : Cx}
end
end L2

namespace Att
open PySem PySem.W PySem.Calls PyProof.Rows

/-! ### the script -/
theorem ints_of_wellAll {P : Params} {h : Heap} : ∀ (ns : List Int) (vs : List Value), WellAll P h vs (ns.map WData.int) → IntsAre vs ns := by
  intro ns
  induction ns with
  | nil =>
    intro vs w
    rw [List.map_nil] at w
    cases w
    exact .nil
  | cons n ns ih =>
    intro vs w
    rw [List.map_cons] at w
    cases w with
    | cons a b =>
      cases a
      exact .cons _ _ (ih _ b)

theorem script_of {l : OpenLaw} {n : Nat} (hn : l.most = some n) {P : Params} {h : Heap} {args : List WData} {vals : List Value}
    (hpre : l.row.toRowW.claim.pre args = true) (hwl : WellAll P h vals args) :
    ∃ a vs ns, vals = [Value.ref a] ∧ args = [WData.list (ns.map WData.int)] ∧ h.get? a = some { cls := .type "list", data := .seq vs.toArray } ∧ IntsAre vs ns ∧ ns.length ≤ n := by
  have hsh : WShape.hasAll [] args [.list .int] = true := (pre_splitW hpre).1
  have hc : l.pre.holds [] { args := args } = true := (pre_splitW hpre).2
  obtain ⟨d, r, rfl, h1, h2⟩ := hasAllW_cons hsh
  obtain rfl := hasAllW_nil h2
  obtain ⟨xs, rfl, h3⟩ := hasW_list h1
  obtain ⟨ns, rfl⟩ := items_int h3
  have hlen : ns.length ≤ n := by
    unfold OpenLaw.pre at hc
    have h4 : (WTm.not (.lt (.lit (.int (n : Int))) (.len (.arg 0)))).holds [] { args := [.list (ns.map .int)] } = true := by
      have h4 := (holds_andW hc).1
      rw [hn] at h4
      exact h4
    have h5 := condW_of h4 (w_not (w_lt w_lit (w_len_list (w_arg rfl))))
    rw [List.length_map] at h5
    refine Nat.le_of_not_lt fun q => ?_
    have q' : (n : Int) < ((ns.length : Nat) : Int) := by omega
    first
      | (rw [decide_eq_true q'] at h5; exact absurd h5 (by decide))
      | (simp at h5; omega)
  cases hwl with
  | cons w1 w2 =>
    cases w2
    cases w1 with
    | list ho hall => exact ⟨_, _, ns, rfl, rfl, ho, ints_of_wellAll ns _ hall, hlen⟩

theorem post_true (l : OpenLaw) (args : List WData) : l.row.toRowW.claim.post args (.bool true) args = true :=
  postW_of (r := l.row.toRowW) (X := (true == true))
    (show WShape.has [] (.bool true) .bool = true by first | rfl | decide | simp [WShape.has, WShape.arms, WShape.armsAll])
    (show (WTm.eq .res (.lit (.bool true))).value [] { args := args, res := some (.bool true), after := args } = some (.bool (true == true)) from w_eq_bool (w_res rfl) w_lit) rfl

/-! ### the attachment: holds_open's last premise (the goal 'hc' behind k_head) from a wpAny of the law's body -/
theorem attach_call {l : OpenLaw} {n : Nat} {q : Program} {loose : List Str} {XP : (Str → Option Value) → Heap → Prop} {YP : World → Heap → Prop} {d : DefRec}
    (hn : l.most = some n) (hdf : d.params.defaults = [])
    (call : ∀ (w : World) (s₀ s₁ : Shared) (mg mb : Str → Option Value) (fa : Addr) (o : Obj) (pm cd doc : Value) (a : Addr) (vs : List Value) (ns : List Int),
      Ground q loose [] XP w s₀ mg mb s₁.heap → YP w s₁.heap →
      s₁.heap.get? fa = some o → o.data = .func (docDef d.name d.params d.body d.scope pm cd doc) → s₁.heap.CodeRec cd d.name → mg d.name = some (.ref fa) →
      s₁.heap.get? a = some { cls := .type "list", data := .seq vs.toArray } → IntsAre vs ns → ns.length ≤ n → s₁.gens = #[] →
      codeAny (model l.prog w) callerA (.call (.ref fa) ⟨[.ref a], []⟩) (fun r s' => r = .ok (.ret (.bool true)) ∧ OldK s₁.heap s'.heap ∧ s'.os = s₁.os ∧ AllBare s'.gens) s₁) :
    WalkO q loose XP YP l.row.toRowW d [] (fun f vs => PySem.call f vs) := by
  intro w s₀ s₁ mg mb G Y fa o pm cd doc dV kV ho hd hcd hD hmg hg args vals as hpre hlay hrd hwl hlo
  obtain rfl : dV = .none := Dflts.none hD hdf
  obtain rfl : kV = .none := Dflts.noKw hD
  obtain ⟨a, vs, ns, rfl, rfl, hobj, hints, hlen⟩ := script_of hn hpre hwl
  refine enter_call (codeAny_mono (call w s₀ s₁ mg mb fa o pm cd doc a vs ns G Y ho (fd_plain hd) hcd hmg hobj hints hlen hg) fun r s' hq => ?_)
  obtain ⟨rfl, h2, h3, h4⟩ := hq
  exact ⟨.inl ⟨.bool true, .bool true, [], rfl, fun _ => rfl, .bool true, post_true l _, fun _ => ⟨List.Pairwise.nil, fun _ hm => (nomatch hm)⟩⟩, h2, h3, h4⟩

/-! ### rules over ANY heap (no ledger) from facts about the written part K: the library's own take a ledger (News) for what they write -/
section
variable {prog : Program} {w : World} {A : Around} {E : Value → Shared → Prop} {s : Shared} {K : Frag}

/-! the whole heap as the ledger: makes every rule that writes through a ledger a rule over any heap -/
def ledger (h : Heap) (L d : Addr) : List (Addr × Obj) := (List.range h.objs.size).filterMap fun a => if a = L ∨ a = d then none else (h.get? a).map fun o => (a, o)
end
end Att

namespace L2
open PySem PySem.Spec PyProof.Rows

theorem vals_ints : ∀ {vs : List Value} {ns : List Int}, IntsAre vs ns → Vals (ns.map V.int) vs
  | _, _, .nil => .nil
  | _, _, .cons n t h => .cons ⟨t, rfl⟩ (vals_ints h)

def Only (H : Hp) : Prop := ∀ b, H b = none ∨ ∃ o xs, H b = some (.frz o (.lst xs))

theorem law_call {P : Program} {w : World} {K : PySem.W.Frag} {mg mb : Str → Option Value} {CX : CXT} {k : Nat} {fa a : Addr} {fd : FuncData} {x : Str} {sp : Sp} {s₁ : Shared} {vs : List Value} {ns : List Int}
    (KX : K.In s₁.heap) (hns : s₁.heap.Ns mainGlobals mg) (hb : s₁.heap.Ns builtinsNs mb) (hbb : ∀ x : Str, x ≠ "__name__" → mb x = bootBuiltins x) (hlim : s₁.heap.NoLimit) (hg : s₁.gens = #[])
    (ha : s₁.heap.get? a = some { cls := .type "list", data := .seq vs.toArray }) (hi : IntsAre vs ns) (hl : ns.length ≤ sizeLine) (hr : Room k callerA)
    (F : ∀ base : Heap, K.In base → base.Ns mainGlobals mg → FnOk P w K mg base CX k fa fd [x] sp) (hbind : ∀ (s : Shared) (u : Value), BindsTo s fd ⟨[u], []⟩ [(x, u)])
    (hsp : ∀ H : Hp, Only H → SqL K H a (ns.map V.int) → sp [.ref a] H (fun v _ => v = .bl true) fun _ _ _ => False)
    (hCX : ∀ H e s', CX [] H s₁ (fun _ _ _ => False) e s' → False) :
    codeAny (model P w) callerA (.call (.ref fa) ⟨[.ref a], []⟩) (fun r s' => r = .ok (.ret (.bool true)) ∧ OldK s₁.heap s'.heap ∧ s'.os = s₁.os ∧ AllBare s'.gens) s₁ := by
  have rv := vals_ints hi
  have lenV := hi.length
  -- from an abstract heap in which nothing but the script may be tracked
  have core : ∀ H : Hp, Only H → SqL K H a (ns.map V.int) → HOk P w H s₁.heap → (∀ b, H b ≠ none → b = a) → (H a ≠ none → K.lookup a = none) →
      codeAny (model P w) callerA (.call (.ref fa) ⟨[.ref a], []⟩) (fun r s' => r = .ok (.ret (.bool true)) ∧ OldK s₁.heap s'.heap ∧ s'.os = s₁.os ∧ AllBare s'.gens) s₁ := by
    intro H hO hS hok hA hK
    have base_of : ∀ {b : Addr} {o : Obj}, s₁.heap.get? b = some o → H b = none → (hidT s₁.heap H).get? b = some o := fun e n => hidT_get e n
    have noA : ∀ {b : Addr} {o : Obj} {es : Array DictEntry} {ep : Nat}, s₁.heap.get? b = some o → o.data = .dict es ep → H b = none := fun {b o es ep} e d => by
      cases q : H b with
      | none => rfl
      | some u =>
        have e' : b = a := hA b (by rw [q]; simp)
        subst e'
        rw [ha] at e; cases e
        have d' : Data.seq vs.toArray _ = Data.dict es ep := d
        cases d'
    have nsK : ∀ {b : Addr} {m : Str → Option Value}, s₁.heap.Ns b m → (hidT s₁.heap H).Ns b m := fun {b m} ⟨o, es, ep, e, d, r⟩ => ⟨o, es, ep, base_of e (noA e d), d, r⟩
    have hKb : K.In (hidT s₁.heap H) := fun b o e => base_of (KX b o e) (by
      cases q : H b with
      | none => rfl
      | some u =>
        have e' : b = a := hA b (by rw [q]; simp)
        subst e'
        rw [hK (by rw [q]; simp)] at e; cases e)
    have hM : Mod K mg (hidT s₁.heap H) := ⟨hKb, nsK hns, ⟨mb, nsK hb, hbb⟩, let ⟨mc, h1, h2⟩ := hlim; ⟨mc, nsK h1, h2⟩⟩
    have e0 : Env0 P w K mg (hidT s₁.heap H) callerA [] s₁ H := ⟨rfl, hM, fun b o e => of_hidT e, Nat.le_of_eq (hidT_size _ _), trivial, fun b hb => absurd (show b ∈ ([] : List Addr) from hb) (by simp), hok, .of_eq hg⟩
    refine codeAny_mono ((F _ hKb (nsK hns)).run callerA [] s₁ H ⟨[.ref a], []⟩ [.ref a] [.ref a] _ _ hr e0 (hbind s₁ (.ref a)) (.cons rfl .nil) (hsp H hO hS)) fun r s' h => ?_
    cases r with
    | error e => exact (hCX H e s' h).elim
    | ok fl =>
      cases fl with
      | next => exact False.elim h
      | brk => exact False.elim h
      | cont => exact False.elim h
      | ret u =>
        obtain ⟨v, H', os, bare, un, hok', r', q⟩ := h
        have q' : v = .bl true := q
        subst q'
        obtain rfl : u = Value.bool true := r'
        refine ⟨rfl, OldK.of_keep fun b o e => ?_, os, bare⟩
        cases q : H b with
        | none => exact un.keep b o e q (by intro z; exact absurd (show b ∈ ([] : List Addr) from z) (by simp)) (by simp)
        | some u =>
          rcases hO b with z | ⟨ob, xs, z⟩
          · rw [q] at z; cases z
          · have z2 := un.frzs b ob _ z
            obtain ⟨e1, _⟩ := hok b _ z
            obtain ⟨e2, _⟩ := hok' b _ z2
            rw [e] at e1; cases e1
            exact e2
  cases hk : K.lookup a with
  | some o =>
    -- the script is one of the module's own objects
    have e := KX a o hk
    rw [ha] at e
    cases e
    refine core (fun _ => none) (fun _ => .inl rfl) (.inr ⟨_, vs.toArray, _, hk, rfl, rfl, rfl, by rw [List.size_toArray, lenV]; exact hl, by simpa using rv⟩) (fun b u z => by have z' : (none : Option HO) = some u := z; cases z') (fun b z => absurd rfl z) fun z => absurd rfl z
  | none =>
    refine core (fun b => if b = a then some (.frz { cls := .type "list", data := .seq vs.toArray } (.lst (ns.map V.int))) else none) (fun b => ?_) (.inl (.inr ⟨{ cls := .type "list", data := .seq vs.toArray }, if_pos rfl⟩)) (fun b u z => ?_) (fun b z => ?_) fun _ => hk
    · by_cases hb : b = a
      · exact .inr ⟨_, _, if_pos hb⟩
      · exact .inl (if_neg hb)
    · by_cases hb : b = a
      · have z' := (if_pos hb).symm.trans z
        cases z'
        subst hb
        exact ⟨ha, by rw [List.length_map]; exact hl, vs, _, rv, ha⟩
      · have z' := (if_neg hb).symm.trans z
        cases z'
    · by_cases hb : b = a
      · exact hb
      · exact absurd (if_neg hb) z
end L2

namespace L2
open PySem PySem.Spec PyProof.Rows

abbrev KOf {K : PySem.W.Frag} {h : Heap} (_ : K.In h) : PySem.W.Frag := K

theorem walk_of {l : PySem.W.OpenLaw} {n k : Nat} {q : Program} {loose : List Str} {XP : (Str → Option Value) → Heap → Prop} {YP : World → Heap → Prop} {d : DefRec} {K : Params → PySem.W.Frag} {CX : World → CXT} {sp : World → Sp} {x : Str}
    (hn : l.most = some n) (hn2 : n ≤ sizeLine) (hdf : d.params.defaults = []) (hr : Room k callerA)
    (hY : ∀ (w : World) (h : Heap), YP w h → (K w.params).In h)
    (F : ∀ (w : World) (mg : Str → Option Value) (fa : Addr) (h : Heap), (K w.params).In h → h.Ns mainGlobals mg → mg d.name = some (.ref fa) →
      ∃ fd : FuncData, (∀ (s : Shared) (u : Value), BindsTo s fd ⟨[u], []⟩ [(x, u)]) ∧
        ∀ base : Heap, (K w.params).In base → base.Ns mainGlobals mg → FnOk l.prog w (K w.params) mg base (CX w) k fa fd [x] (sp w))
    (hsp : ∀ (w : World) (H : Hp) (a : Addr) (ns : List Int), ns.length ≤ n → Only H → SqL (K w.params) H a (ns.map V.int) → sp w [.ref a] H (fun v _ => v = .bl true) fun _ _ _ => False)
    (hCX : ∀ (w : World) (H : Hp) (s : Shared) (e : Value) (s' : Shared), CX w [] H s (fun _ _ _ => False) e s' → False) :
    PySem.W.WalkO q loose XP YP l.row.toRowW d [] (fun f vs => PySem.call f vs) := by
  refine Att.attach_call hn hdf fun w s₀ s₁ mg mb fa o pm cd doc a vs ns G Y ho hd hcd hmg hobj hints hlen hg => ?_
  have KX := hY w _ Y
  obtain ⟨fd, hb, hF⟩ := F w mg fa _ KX G.T.g hmg
  exact law_call KX G.T.g G.T.b G.T.builtins G.T.nolimit hg hobj hints (Nat.le_trans hlen hn2) hr hF hb (fun H hO hS => hsp w H a ns hlen hO hS) fun H e s' => hCX w H s₁ e s'
end L2

/- THE LAST THEOREM (shape; LID, My.* are yours):
   My.Adr: a structure of the addresses that your layer names (classes, functions); My.Txt K t: a structure (Prop) of the equations over K;
   My.txt_mk : {K} {implicit addresses ..} (e1 : nsIn K mainGlobals "law" = some (some (.ref f))) (e2 : K.lookup f = some ⟨oc, od, .func (fnOf "law" "law" params body scope dV kV doc pm an cdv ct), sl⟩) (e3 : codeIn K cdv "law" = true) .. : ∃ t, My.Txt K t

set_option maxRecDepth 100000 in
set_option maxHeartbeats 0 in
theorem PySem.Challenge.cw_LID_holds : PySem.Challenge.rw_LID.Holds := by
  w_on; o_law; k_head; (case hw => w_witness2)
  k_fill
  refine L2.walk_of (l := PySem.Challenge.rw_LID) (n := 63) (k := 40) (x := "script") (CX := fun w => ..) (sp := fun _ => My.sp_law) rfl (by decide) rfl ⟨rfl, by decide, by decide⟩ (fun w h Y => PySem.W.kIn_of Y) ?F ?S ?C
  case F =>
    intro w mg fa h KX G hmg
    have T : ∃ t, My.Txt (L2.KOf KX) t := by
      dsimp only [L2.KOf]                          -- K must stand as «<heap const> w.params» for k_is
      refine' My.txt_mk ?e1 ?e2 ?e3 ..
      (case e1 => PySem.W.k_is)                    -- in the order: a name -> its address -> its object -> its parts
      (case e2 => PySem.W.k_is)
      ..
    obtain ⟨t, T⟩ := T
    have e0 := hmg.symm.trans (PySem.W.mg_of KX G T.law)
    cases e0                                       -- fa is the law's own address
    exact ⟨_, fun s u => .of_eq rfl, fun base kb nb => My.law_fn T kb nb⟩     -- if «.of_eq rfl» comes too early: refine' ⟨_, ?b, fun base kb nb => My.law_fn T kb nb⟩; exact fun s u => .of_eq rfl
  case S => exact fun w H a ns hl hO hS => ..
  case C => exact ..
(the tactic k_is has no namespace: write k_is) -/

/-! SHORT WORDS over the layer: a def of the text, its body, what a loop and a test want. -/
namespace L2
open PySem PySem.Spec PyProof.Rows

/-! ### the text by places -/
def inClass (s : Stmt) (j : Nat) : Stmt := match s with
  | .ClassDef _ _ _ body _ _ _ _ _ _ _ => body.getD j (.Pass ⟨0, 0, 0, 0⟩)
  | _ => .Pass ⟨0, 0, 0, 0⟩
def defArgs (s : Stmt) : Arguments := match s with
  | .FunctionDef _ a _ _ _ _ _ _ _ _ => a
  | _ => { posonlyargs := [], args := [], vararg := none, kwonlyargs := [], kw_defaults := [], kwarg := none, defaults := [] }
def defBody (s : Stmt) : List Stmt := match s with
  | .FunctionDef _ _ b _ _ _ _ _ _ _ => b
  | _ => []
def defScope (s : Stmt) : Scope := match s with
  | .FunctionDef _ _ _ _ _ _ sc _ _ _ => sc
  | _ => { kind := .function, names := [], isGenerator := false, isCoroutine := false }

/-! ### no exception leaves a def -/
abbrev CX0 : CXT := fun _ _ _ _ _ _ => False
abbrev E0 : XK := fun _ _ _ => False
theorem pass0 {X : Cx} : Passes CX0 X E0 := fun _ _ _ _ _ _ _ h => h.elim

/-! ### a def (or method) of the text as it stands behind the top -/
structure Fun (K : PySem.W.Frag) (x qual : Str) (st : Stmt) (f : Addr) (fd : FuncData) : Prop where
  ex : ∃ (oc : Value) (od : Option Addr) (kV doc pm : Value) (an : Option Addr) (cdv ct : Value) (osl : Array (Option Value)),
    fd = PySem.W.fnOf x qual (defArgs st) (defBody st) (defScope st) .none kV doc pm an cdv ct ∧ K.lookup f = some ⟨oc, od, .func fd, osl⟩ ∧ PySem.W.codeIn K cdv qual = true
  kp : PySem.W.keepIn K (.ref f) = true
section
variable {P : Program} {w : World} {K : PySem.W.Frag} {mg : Str → Option Value} {base : Heap}
theorem Fun.ok {x qual : Str} {st : Stmt} {f : Addr} {fd : FuncData} {N ps : List Str} {k : Nat} {sp : Sp} (F : Fun K x qual st f fd) (S : FnScope N ps (defScope st)) (len : ∀ vs H Q E, sp vs H Q E → vs.length = ps.length)
    (hbody : ∀ (cdv : Value) (A : Around) (outer : List Env) (s : Shared) (H : Hp) (vs : List V) (Q : VK) (E : XK), Room k (A.deeper (envOfC qual (defScope st) s.heap.objs.size f cdv)) → sp vs H Q E →
      ∃ t, PSs (cxOf CX0 P w K mg base N qual (defScope st) f cdv A outer s H E).nox (defBody st) t ∧ t { nx := fun _ H' => Q .non H', rt := Q } (start N vs) H) : FnOk P w K mg base CX0 (k + 1) f fd ps sp := by
  obtain ⟨oc, od, kV, doc, pm, an, cdv, ct, osl, rfl, lk, hcd⟩ := F.ex
  refine fn_of lk hcd S len fun A outer s H vs Q E hr hsp => ?_
  obtain ⟨t, h, q⟩ := hbody cdv A outer s H vs Q E hr hsp
  exact ⟨t, h.nox, q⟩
theorem Fun.binds {x qual : Str} {st : Stmt} {f : Addr} {fd : FuncData} {ps : List Str} (F : Fun K x qual st f fd)
    (h : ∀ (kV doc pm : Value) (an : Option Addr) (cdv ct : Value) (us : List Value), us.length = ps.length → bindArgs (PySem.W.fnOf x qual (defArgs st) (defBody st) (defScope st) .none kV doc pm an cdv ct) ⟨us, []⟩ = pure (ps.zip us)) : Binds K fd ps [] := by
  obtain ⟨oc, od, kV, doc, pm, an, cdv, ct, osl, rfl, lk, hcd⟩ := F.ex
  exact .all (h kV doc pm an cdv ct)
theorem fun_mk {x qual : Str} {st : Stmt} {f : Addr} {oc : Value} {od an : Option Addr} {osl : Array (Option Value)} {kV doc pm cdv ct : Value} (l : K.lookup f = some ⟨oc, od, .func (PySem.W.fnOf x qual (defArgs st) (defBody st) (defScope st) .none kV doc pm an cdv ct), osl⟩)
    (c : PySem.W.codeIn K cdv qual = true) (k : PySem.W.keepIn K (.ref f) = true) : Fun K x qual st f (PySem.W.fnOf x qual (defArgs st) (defBody st) (defScope st) .none kV doc pm an cdv ct) := ⟨⟨oc, od, kV, doc, pm, an, cdv, ct, osl, rfl, l, c⟩, k⟩
end
theorem small1000 {n : Nat} (h : n ≤ 1000) : n < sizeLine := Nat.lt_of_le_of_lt h (by decide)

/-! ### expressions in short: the name that stands in the i-th slot -/
section
variable {X : Cx}
theorem pv (i : Nat) {x : Str} {pos : Pos} (hN : X.N[i]? = some x := by rfl) (hv : Vis X.env.scope x := by first | exact Or.inl rfl | exact Or.inr (Or.inl rfl) | exact Or.inr (Or.inr rfl)) (hd : (x == ("__debug__" : Str)) = false := by decide)
    (hcd : (x == ("__classdict__" : Str)) = false := by decide) : PE X (.Name x pos) (tVar i) := pe_var hN hv hd hcd
end

/-! ### tests -/
theorem iteF {A B : Prop} (h : B) : if false = true then A else B := by
  rw [if_neg Bool.false_ne_true]
  exact h
theorem iteT {A B : Prop} (h : A) : if true = true then A else B := by
  rw [if_pos rfl]
  exact h
theorem ite2 {c A B : Prop} [Decidable c] (h1 : c → A) (h2 : ¬ c → B) : if c then A else B := by
  by_cases h : c
  · rw [if_pos h]
    exact h1 h
  · rw [if_neg h]
    exact h2 h
theorem iteNS {c A B : Prop} [Decidable c] (hc : c) (h : B) : if (!decide c) = true then A else B := by
  rw [decide_eq_true hc]
  exact iteF h

/-! ### heaps -/
def Same (H H' : Hp) : Prop := ∀ b o, H b = some o → H' b = some o
theorem Same.refl (H : Hp) : Same H H := fun _ _ h => h
theorem Same.trans {H H1 H2 : Hp} (a : Same H H1) (b : Same H1 H2) : Same H H2 := fun c o h => b c o (a c o h)
theorem Same.free {H H' : Hp} (e : Same H H') {l : Addr} (h : H' l = Option.none) : H l = Option.none := by
  cases q : H l with
  | none => rfl
  | some o =>
    rw [e l o q] at h
    cases h
theorem Same.seq {K : PySem.W.Frag} {H H' : Hp} {a : Addr} {xs : List V} (e : Same H H') (h : SqL K H a xs) : SqL K H' a xs := by
  rcases h with (h | ⟨o, h⟩) | h
  · exact .inl (.inl (e _ _ h))
  · exact .inl (.inr ⟨o, e _ _ h⟩)
  · exact .inr h

end L2

set_option Elab.async false
set_option linter.all false
set_option maxRecDepth 100000
set_option maxHeartbeats 4000000
namespace L2
open PySem PySem.Spec PySem.Calls PyProof.Rows

/-! ### own rules beyond the layer: records that turn; a thing tracked from now on -/
section
variable {X : Cx} {pins : List (Addr × Obj)} {σ : St} {H : Hp} {s : Shared} {h' : Heap}
theorem Inv.turns {t' : Nat} {ch : List Addr} (I : Inv X pins σ H s) (k : ∀ b o, b ∉ ch → s.heap.get? b = some o → h'.get? b = some o) (hf : ∀ b ∈ ch, FpOk X pins H b) :
    Inv X pins σ H { s with heap := h', toks := t' } := by
  have nit : ∀ b u, H b = some u → b ∉ ch := fun b u e z => by rw [(hf b z).1] at e; cases e
  refine I.step (g' := s.gens) (d' := s.drawn) (ch := ch) (fun b hb => ?_) (fun b o _ _ hc e _ => k b o hc e) (fun b o _ _ hc e _ => ⟨o.slots, k b o hc e⟩) (fun _ _ _ _ n => n)
    (fun b o hc e => ⟨o, k b o hc e⟩) (fun _ _ e => e) (fun _ _ _ e => e) (fun b ps e => ⟨#[], by rw [e]; simp⟩) (fun m hm => ?_) (fun b u e => ?_) I.bare
  · obtain ⟨_, f1, _, f3, f4, f5⟩ := hf b hb
    exact ⟨f3, f1, f4, f5⟩
  · obtain ⟨o, es, ep, ho, r⟩ := hm
    exact ⟨o, es, ep, k _ o (fun z => (hf _ z).2.1 rfl) ho, r⟩
  · refine (I.hok b u e).stay (fun c v hc q => k c v ?_ q) (fun _ q => q) fun _ _ q => q
    rcases hc with z | z
    · rw [z]; exact nit b u e
    · exact nit c _ z
theorem HOk.track {P : Program} {w : World} {h : Heap} {a : Addr} {o : HO} (x : HOk P w H h) (hn : H a = none) (new : ObjOk P w (upd H a o) h a o) : HOk P w (upd H a o) h := fun b u e => by
  by_cases hb : b = a
  · subst hb; rw [upd_same] at e; cases e; exact new
  · rw [upd_ne hb] at e
    exact (x b u e).stay (fun c v _ q => q) (fun c q => by rw [upd_ne (ne_of_none q hn)]; exact q) fun c xs q => by rw [upd_ne (ne_of_none q hn)]; exact q
theorem Inv.track {a : Addr} {o : HO} (I : Inv X pins σ H s) (f : FpOk X pins H a) (new : ObjOk X.prog X.w (upd H a o) s.heap a o) : Inv X pins σ (upd H a o) s := by
  obtain ⟨f0, f1, _, f3, f4, f5⟩ := f
  have r := I.step (h' := s.heap) (H' := upd H a o) (g' := s.gens) (d' := s.drawn) (t' := s.toks) (ch := [a]) (fun b hb => by
      obtain rfl : b = a := by simpa using hb
      exact ⟨f3, f1, f4, f5⟩) (fun b ob _ _ _ e _ => e) (fun b ob _ _ _ e _ => ⟨ob.slots, e⟩) (fun b ob hc _ n => by rw [upd_ne (fun z => hc (by simp [z]))]; exact n)
    (fun b ob _ e => ⟨ob, e⟩) (fun b xs e => by rw [upd_ne (ne_of_none e f0)]; exact e) (fun b ob u e => by rw [upd_ne (ne_of_none e f0)]; exact e) (fun b ps e => ⟨#[], by rw [upd_ne (ne_of_none e f0), e]; simp⟩)
    (fun m hm => hm) (I.hok.track f0 new) I.bare
  exact r
end

/-! ### a comprehension of one clause, without a test -/
def compCx (X : Cx) (scope : Scope) (cl : List (Str × Addr)) (N' : List Str) (C : Addr) (fp : List Addr) (pins : List (Addr × Obj)) (s : Shared) (H : Hp) : Cx :=
  { X with N := N', s₀ := s, H₀ := H, env := compEnvC scope cl C X.env, outer := X.stack, ex := fp, fn := fun _ => false, pn := X.pn ++ pins, xe := fun _ _ => False }
def cst (k : Nat) (idx : List Nat) (σ : St) : St := List.replicate k none ++ idx.map fun i => (σ[i]?).join

structure CompScope (X : Cx) (scope : Scope) (cl : List (Str × Addr)) (own fr : List Str) (idx : List Nat) : Prop where
  kind : scope.kind = .function
  nocell : ∀ y ∈ scope.names, y.2 ≠ .cell
  names : ∀ y ∈ scope.names, y.2 = .local → scope.names.lookup y.1 = some .local
  clos : closureFor scope X.env = pure cl
  sub : ∀ x c, cl.lookup x = some c → X.env.cells.lookup x = some c
  has : ∀ x, ((relabel scope X.env).names.lookup x = some .cell ∨ (relabel scope X.env).names.lookup x = some .free) → ∃ c, cl.lookup x = some c
  at' : ∀ (j : Nat) (x : Str), fr[j]? = some x → ∃ i, idx[j]? = some i ∧ X.N[i]? = some x ∧ (X.env.kindOf x = some .cell ∨ X.env.kindOf x = some .free) ∧
    ((relabel scope X.env).names.lookup x = some .cell ∨ (relabel scope X.env).names.lookup x = some .free)
  len : idx.length = fr.length

theorem CompScope.none {X : Cx} {scope : Scope} (own : List Str) (kind : scope.kind = .function := by rfl) (nocell : ∀ y ∈ scope.names, y.2 ≠ .cell := by decide +kernel)
    (names : ∀ y ∈ scope.names, y.2 = .local → scope.names.lookup y.1 = some .local := by decide +kernel) (nofree : ∀ y ∈ scope.names, y.2 ≠ .free := by decide +kernel) : CompScope X scope [] own [] [] where
  kind := kind
  nocell := nocell
  names := names
  clos := closureFor_none nofree
  sub := fun x c e => by cases e
  has := fun x hx => by
    exfalso
    have go : ∀ k : NameKind, (k = .cell ∨ k = .free) → (x, k) ∈ (relabel scope X.env).names → False := fun k hk hm => by
      obtain ⟨⟨n, k'⟩, hm', e⟩ := List.mem_map.mp (show (x, k) ∈ scope.names.map _ from hm)
      have h1 : k' ≠ .free := nofree _ hm'
      have h2 : k' ≠ .cell := nocell _ hm'
      have h3 : (k' == NameKind.free) = false := by simpa using h1
      dsimp only at e
      rw [h3] at e
      simp only [Bool.false_and, Bool.false_eq_true, if_false] at e
      cases e
      rcases hk with z | z
      · exact h2 z
      · exact h1 z
    rcases hx with hx | hx
    · exact go _ (.inl rfl) (PySem.mem_of_lookup hx)
    · exact go _ (.inr rfl) (PySem.mem_of_lookup hx)
  at' := fun j x h => by simp at h
  len := rfl
theorem CompScope.one {X : Cx} {scope : Scope} (own : List Str) (x : Str) (i : Nat) (kind : scope.kind = .function := by rfl) (nocell : ∀ y ∈ scope.names, y.2 ≠ .cell := by decide +kernel)
    (names : ∀ y ∈ scope.names, y.2 = .local → scope.names.lookup y.1 = some .local := by decide +kernel) (clos : closureFor scope X.env = pure X.env.cells := by rfl)
    (hasB : ((relabel scope X.env).names.all fun y => !(y.2 == NameKind.cell || y.2 == NameKind.free) || (X.env.cells.lookup y.1).isSome) = true := by rfl)
    (hi : X.N[i]? = some x := by rfl) (hk : X.env.kindOf x = some .cell := by rfl) (hr : (relabel scope X.env).names.lookup x = some .cell := by rfl) : CompScope X scope X.env.cells own [x] [i] where
  kind := kind
  nocell := nocell
  names := names
  clos := clos
  sub := fun _ _ e => e
  has := fun y hy => by
    have go : ∀ k : NameKind, (k = .cell ∨ k = .free) → (y, k) ∈ (relabel scope X.env).names → ∃ c, X.env.cells.lookup y = some c := fun k hk hm => by
      have z := List.all_eq_true.mp hasB _ hm
      have e : (!(k == NameKind.cell || k == NameKind.free)) = false := by rcases hk with rfl | rfl <;> rfl
      have z' : (!(k == NameKind.cell || k == NameKind.free) || (X.env.cells.lookup y).isSome) = true := z
      rw [e, Bool.false_or] at z'
      exact Option.isSome_iff_exists.mp z'
    rcases hy with h | h
    · exact go _ (.inl rfl) (PySem.mem_of_lookup h)
    · exact go _ (.inr rfl) (PySem.mem_of_lookup h)
  at' := fun j y h => by
    match j, h with
    | 0, h =>
      obtain rfl : x = y := by simpa using h
      exact ⟨i, rfl, hi, .inl hk, .inl hr⟩
    | j + 1, h => simp at h
  len := rfl

section
variable {X : Cx} {scope : Scope} {cl : List (Str × Addr)} {own fr : List Str} {idx : List Nat} {pins : List (Addr × Obj)} {σ : St} {H : Hp} {s : Shared}
theorem cst_own {j : Nat} (h : j < own.length) (v : V) : (cst own.length idx σ)[j]? ≠ some (some v) := fun e => by
  unfold cst at e
  rw [List.getElem?_append_left (by simpa using h), List.getElem?_replicate] at e
  split at e <;> cases e
theorem cst_free {j : Nat} {v : V} (h : own.length ≤ j) (e : (cst own.length idx σ)[j]? = some (some v)) : ∃ i, idx[j - own.length]? = some i ∧ σ[i]? = some (some v) := by
  unfold cst at e
  rw [List.getElem?_append_right (by simpa using h), List.length_replicate, List.getElem?_map] at e
  cases q : idx[j - own.length]? with
  | none => rw [q] at e; cases e
  | some i =>
    rw [q] at e
    refine ⟨i, rfl, ?_⟩
    have e' : (σ[i]?).join = some v := Option.some.inj e
    cases z : σ[i]? with
    | none => rw [z] at e'; cases e'
    | some o => rw [z] at e'; exact congrArg some e'
theorem Inv.comp (CS : CompScope X scope cl own fr idx) (I : Inv X pins σ H s) {fp : List Addr} (hf : ∀ b ∈ fp, FpOk X pins H b) (hlt : ∀ b ∈ fp, b < s.heap.objs.size) {C : Addr} {h₁ : Heap} {t' : Nat} (hC : s.heap.objs.size ≤ C)
    {m₁ : Str → Option Value} (hns : h₁.Ns C m₁) (k : ∀ b o, s.heap.get? b = some o → h₁.get? b = some o) {pl : List (Addr × Obj)} (hp : ∀ p ∈ pl, h₁.get? p.1 = some p.2 ∧ H p.1 = none ∧ p.1 ≠ C ∧ p.1 ∉ frs X.stack ∧ ∀ v, p.2.data ≠ .cell v) :
    Inv (compCx X scope cl (own ++ fr) C fp pins s H) pl (cst own.length idx σ) H { s with heap := h₁, toks := t' } := by
  have nstk : ∀ b, b ≠ X.env.locals → b ∉ X.fs → b ∉ frs X.stack := fun b h1 h2 z => (List.mem_cons.mp (I.stkSub b z)).elim h1 h2
  refine ⟨⟨I.ok.mod, CS.kind, I.ok.glob, I.ok.blt, hC, fun x y c h1 h2 => I.ok.inj x y c (CS.sub x c h1) (CS.sub y c h2), fun x hx => CS.has x hx, fun x c z _ => absurd (show false = true from z) (by decide), I.ok.hd, I.ok.frames, .inl rfl,
    fun b hb => ⟨Nat.ne_of_lt (Nat.lt_of_lt_of_le (hlt b hb) hC), fun x c e => (hf b hb).2.2.2.2.1 x c (CS.sub x c e)⟩, I.bs, Nat.le_trans I.ok.bsz I.sz, fun b o e hb => ?_, fun b hb => nstk b (hf b hb).2.1 (hf b hb).2.2.1, I.stack, I.stkFree⟩,
    rfl, I.bare, Un.kept k, ⟨m₁, hns, fun i x v e1 e2 e3 => ?_⟩, fun x c e => ?_, I.hok.fresh hC, fun x c e => I.freeC x c (CS.sub x c e), fun p hpp => ?_, I.hok.kept k, ?_⟩
  · rcases (hf b hb).2.2.2.1 with z | z
    · exact I.ok.noex b o e z
    · exact absurd (Nat.lt_of_lt_of_le (Heap.lt_size (I.ok.bs b o e).1) z) (Nat.lt_irrefl _)
  · by_cases hi : i < own.length
    · exact absurd e2 (cst_own hi v)
    · have hi' : own.length ≤ i := Nat.le_of_not_lt hi
      obtain ⟨i', hx', hσ⟩ := cst_free hi' e2
      have e1' : fr[i - own.length]? = some x := by
        have e1'' : (own ++ fr)[i]? = some x := e1
        rw [List.getElem?_append_right hi'] at e1''
        exact e1''
      obtain ⟨i'', hi2, hN, hk, hr⟩ := CS.at' _ x e1'
      rw [hx'] at hi2
      cases hi2
      obtain ⟨m, hn, hl⟩ := I.loc
      obtain ⟨u, r, l⟩ := hl i' x v hN hσ (.inr hk)
      refine ⟨u, r, ?_⟩
      rcases l with ⟨kl, _⟩ | ⟨_, c, hc, o, ho, hd⟩
      · exfalso
        rcases hk with z | z <;> (rw [kl] at z; cases z)
      · obtain ⟨c', hc'⟩ := CS.has x hr
        have e := CS.sub x c' hc'
        rw [hc] at e
        cases e
        exact .inr ⟨hr, c, hc', o, k _ _ ho, hd⟩
  · obtain ⟨v, o, ho, hd⟩ := I.cell x c (CS.sub x c e)
    exact ⟨v, o, k _ _ ho, hd⟩
  · rcases List.mem_append.mp (show p ∈ (X.pn ++ pins) ++ pl from hpp) with z | z
    · obtain ⟨e, n, ne, nf, d⟩ := I.pin p z
      exact ⟨k _ _ e, n, Nat.ne_of_lt (Nat.lt_of_lt_of_le (Heap.lt_size e) hC), nstk _ ne nf, d⟩
    · exact hp p z
  · show (cst own.length idx σ).length = (own ++ fr).length
    unfold cst
    rw [List.length_append, List.length_replicate, List.length_map, List.length_append, CS.len]
end

section
variable {prog : Program} {w : World} {A : Around} {R : Result → Shared → Prop} {s : Shared}
theorem comp_loop {el tgt itr : Expr} {sc : Scope} {ps : Pos} {itv ac : Value} {ev : Env} (Iv : Nat → Shared → Prop)
    (turn : ∀ k z, Iv k z → wpAny (model prog w) A (pyNext itv) (fun r z1 => match r with
      | none => R (.ok .next) z1
      | some v => wpAny (model prog w) A (letOwnedTupleGo tgt itv v) (fun _ z2 => wpAny (model prog w) A (assign tgt ev v) (fun _ z3 => wpAny (model prog w) A (eval el ev) (fun x z4 =>
          wpAny (model prog w) A (call (.builtin "list.append") [ac, x]) (fun _ z5 => ∃ m, m < k ∧ Iv m z5) (fun _ _ => False) z4) (fun _ _ => False) z3) (fun _ _ => False) z2) (fun _ _ => False) z1) (fun _ _ => False) z)
    (n : Nat) (h : Iv n s) : codeAny (model prog w) A (.compLoop (.ListComp el [⟨tgt, itr, [], 0⟩] sc ps) 0 itv ac ev) R s := by
  refine codeAny_loop rfl Iv (fun k z hI => ?_) n h
  show wpAny _ A ((compTurn (.ListComp el [⟨tgt, itr, [], 0⟩] sc ps) 0 itv ac ev).onRaise (fun x => do noteFrame x ev; theTreesLotGoes x)) _ _ z
  refine wpAny_noted ?_
  rw [compTurn_list1]
  refine wpAny_bind (wpAny_standAt (wpAny_bind (wpAny_mono (turn k z hI) (fun r z1 h1 => ?_) fun _ _ q => q.elim)))
  cases r with
  | none => exact wpAny_pure h1
  | some v =>
    refine wpAny_bind (wpAny_mono h1 (fun _ z2 h2 => ?_) fun _ _ q => q.elim)
    refine wpAny_bind (wpAny_mono h2 (fun _ z3 h3 => ?_) fun _ _ q => q.elim)
    refine wpAny_bind (wpAny_bind (wpAny_mono h3 (fun x z4 h4 => ?_) fun _ _ q => q.elim))
    exact wpAny_bind (wpAny_mono h4 (fun _ z5 h5 => wpAny_pure (wpAny_pure ⟨rfl, h5⟩)) fun _ _ q => q.elim)
end

section
variable {X : Cx} {scope : Scope} {cl : List (Str × Addr)} {own fr : List Str} {idx : List Nat} {elt tg iter : Expr} {pos : Pos} {g : TG} {te : TE} {wi : TI}
abbrev lobj (its : List Value) (c : Nat) : Obj := { cls := .type "list", data := .seq its.toArray c }
theorem comp_core {E : Value → Shared → Prop} {pins : List (Addr × Obj)} {σ : St} {H2 : Hp} {s2 : Shared} {it : Addr} {fp : List Addr} {tn : Nat → Heap → Prop} {J : It}
    (CS : CompScope X scope cl own fr idx) (hc : X.calm = true) (hg : ∀ C fp pins s H, PG (compCx X scope cl (own ++ fr) C fp pins s H) tg g) (he : ∀ C fp pins s H, PE (compCx X scope cl (own ++ fr) C fp pins s H) elt te)
    (I2 : Inv X pins σ H2 s2) (T : Turn X.prog X.w X.K tg J fp it tn) (st : tn 0 s2.heap) (f2 : ∀ b ∈ fp, FpOk X pins H2 b)
    {W : Nat → List V → Hp → Prop} {n : Nat} {Fin : List V → Hp → Prop} (hn : n ≤ sizeLine) (w0 : W 0 [] H2)
    (turn : ∀ i ys H, W i ys H → (J.stop i H ∧ Fin ys H) ∨ (J.go i H ∧ i < n ∧ ∀ x H', J.yld i H x H' → g x (cst own.length idx σ) H' fun σ' H'' =>
      (σ'.drop own.length = (cst own.length idx σ).drop own.length ∧ σ'.length = (cst own.length idx σ).length) ∧ te σ' H'' fun y H3 => W (i + 1) (ys ++ [y]) H3))
    {RR : Value → Addr → Result → Shared → Prop}
    (hRR : ∀ D C s' m' ys H', Inv X pins σ (upd H' D (.lst ys)) s' → s'.heap.Ns C m' → FpOk X pins (upd H' D (.lst ys)) C → H' D = none → Fin ys H' → RR (.ref D) C (.ok .next) s') :
    wpAny (model X.prog X.w) X.A (newList []) (fun acc s3 => wpAny (model X.prog X.w) X.A (newFunctionEnv scope X.env.globals cl [] X.env.qual none .none (some X.env)) (fun cenv s4 =>
      codeAny (model X.prog X.w) X.A (.compStart (.ListComp elt [⟨tg, iter, [], 0⟩] scope pos) 0 (.ref it) acc { cenv with scope := relabel scope X.env }) (RR acc cenv.locals) s4) E s3) E s2 := by
  have hob := T.obj 0 _ st
  have hlt : ∀ b ∈ fp, b < s2.heap.objs.size := fun b hb => by obtain ⟨o, e, _⟩ := hob b hb; exact Heap.lt_size e
  refine wpAny_newObj_type (wpAny_newFunctionEnv CS.nocell (by intro y hy; simp at hy) (fun h₁ hns₁ hsb₁ => ?_) CS.kind)
  dsimp only at hns₁ hsb₁ ⊢
  generalize hH : s2.heap.push { cls := .type "list", dict := none, data := .seq ([] : List Value).toArray } = hp at hns₁ hsb₁ ⊢
  have hCs : hp.objs.size = s2.heap.objs.size + 1 := by rw [← hH, Heap.size_push]
  have hDC : s2.heap.objs.size ≠ hp.objs.size := by omega
  have hCge : s2.heap.objs.size ≤ hp.objs.size := by omega
  have old : ∀ b o, s2.heap.get? b = some o → h₁.get? b = some o := fun b o e => by
    have hb := Heap.lt_size e
    exact hsb₁.extBut b o (Nat.ne_of_lt (Nat.lt_of_lt_of_le hb hCge)) (Heap.get?_push_of_some _ (hH ▸ Heap.get?_push_of_some _ e))
  have hacc : h₁.get? s2.heap.objs.size = some (lobj [] 0) := hsb₁.extBut _ _ hDC (Heap.get?_push_of_some _ (hH ▸ Heap.get?_push_size _ rfl))
  have hst₁ : tn 0 h₁ := T.keep _ _ _ st fun b _ o e => old b o e
  have hDfs : s2.heap.objs.size ∉ frs X.stack := fun z => by
    rcases List.mem_cons.mp (I2.stkSub _ z) with e | e
    · exact absurd I2.lt (by rw [← e]; exact Nat.lt_irrefl _)
    · exact I2.nofs (Nat.le_refl _) e
  have cellNe : ∀ x c, cl.lookup x = some c → c ≠ s2.heap.objs.size := fun x c e z => by
    obtain ⟨v, o, ho, hd⟩ := I2.cell x c (CS.sub x c e)
    exact absurd (Heap.lt_size ho) (by rw [z]; exact Nat.lt_irrefl _)
  have key : ∀ s3 : Shared, s3 = { s2 with heap := h₁, toks := s2.toks + ([] : List (Str × Value)).length } →
      codeAny (model X.prog X.w) X.A (.compLoop (.ListComp elt [⟨tg, iter, [], 0⟩] scope pos) 0 (.ref it) (.ref s2.heap.objs.size) (compEnvC scope cl hp.objs.size X.env)) (RR (.ref s2.heap.objs.size) hp.objs.size) s3 := by
    rintro s3 rfl
    have I0 : Inv (compCx X scope cl (own ++ fr) hp.objs.size fp pins s2 H2) [(s2.heap.objs.size, lobj [] 0)] (cst own.length idx σ) H2 { s2 with heap := h₁, toks := s2.toks + ([] : List (Str × Value)).length } :=
      Inv.comp CS I2 f2 hlt hCge hns₁ old fun p hp' => by
        obtain rfl := List.mem_singleton.mp hp'
        exact ⟨hacc, I2.hok.fresh (Nat.le_refl _), hDC, hDfs, fun v z => by cases z⟩
    refine comp_loop (fun k s' => ∃ i ys its c H', k = n + 1 - i ∧ ys.length = i ∧ i ≤ n ∧ Vals ys its ∧ Inv (compCx X scope cl (own ++ fr) hp.objs.size fp pins s2 H2) [(s2.heap.objs.size, lobj its c)] (cst own.length idx σ) H' s' ∧
      tn i s'.heap ∧ (∀ b ∈ fp, H' b = none) ∧ W i ys H') ?_ (n + 1) ⟨0, [], [], 0, H2, rfl, rfl, Nat.zero_le _, .nil, I0, hst₁, fun b hb => (f2 b hb).1, w0⟩
    rintro k s' ⟨i, ys, its, c, H', rfl, hyl, hin, rv, I', st', fr', w'⟩
    -- the iterator's own records, within the block
    have fpc : ∀ {Hx : Hp} {itx : List Value} {cx : Nat}, (∀ b ∈ fp, Hx b = none) → ∀ b ∈ fp, FpOk (compCx X scope cl (own ++ fr) hp.objs.size fp pins s2 H2) [(s2.heap.objs.size, lobj itx cx)] Hx b := fun {Hx itx cx} hx b hb => by
      obtain ⟨f0, f1, f3, f4, f5, f6⟩ := f2 b hb
      refine ⟨hx b hb, ?_, fun z => (List.mem_cons.mp (I2.stkSub b z)).elim f1 f3, .inl hb, fun x c' e => f5 x c' (CS.sub x c' e), fun p hpp => ?_⟩
      · exact Nat.ne_of_lt (Nat.lt_of_lt_of_le (hlt b hb) hCge)
      · rcases List.mem_append.mp (show p ∈ (X.pn ++ pins) ++ [(s2.heap.objs.size, lobj itx cx)] from hpp) with z | z
        · exact f6 p z
        · obtain rfl := List.mem_singleton.mp z
          exact Nat.ne_of_gt (hlt b hb)
    rcases turn i ys H' w' with ⟨stop, fin⟩ | ⟨go, hilt, step⟩
    · refine thn (T.done (compCx X scope cl (own ++ fr) hp.objs.size fp pins s2 H2) rfl rfl rfl hc i _ s' _ H' (fun _ _ => False) I' (fpc fr') st' stop) fun r s1 ⟨hr, I1⟩ => ?_
      subst hr
      obtain ⟨eD, nD, _, _, _⟩ := I1.pin (s2.heap.objs.size, lobj its c) (List.mem_append_right _ (List.mem_singleton.mpr rfl))
      have un : Un (frs X.stack) fp H2 H' s2.heap s1.heap := I1.base
      have Ix : Inv X pins σ H' s1 := I2.call' I1.os un I1.hok I1.bare fun b hb => ⟨(f2 b hb).2.2.2.1, (f2 b hb).2.1, (f2 b hb).2.2.2.2.1, (f2 b hb).2.2.2.2.2⟩
      obtain ⟨m, hnm, _⟩ := I1.loc
      refine hRR s2.heap.objs.size hp.objs.size s1 m ys H' (Ix.track (I2.fpOk (Nat.le_refl _) nD) ⟨by rw [hyl]; exact Nat.le_trans hin hn, its, c, rv, eD⟩) hnm (I2.fpOk hCge ?_) nD fin
      rw [upd_ne (Ne.symm hDC)]
      exact I1.free
    · refine thn (T.item (compCx X scope cl (own ++ fr) hp.objs.size fp pins s2 H2) rfl rfl rfl hc i _ s' _ H' (fun _ _ => False) I' (fpc fr') st' go) fun r s1 ⟨u, hr, h1⟩ => ?_
      subst hr
      refine thn h1 fun _ s3 ⟨x, H3, I3, rx, yl, st3, fr3⟩ => ?_
      have I3' := I3.pinned (fpc fr3) (T.obj _ _ st3)
      refine thn (hg hp.objs.size fp pins s2 H2 _ s3 _ H3 x u _ I3' rx (step x H3 yl)) fun _ s4 ⟨σ4, H4, I4, ⟨q4, q4'⟩, q4''⟩ => ?_
      refine thn (he hp.objs.size fp pins s2 H2 _ s4 σ4 H4 _ I4 q4'') fun y s5 ⟨yv, H5, I5, ry, q5⟩ => ?_
      obtain ⟨eD, nD, neD, nfD, dD⟩ := I5.pin (s2.heap.objs.size, lobj its c) (List.mem_append_right _ (List.mem_append_left _ (List.mem_singleton.mpr rfl)))
      have hil : its.length = i := by rw [← rv.length]; exact hyl
      refine append_at (hsz := by rw [List.size_toArray, hil]; exact Nat.le_trans hin hn) eD fun h6 sb e6 => ?_
      have pinF : ∀ b ∈ fp, ∀ o, s3.heap.get? b = some o → s5.heap.get? b = some o ∧ H5 b = none := fun b hb o e => by
        have z := I5.pin (b, o) (List.mem_append_right _ (List.mem_append_right _ (mem_pinsAt hb e)))
        exact ⟨z.1, z.2.1⟩
      have I5a : Inv (compCx X scope cl (own ++ fr) hp.objs.size fp pins s2 H2) [] σ4 H5 s5 := I5.pins_of fun p hp' => nomatch hp'
      have I6 : Inv (compCx X scope cl (own ++ fr) hp.objs.size fp pins s2 H2) [] σ4 H5 { s5 with heap := h6 } := by
        refine I5a.turned (t' := s5.toks) (it := s2.heap.objs.size) (fun b o hb e => (sb.2 b hb).trans e) nD neD (.inr (Nat.le_refl _)) (fun x c' e => cellNe x c' e) fun p hpp => ?_
        rcases List.mem_append.mp (show p ∈ (X.pn ++ pins) ++ [] from hpp) with z | z
        · exact Nat.ne_of_lt (Heap.lt_size (I2.pin p z).1)
        · cases z
      have I7 : Inv (compCx X scope cl (own ++ fr) hp.objs.size fp pins s2 H2) [(s2.heap.objs.size, lobj (its ++ [y]) (c + 1))] σ4 H5 { s5 with heap := h6 } := I6.pins_of fun p hp' => by
        obtain rfl := List.mem_singleton.mp hp'
        refine ⟨?_, nD, neD, nfD, fun v z => by cases z⟩
        show h6.get? s2.heap.objs.size = some (lobj (its ++ [y]) (c + 1))
        rw [e6, List.push_toArray]
      have I8 := I7.weak (σ' := cst own.length idx σ) q4'.symm fun j v hj => by
        by_cases hjo : j < own.length
        · exact absurd hj (cst_own hjo v)
        · have z : (σ4.drop own.length)[j - own.length]? = ((cst own.length idx σ).drop own.length)[j - own.length]? := by rw [q4]
          rw [List.getElem?_drop, List.getElem?_drop, show own.length + (j - own.length) = j by omega] at z
          rw [z]; exact hj
      refine ⟨n + 1 - (i + 1), by omega, i + 1, ys ++ [yv], its ++ [y], c + 1, H5, rfl, by rw [List.length_append, hyl]; rfl, hilt, rv.append (.cons ry .nil), I8, ?_, fun b hb => ?_, q5⟩
      · refine T.keep _ _ _ st3 fun b hb o e => ?_
        have z := (pinF b hb o e).1
        exact (sb.2 b (Nat.ne_of_lt (hlt b hb))).trans z
      · obtain ⟨o, e, _⟩ := T.obj _ _ st3 b hb
        exact (pinF b hb o e).2
  exact codeAny_compStart_list (key _ rfl) (T.self _ 0 _ _ _ hst₁ (key _ rfl))

def tComp (wi : TI) (g : TG) (te : TE) (k : Nat) (idx : List Nat) : TE := fun σ H Q => wi σ H fun J H1 => ∃ (W : Nat → List V → Hp → Prop) (n : Nat), n ≤ sizeLine ∧ W 0 [] H1 ∧ ∀ i ys H, W i ys H →
  (J.stop i H ∧ ∀ D, H D = none → Q (.ref D) (upd H D (.lst ys))) ∨ (J.go i H ∧ i < n ∧ ∀ x H', J.yld i H x H' → g x (cst k idx σ) H' fun σ' H'' =>
    (σ'.drop k = (cst k idx σ).drop k ∧ σ'.length = (cst k idx σ).length) ∧ te σ' H'' fun y H3 => W (i + 1) (ys ++ [y]) H3)
theorem pe_comp (hc : X.calm = true) (CS : CompScope X scope cl own fr idx) (hi : PI X tg iter wi) (hg : ∀ C fp pins s H, PG (compCx X scope cl (own ++ fr) C fp pins s H) tg g) (he : ∀ C fp pins s H, PE (compCx X scope cl (own ++ fr) C fp pins s H) elt te)
    (hs : ∀ x, foldedSetIterable iter X.env x = pure x := by intro _; rfl) : PE X (.ListComp elt [⟨tg, iter, [], 0⟩] scope pos) (tComp wi g te own.length idx) := by
  intro pins s σ H Q I h
  rw [eval_ListComp]
  refine wpAny_comprehension_free (use := none) rfl hs CS.clos CS.kind CS.names (thn (hi pins s σ H _ I h) fun v s1 h1 => thn h1 fun itv s2 h2 => ?_)
  obtain ⟨it, fp, tn, J, H2, e, I2, T, st, f2, W, n, hn, w0, turn⟩ := h2
  subst e
  refine comp_core (RR := fun acc C => compPost (model X.prog X.w) X.A X.xe none (EP X pins σ Q) acc C) CS hc hg he I2 T st f2 hn w0 turn fun D C s' m' ys H' I' hns fC nD fin => ?_
  refine ⟨m', hns, fun h'' sb => ⟨.ref D, _, ?_, rfl, fin D nD⟩⟩
  obtain ⟨f0, f1, _, f3, f4, f5⟩ := fC
  exact I'.turned (t' := s'.toks) (fun b o hb e => (sb.2 b hb).trans e) f0 f1 f3 f4 f5
theorem ps_comp {i : Nat} {y : Str} {py spos : Pos} (hc : X.calm = true) (hN : X.N.Nodup) (hiN : X.N[i]? = some y) (hy : X.env.kindOf y = some .local) (CS : CompScope X scope cl own fr idx) (hi : PI X tg iter wi)
    (hg : ∀ C fp pins s H, PG (compCx X scope cl (own ++ fr) C fp pins s H) tg g) (he : ∀ C fp pins s H, PE (compCx X scope cl (own ++ fr) C fp pins s H) elt te)
    (hsw : swapsWith (.ListComp elt [⟨tg, iter, [], 0⟩] scope pos) (some (.Name y py)) spos.line X.env = pure true := by rfl)
    (hs : ∀ x, foldedSetIterable iter X.env x = pure x := by intro _; rfl) : PS X (.Assign [.Name y py] (.ListComp elt [⟨tg, iter, [], 0⟩] scope pos) spos) (tAsg (tComp wi g te own.length idx) (gName i)) := by
  intro pins s σ H Dn I h
  rw [exec_Assign_Name_used _ _ _ _ hsw]
  refine wpAny_bind (wpAny_standAt (wpAny_bind ?_))
  show wpAny _ X.A (do let _ ← comprehension (.ListComp elt [⟨tg, iter, [], 0⟩] scope pos) scope X.env _ (newList []) false (eval iter X.env) (some (assign (.Name y py) X.env))) _ _ s
  refine wpAny_bind (wpAny_mono (wpAny_comprehension_free (use := some (assign (.Name y py) X.env)) (Q := fun _ s' => SP X pins Dn .next s') rfl hs CS.clos CS.kind CS.names
    (thn (hi pins s σ H _ I h) fun v s1 h1 => thn h1 fun itv s2 h2 => ?_)) (fun _ s' hq => wpAny_pure (wpAny_pure hq)) fun _ _ e => e)
  obtain ⟨it, fp, tn, J, H2, e, I2, T, st, f2, W, n, hn, w0, turn⟩ := h2
  subst e
  refine comp_core (RR := fun acc C => compPost (model X.prog X.w) X.A X.xe (some (assign (.Name y py) X.env)) (fun _ s' => SP X pins Dn .next s') acc C) CS hc hg he I2 T st f2 hn w0 turn fun D C s' m' ys H' I' hns fC nD fin => ?_
  obtain ⟨oC, es, ep, hoC, hdC, rC⟩ := id hns
  have Ip : Inv X (pins ++ [(C, oC)]) σ (upd H' D (.lst ys)) s' := I'.pins_of fun p hp => (List.mem_append.mp hp).elim (fun z => I'.pin p (List.mem_append_right _ z)) fun z => by
    obtain rfl := List.mem_singleton.mp z
    exact ⟨hoC, fC.1, fC.2.1, fC.2.2.1, fun v q => by rw [hdC] at q; cases q⟩
  show wpAny _ X.A (assign (.Name y py) X.env (.ref D)) _ _ _
  refine wpAny_assign_Name (store_ok (v := .ref D) Ip hN hiN (.inl hy) rfl (fun s2' I3 => ?_) (.inr hy))
  have eC := (I3.pin (C, oC) (List.mem_append_right _ (List.mem_append_right _ (List.mem_singleton.mpr rfl)))).1
  refine ⟨m', ⟨oC, es, ep, eC, hdC, rC⟩, fun h'' sb => ⟨_, _, ?_, fin D nD⟩⟩
  obtain ⟨f0, f1, _, f3, f4, f5⟩ := fC
  exact I3.unpinned.turned (t' := s2'.toks) (fun b o hb e => (sb.2 b hb).trans e) f0 f1 f3 f4 f5
end
end L2

set_option Elab.async false
set_option linter.all false
set_option maxRecDepth 100000
set_option maxHeartbeats 4000000
namespace L2
open PySem PySem.Spec PySem.Calls PyProof.Rows

theorem ne_cls {h : Heap} {a b : Addr} {o o' : Obj} (e : h.get? a = some o) (e' : h.get? b = some o') (d : o.cls ≠ o'.cls) : a ≠ b := fun z => by
  subst z; rw [e] at e'; cases e'; exact d rfl
theorem list_ne {h : Heap} {a b : Addr} {its : Array Value} {o' : Obj} (e : h.IsList a its) (e' : h.get? b = some o') (d : o'.cls ≠ .type "list") : a ≠ b := by
  obtain ⟨o, ho, hc, _⟩ := e
  exact ne_cls ho e' (by rw [hc]; exact fun z => d z.symm)

theorem vt_ne {a b : String} (h : a ≠ b) : Value.type a ≠ Value.type b := fun z => h (by injection z)
/-! ### zip of two lists, unpacked -/
def Itz (K : PySem.W.Frag) (a b : Addr) : It :=
  ⟨fun i H => ∃ xs ys x y, SqL K H a xs ∧ SqL K H b ys ∧ xs[i]? = some x ∧ ys[i]? = some y,
   fun i H v H' => ∃ p x y, H p = none ∧ v = .ref p ∧ H' = upd H p (.tup [x, y]) ∧ (∀ xs, SqL K H a xs → xs[i]? = some x) ∧ ∀ ys, SqL K H b ys → ys[i]? = some y,
   fun i H => ∃ xs ys, SqL K H a xs ∧ SqL K H b ys ∧ (xs.length ≤ i ∨ ys.length ≤ i)⟩
theorem turn_zip {P : Program} {w : World} {K : PySem.W.Frag} {elts : List Expr} {kk : Nat} {tp : Pos} (a b z TI TO i1 i2 : Addr) (n1 : TI ≠ z) (n2 : TO ≠ z) (n3 : i1 ≠ z) (n4 : i2 ≠ z) (n5 : TI ≠ TO) (n6 : TI ≠ i1) (n7 : TI ≠ i2) (n8 : TO ≠ i1) (n9 : TO ≠ i2) (n10 : i1 ≠ i2) :
    Turn P w K (.Tuple elts kk tp) (Itz K a b) [z, TI, TO, i1, i2] z (fun i h => IsZip h z TI TO .none ∧ IsPair h TI (.ref i1) (.ref i2) ∧ (∃ u v, IsPair h TO u v) ∧ h.IsListIter i1 a i ∧ h.IsListIter i2 b i) := by
  have apart : ∀ {h : Heap} {its1 its2 : Array Value} {i : Nat} {u v f0 : Value}, IsZip h z TI TO f0 → IsPair h TO u v → h.IsListIter i1 a i → h.IsListIter i2 b i → h.IsList a its1 → h.IsList b its2 → ZipApart z TI TO i1 i2 a b := fun {h its1 its2 i u v f0} hz hTO h1 h2 l1 l2 => by
    obtain ⟨o1, e1, c1, _⟩ := h1
    obtain ⟨o2, e2, c2, _⟩ := h2
    exact ⟨n1, n2, n3, n4, n5, n6, n7, n8, n9, n10, list_ne l1 hz (vt_ne (by decide)), list_ne l1 hTO (vt_ne (by decide)), list_ne l1 e1 (by rw [c1]; decide), list_ne l1 e2 (by rw [c2]; decide),
      list_ne l2 hz (vt_ne (by decide)), list_ne l2 hTO (vt_ne (by decide)), list_ne l2 e1 (by rw [c1]; decide), list_ne l2 e2 (by rw [c2]; decide)⟩
  have objs : ∀ i h, (IsZip h z TI TO .none ∧ IsPair h TI (.ref i1) (.ref i2) ∧ (∃ u v, IsPair h TO u v) ∧ h.IsListIter i1 a i ∧ h.IsListIter i2 b i) → ∀ c ∈ [z, TI, TO, i1, i2], ∃ o, h.get? c = some o ∧ ∀ v, o.data ≠ .cell v := by
    rintro i h ⟨hz, hTI, ⟨u, v, hTO⟩, ⟨o1, e1, c1, d1⟩, ⟨o2, e2, c2, d2⟩⟩ c hc
    simp only [List.mem_cons, List.not_mem_nil, or_false] at hc
    rcases hc with rfl | rfl | rfl | rfl | rfl
    · exact ⟨_, hz, fun v q => by cases q⟩
    · exact ⟨_, hTI, fun v q => by cases q⟩
    · exact ⟨_, hTO, fun v q => by cases q⟩
    · exact ⟨_, e1, fun v q => by rw [d1] at q; cases q⟩
    · exact ⟨_, e2, fun v q => by rw [d2] at q; cases q⟩
  refine ⟨by simp, objs, ?_, ?_, ?_, fun A i s Q E st h => wpAny_pyIter_zip st.1 h⟩
  · rintro i h h' ⟨hz, hTI, ⟨u, v, hTO⟩, h1, h2⟩ k
    exact ⟨k z (by simp) _ hz, k TI (by simp) _ hTI, ⟨u, v, k TO (by simp) _ hTO⟩, h1.at fun o e => k i1 (by simp) o e, h2.at fun o e => k i2 (by simp) o e⟩
  · intro X hP hw hK hc i pins s σ H E I hf st hg
    subst hP hw hK
    obtain ⟨xs, ys, x, y, hq1, hq2, hx, hy⟩ := hg
    obtain ⟨its1, rv1, p1, hz1⟩ := I.list hq1
    obtain ⟨its2, rv2, p2, hz2⟩ := I.list hq2
    obtain ⟨u1, hu1, ru1⟩ := rv1.get hx
    obtain ⟨u2, hu2, ru2⟩ := rv2.get hy
    have hlt : ∀ c ∈ [z, TI, TO, i1, i2], c < s.heap.objs.size := fun c hc => by obtain ⟨o, e, _⟩ := objs i _ st c hc; exact Heap.lt_size e
    obtain ⟨sz, sTI, ⟨ta, tb, sTO⟩, s1, s2⟩ := id st
    have W := WalksT.zip2 (prog := X.prog) (w := X.w) (A := X.A) (I.ok.hd hc) z TI TO i1 i2 a b (apart sz sTO s1 s2 p1.isList p2.isList) its1.toArray its2.toArray
    have l1 : i < its1.length := (List.getElem?_eq_some_iff.mp hu1).1
    have l2 : i < its2.length := (List.getElem?_eq_some_iff.mp hu2).1
    refine W.item i s _ _ (by rw [List.size_toArray, List.size_toArray]; omega) ⟨sz, sTI, ⟨ta, tb, sTO⟩, s1, s2, p1.isList, p2.isList⟩ fun T vals h' tk hv hT htup hmid hk => ?_
    obtain ⟨v1, v2, e1, e2, rfl⟩ := hv
    have e1' : v1 = u1 := by
      have q : its1[i]? = some v1 := by simpa using e1
      rw [hu1] at q; exact (Option.some.inj q).symm
    have e2' : v2 = u2 := by
      have q : its2[i]? = some v2 := by simpa using e2
      rw [hu2] at q; exact (Option.some.inj q).symm
    subst e1' e2'
    refine ⟨.ref T, rfl, W.go elts kk tp i T { s with heap := h', toks := tk } _ _ hmid fun h'' hst hk2 => ?_⟩
    have I1 : Inv X pins σ H { s with heap := h'', toks := tk } := I.turns (ch := [z, TO, i1, i2]) (fun c o hb e => hk2 c o hb (hk c o hb e)) fun c hb => hf c (by
      simp only [List.mem_cons, List.not_mem_nil, or_false] at hb ⊢
      rcases hb with q | q | q | q <;> simp [q])
    have hTn : H T = none := I.hok.fresh hT
    have tupT : h''.IsTuple T #[v1, v2] := by
      obtain ⟨o, e, r⟩ := htup
      exact ⟨o, hk2 T o (W.apart i T h' hmid) e, r⟩
    refine ⟨.ref T, upd H T (.tup [x, y]), I1.track (I.fpOk hT hTn) ⟨by show 2 ≤ sizeLine; decide, [v1, v2], .cons ru1 (.cons ru2 .nil), tupT⟩, rfl,
      ⟨T, x, y, hTn, rfl, rfl, fun zs h => by rw [I.list_inj h hq1]; exact hx, fun zs h => by rw [I.list_inj h hq2]; exact hy⟩, ⟨hst.1, hst.2.1, hst.2.2.1, hst.2.2.2.1, hst.2.2.2.2.1⟩, fun c hc' => ?_⟩
    rw [upd_ne (Nat.ne_of_lt (Nat.lt_of_lt_of_le (hlt c hc') hT))]
    exact (hf c hc').1
  · intro X hP hw hK hc i pins s σ H E I hf st hg
    subst hP hw hK
    obtain ⟨xs, ys, hq1, hq2, hend⟩ := hg
    obtain ⟨its1, rv1, p1, hz1⟩ := I.list hq1
    obtain ⟨its2, rv2, p2, hz2⟩ := I.list hq2
    obtain ⟨sz, sTI, ⟨ta, tb, sTO⟩, s1, s2⟩ := id st
    have m1 := rv1.length
    have m2 := rv2.length
    refine wpAny_pyNext_zip_end (I.ok.hd hc) (apart sz sTO s1 s2 p1.isList p2.isList) sz sTI sTO s1 s2 p1.isList p2.isList (hend.imp (fun q => by simp; omega) fun q => by simp; omega) fun h' hk => ⟨rfl, ?_⟩
    refine I.turns (t' := s.toks) (ch := [z, TO, i1, i2]) (fun c o hb e => ?_) fun c hb => hf c (by
      simp only [List.mem_cons, List.not_mem_nil, or_false] at hb ⊢
      rcases hb with q | q | q | q <;> simp [q])
    simp only [List.mem_cons, List.not_mem_nil, or_false, not_or] at hb
    exact hk c o hb.1 hb.2.1 hb.2.2.1 hb.2.2.2 e
section
variable {X : Cx} {elts : List Expr} {kk : Nat} {tp : Pos}
def iZip (K : PySem.W.Frag) (ta : TA) : TI := fun σ H R => ta σ H fun vs H1 => ∃ a b, vs = [.ref a, .ref b] ∧ (∃ xs, SqL K H1 a xs) ∧ (∃ ys, SqL K H1 b ys) ∧ R (Itz K a b) H1
theorem boot_zipT : bootBuiltins "zip" = some (.type "zip") := by decide +kernel
theorem boot_enumT : bootBuiltins "enumerate" = some (.type "enumerate") := by decide +kernel
theorem pi_zip {a b : Expr} {ta : TA} {p pos : Pos} (hg : Gl X "zip") (hm : X.mg "zip" = none) (ha : PA X [a, b] ta) (hs : starEach [a, b] X.env = [(false, eval a X.env), (false, eval b X.env)] := by rfl) (hs2 : starEach [b] X.env = [(false, eval b X.env)] := by rfl) :
    PI X (.Tuple elts kk tp) (.Call (.Name "zip" p) [a, b] [] pos) (iZip X.K ta) := by
  intro pins s σ H R I h
  refine Call_ (ld_blt I hg hm boot_zipT (PyProof.Rows.callWith_type1 (thn (ha pos pins s σ H _ I h) fun us s1 ⟨vs, H1, I1, r1, q1⟩ => ?_) (by rw [hs, hs2]) (by rw [hs2]; rfl)))
  obtain ⟨l1, l2, e, ⟨xs, hq1⟩, ⟨ys, hq2⟩, q⟩ := q1
  subst e
  cases r1 with
  | cons ra rr =>
    cases rr with
    | cons rb rr =>
      cases rr
      cases ra
      cases rb
      obtain ⟨its1, rv1, p1, _⟩ := I1.list hq1
      obtain ⟨its2, rv2, p2, _⟩ := I1.list hq2
      refine call_zip_2 p1.isList p2.isList fun h' hz hTI hTO h1 h2 hsz hk => ?_
      have I2 : Inv X pins σ H1 { s1 with heap := h' } := I1.kept (t' := s1.toks) hk
      refine wpAny_pyIter_zip hz ⟨s1.heap.objs.size + 4, [s1.heap.objs.size + 4, s1.heap.objs.size + 2, s1.heap.objs.size + 3, s1.heap.objs.size, s1.heap.objs.size + 1], _, _, H1, rfl, I2,
        turn_zip l1 l2 _ _ _ _ _ (by show @Ne Nat _ _; omega) (by show @Ne Nat _ _; omega) (by show @Ne Nat _ _; omega) (by show @Ne Nat _ _; omega) (by show @Ne Nat _ _; omega) (by show @Ne Nat _ _; omega) (by show @Ne Nat _ _; omega) (by show @Ne Nat _ _; omega) (by show @Ne Nat _ _; omega) (by show @Ne Nat _ _; omega), ⟨hz, hTI, ⟨_, _, hTO⟩, h1, h2⟩, fun c hc => ?_, q⟩
      have hge : s1.heap.objs.size ≤ c := by
        simp only [List.mem_cons, List.not_mem_nil, or_false] at hc
        rcases hc with q | q | q | q | q <;> (rw [q]; show (_ : Nat) ≤ _; omega)
      exact I1.fpOk hge (I1.hok.fresh hge)
end

/-! ### enumerate of a list, unpacked -/
def Ite (K : PySem.W.Frag) (a : Addr) : It :=
  ⟨fun i H => ∃ xs x, SqL K H a xs ∧ xs[i]? = some x,
   fun i H v H' => ∃ p x, H p = none ∧ v = .ref p ∧ H' = upd H p (.tup [.int i, x]) ∧ ∀ xs, SqL K H a xs → xs[i]? = some x,
   fun i H => ∃ xs, SqL K H a xs ∧ xs.length ≤ i⟩
theorem turn_enum {P : Program} {w : World} {K : PySem.W.Frag} {elts : List Expr} {kk : Nat} {tp : Pos} (a e it : Addr) (hei : e ≠ it) :
    Turn P w K (.Tuple elts kk tp) (Ite K a) [e, it] e (fun i h => (∃ old, IsEnum h e it i old) ∧ h.IsListIter it a i) := by
  have objs : ∀ (i : Nat) (h : Heap), ((∃ old, IsEnum h e it i old) ∧ h.IsListIter it a i) → ∀ c ∈ [e, it], ∃ o, h.get? c = some o ∧ ∀ v, o.data ≠ .cell v := by
    rintro i h ⟨⟨old, he⟩, ⟨o1, e1, c1, d1⟩⟩ c hc
    simp only [List.mem_cons, List.not_mem_nil, or_false] at hc
    rcases hc with rfl | rfl
    · exact ⟨_, he, fun v q => by cases q⟩
    · exact ⟨_, e1, fun v q => by rw [d1] at q; cases q⟩
  refine ⟨by simp, objs, ?_, ?_, ?_, fun A i s Q E st h => by obtain ⟨⟨old, he⟩, _⟩ := st; exact wpAny_pyIter_enum he h⟩
  · rintro i h h' ⟨⟨old, he⟩, h1⟩ k
    exact ⟨⟨old, k e (by simp) _ he⟩, h1.at fun o q => k it (by simp) o q⟩
  · intro X hP hw hK hc i pins s σ H E I hf st hg
    subst hP hw hK
    obtain ⟨xs, x, hq, hx⟩ := hg
    obtain ⟨its, rv, p1, hz⟩ := I.list hq
    obtain ⟨u, hu, ru⟩ := rv.get hx
    have hlt : ∀ c ∈ [e, it], c < s.heap.objs.size := fun c hc => by obtain ⟨o, q, _⟩ := objs i _ st c hc; exact Heap.lt_size q
    obtain ⟨⟨old, he⟩, hit⟩ := id st
    obtain ⟨o1, e1, c1, _⟩ := id hit
    have W := WalksT.enumerate (prog := X.prog) (w := X.w) (A := X.A) (I.ok.hd hc) e it a hei (list_ne p1.isList he (vt_ne (by decide))) (list_ne p1.isList e1 (by rw [c1]; decide)) its.toArray
    have l1 : i < its.length := (List.getElem?_eq_some_iff.mp hu).1
    refine W.item i s _ _ (by rw [List.size_toArray]; exact l1) ⟨⟨old, he⟩, hit, p1.isList⟩ fun T vals h' tk hv hT htup hmid hk => ?_
    obtain ⟨t, v1, q1, rfl⟩ := hv
    have e1' : v1 = u := by
      have q : its[i]? = some v1 := by simpa using q1
      rw [hu] at q; exact (Option.some.inj q).symm
    subst e1'
    refine ⟨.ref T, rfl, W.go elts kk tp i T { s with heap := h', toks := tk } _ _ hmid fun h'' hst hk2 => ?_⟩
    have I1 : Inv X pins σ H { s with heap := h'', toks := tk } := I.turns (ch := [e, it]) (fun c o hb q => hk2 c o hb (hk c o hb q)) hf
    have hTn : H T = none := I.hok.fresh hT
    have tupT : h''.IsTuple T #[.int i t, v1] := by
      obtain ⟨o, q, r⟩ := htup
      exact ⟨o, hk2 T o (W.apart i T h' hmid) q, r⟩
    refine ⟨.ref T, upd H T (.tup [.int i, x]), I1.track (I.fpOk hT hTn) ⟨by show 2 ≤ sizeLine; decide, [.int i t, v1], .cons ⟨t, rfl⟩ (.cons ru .nil), tupT⟩, rfl,
      ⟨T, x, hTn, rfl, rfl, fun zs h => by rw [I.list_inj h hq]; exact hx⟩, ⟨hst.1, hst.2.1⟩, fun c hc' => ?_⟩
    rw [upd_ne (Nat.ne_of_lt (Nat.lt_of_lt_of_le (hlt c hc') hT))]
    exact (hf c hc').1
  · intro X hP hw hK hc i pins s σ H E I hf st hg
    subst hP hw hK
    obtain ⟨xs, hq, hend⟩ := hg
    obtain ⟨its, rv, p1, hz⟩ := I.list hq
    obtain ⟨⟨old, he⟩, hit⟩ := id st
    have m1 := rv.length
    refine wpAny_pyNext_enum_end (I.ok.hd hc) he hit p1.isList (by simp; omega) fun h' hk => ⟨rfl, ?_⟩
    exact I.turns (t' := s.toks) (ch := [e, it]) (fun c o hb q => hk c o (fun z => hb (by simp [z])) q) hf
section
variable {X : Cx} {elts : List Expr} {kk : Nat} {tp : Pos}
def iEnum (K : PySem.W.Frag) (ta : TA) : TI := fun σ H R => ta σ H fun vs H1 => ∃ a, vs = [.ref a] ∧ (∃ xs, SqL K H1 a xs) ∧ R (Ite K a) H1
theorem pi_enum {a : Expr} {ta : TA} {p pos : Pos} (hg : Gl X "enumerate") (hm : X.mg "enumerate" = none) (ha : PA X [a] ta) (hs : starEach [a] X.env = [(false, eval a X.env)] := by rfl) :
    PI X (.Tuple elts kk tp) (.Call (.Name "enumerate" p) [a] [] pos) (iEnum X.K ta) := by
  intro pins s σ H R I h
  refine Call_ (ld_blt I hg hm boot_enumT (PyProof.Rows.callWith_type1 (thn (ha pos pins s σ H _ I h) fun us s1 ⟨vs, H1, I1, r1, q1⟩ => ?_) hs rfl))
  obtain ⟨l1, e, ⟨xs, hq1⟩, q⟩ := q1
  subst e
  cases r1 with
  | cons ra rr =>
    cases rr
    cases ra
    obtain ⟨its1, rv1, p1, _⟩ := I1.list hq1
    refine call_enumerate_list p1.isList fun h' he hit hsz hk => ?_
    have I2 : Inv X pins σ H1 { s1 with heap := h' } := I1.kept (t' := s1.toks) hk
    refine wpAny_pyIter_enum he ⟨s1.heap.objs.size + 1, [s1.heap.objs.size + 1, s1.heap.objs.size], _, _, H1, rfl, I2, turn_enum l1 _ _ (by show @Ne Nat _ _; omega), ⟨⟨_, he⟩, hit⟩, fun c hc => ?_, q⟩
    have hge : s1.heap.objs.size ≤ c := by
      simp only [List.mem_cons, List.not_mem_nil, or_false] at hc
      rcases hc with q | q <;> (rw [q]; show (_ : Nat) ≤ _; omega)
    exact I1.fpOk hge (I1.hok.fresh hge)
end

/-! ### loops over these -/
theorem for_enum {K : PySem.W.Frag} {a : Addr} {xs : List V} {g : TG} {tb : TS} {D : Ends} {σ : St} {H : Hp} (Pv : Nat → St → Hp → Prop) (h0 : Pv 0 σ H) (hl : ∀ i σ H, i ≤ xs.length → Pv i σ H → SqL K H a xs)
    (hs : ∀ (i : Nat) x σ H p, xs[i]? = some x → Pv i σ H → H p = none → g (.ref p) σ (upd H p (.tup [.int i, x])) fun σ2 H2 => tb { D with nx := Pv (i + 1), ct := Pv (i + 1), bk := D.nx } σ2 H2) (hd : ∀ σ H, Pv xs.length σ H → D.nx σ H) :
    ∃ W : Nat → Nat → St → Hp → Prop, (∃ m, W 0 m σ H) ∧ ∀ i m σ H, W i m σ H →
      ((Ite K a).stop i H ∧ D.nx σ H) ∨ ((Ite K a).go i H ∧ ∃ N : St → Hp → Prop, (∀ σ' H', N σ' H' → ∃ m', m' < m ∧ W (i + 1) m' σ' H') ∧ ∀ x H', (Ite K a).yld i H x H' → g x σ H' fun σ2 H2 => tb { D with nx := N, ct := N, bk := D.nx } σ2 H2) := by
  refine ⟨fun i m σ H => m = xs.length - i ∧ i ≤ xs.length ∧ Pv i σ H, ⟨xs.length, by simp, Nat.zero_le _, h0⟩, ?_⟩
  rintro i m σ H ⟨rfl, hi, p⟩
  have q := hl i σ H hi p
  by_cases hlt : i < xs.length
  · refine .inr ⟨⟨xs, xs[i], q, by simp [hlt]⟩, Pv (i + 1), fun σ' H' p' => ⟨xs.length - (i + 1), by omega, rfl, hlt, p'⟩, fun x H' y => ?_⟩
    obtain ⟨pp, xx, hp, rfl, rfl, hy⟩ := y
    exact hs i xx σ H pp (hy xs q) p hp
  · have e : i = xs.length := by omega
    subst e
    exact .inl ⟨⟨xs, q, Nat.le_refl _⟩, hd σ H p⟩
theorem comp_list {K : PySem.W.Frag} {a : Addr} {xs : List V} {g : TG} {te : TE} {σ0 : St} {k : Nat} {H : Hp} {Fin : List V → Hp → Prop} (hz : xs.length ≤ sizeLine) (Pv : Nat → List V → Hp → Prop) (h0 : Pv 0 [] H) (hl : ∀ i ys H, i ≤ xs.length → Pv i ys H → SqL K H a xs)
    (hs : ∀ i x ys H, xs[i]? = some x → Pv i ys H → g x σ0 H fun σ' H'' => (σ'.drop k = σ0.drop k ∧ σ'.length = σ0.length) ∧ te σ' H'' fun y H3 => Pv (i + 1) (ys ++ [y]) H3)
    (hd : ∀ ys H, Pv xs.length ys H → Fin ys H) :
    ∃ (W : Nat → List V → Hp → Prop) (n : Nat), n ≤ sizeLine ∧ W 0 [] H ∧ ∀ i ys H, W i ys H →
      ((Itl K a).stop i H ∧ Fin ys H) ∨ ((Itl K a).go i H ∧ i < n ∧ ∀ x H', (Itl K a).yld i H x H' → g x σ0 H' fun σ' H'' =>
        (σ'.drop k = σ0.drop k ∧ σ'.length = σ0.length) ∧ te σ' H'' fun y H3 => W (i + 1) (ys ++ [y]) H3) := by
  refine ⟨fun i ys H => i ≤ xs.length ∧ Pv i ys H, xs.length, hz, ⟨Nat.zero_le _, h0⟩, ?_⟩
  rintro i ys H ⟨hi, p⟩
  have q := hl i ys H hi p
  by_cases hlt : i < xs.length
  · refine .inr ⟨⟨xs, xs[i], q, by simp [hlt]⟩, hlt, fun x H' y => ?_⟩
    obtain ⟨e, y⟩ := y
    subst e
    have z := hs i x ys _ (y xs q) p
    have e2 : (fun (y : V) (H3 : Hp) => i + 1 ≤ xs.length ∧ Pv (i + 1) (ys ++ [y]) H3) = fun y H3 => Pv (i + 1) (ys ++ [y]) H3 := by
      funext y H3
      exact propext ⟨fun h => h.2, fun h => ⟨hlt, h⟩⟩
    show g x σ0 _ fun σ' H'' => (σ'.drop k = σ0.drop k ∧ σ'.length = σ0.length) ∧ te σ' H'' fun y H3 => i + 1 ≤ xs.length ∧ Pv (i + 1) (ys ++ [y]) H3
    rw [e2]
    exact z
  · have e : i = xs.length := by omega
    subst e
    exact .inl ⟨⟨xs, q, Nat.le_refl _⟩, hd ys H p⟩
theorem comp_zip {K : PySem.W.Frag} {a b : Addr} {xs zs : List V} {g : TG} {te : TE} {σ0 : St} {k : Nat} {H : Hp} {Fin : List V → Hp → Prop} (hz : xs.length ≤ sizeLine) (hlen : xs.length = zs.length) (Pv : Nat → List V → Hp → Prop) (h0 : Pv 0 [] H)
    (hl : ∀ i ys H, i ≤ xs.length → Pv i ys H → SqL K H a xs ∧ SqL K H b zs)
    (hs : ∀ i x z ys H p, xs[i]? = some x → zs[i]? = some z → Pv i ys H → H p = none → g (.ref p) σ0 (upd H p (.tup [x, z])) fun σ' H'' => (σ'.drop k = σ0.drop k ∧ σ'.length = σ0.length) ∧ te σ' H'' fun y H3 => Pv (i + 1) (ys ++ [y]) H3)
    (hd : ∀ ys H, Pv xs.length ys H → Fin ys H) :
    ∃ (W : Nat → List V → Hp → Prop) (n : Nat), n ≤ sizeLine ∧ W 0 [] H ∧ ∀ i ys H, W i ys H →
      ((Itz K a b).stop i H ∧ Fin ys H) ∨ ((Itz K a b).go i H ∧ i < n ∧ ∀ x H', (Itz K a b).yld i H x H' → g x σ0 H' fun σ' H'' =>
        (σ'.drop k = σ0.drop k ∧ σ'.length = σ0.length) ∧ te σ' H'' fun y H3 => W (i + 1) (ys ++ [y]) H3) := by
  refine ⟨fun i ys H => i ≤ xs.length ∧ Pv i ys H, xs.length, hz, ⟨Nat.zero_le _, h0⟩, ?_⟩
  rintro i ys H ⟨hi, p⟩
  obtain ⟨q1, q2⟩ := hl i ys H hi p
  by_cases hlt : i < xs.length
  · have hlt2 : i < zs.length := by omega
    refine .inr ⟨⟨xs, zs, xs[i], zs[i], q1, q2, by simp [hlt], by simp [hlt2]⟩, hlt, fun x H' y => ?_⟩
    obtain ⟨pp, xx, zz, hp, rfl, rfl, hx, hy⟩ := y
    have z := hs i xx zz ys H pp (hx xs q1) (hy zs q2) p hp
    have e2 : (fun (y : V) (H3 : Hp) => i + 1 ≤ xs.length ∧ Pv (i + 1) (ys ++ [y]) H3) = fun y H3 => Pv (i + 1) (ys ++ [y]) H3 := by
      funext y H3
      exact propext ⟨fun h => h.2, fun h => ⟨hlt, h⟩⟩
    show g _ σ0 _ fun σ' H'' => (σ'.drop k = σ0.drop k ∧ σ'.length = σ0.length) ∧ te σ' H'' fun y H3 => i + 1 ≤ xs.length ∧ Pv (i + 1) (ys ++ [y]) H3
    rw [e2]
    exact z
  · have e : i = xs.length := by omega
    subst e
    exact .inl ⟨⟨xs, zs, q1, q2, .inl (Nat.le_refl _)⟩, hd ys H p⟩

theorem getD_at {α : Type} {l : List α} {i : Nat} {d : α} (h : i < l.length) : l.getD i d = l[i] := by simp [h]
theorem not_here {h : Heap} {b : Addr} {o : Obj} (e : h.get? b = some o) : b ∉ [h.objs.size] := fun z => by
  have := Heap.lt_size e
  rw [List.mem_singleton.mp z] at this
  exact Nat.lt_irrefl _ this
/-! ### built-in functions of lists -/
theorem range_all : ∀ bs : List Bool, (List.range bs.length).all (fun i => bs.getD i true) = bs.all fun b => b
  | [] => rfl
  | b :: bs => by
    rw [List.length_cons, List.range_succ_eq_map, List.all_cons, List.all_map, List.all_cons, ← range_all bs]
    rfl
section
variable {X : Cx}
theorem call_sumL (hc : X.calm = true) : CallR X (.builtin "sum") (fun xs H Q => ∃ (p : Addr) (ns : List Int), xs = [.ref p] ∧ SqL X.K H p (ns.map V.int) ∧ Q (.int ns.sum) H) := by
  intro pins s σ H xs us Q I r h
  obtain ⟨p, ns, rfl, hq, q⟩ := h
  obtain ⟨u, rfl, rx⟩ := vals1 r
  cases rx
  obtain ⟨its, rv, pl, hz⟩ := I.list hq
  have hi : IntsAre its ns := intsAre_of rv
  obtain ⟨xs, e⟩ := hi.allInts.items
  have hns : ns = xs.toList.map (·.1) := by rw [← hi.numsOf, ← nums_intItems, ← e]
  have hl := pl.isList
  rw [e] at hl
  refine sum_intListG (I.ok.hd hc) hl fun h' tk t' hk => ⟨.int ns.sum, H, I.kept hk, ⟨t', ?_⟩, q⟩
  rw [hns, preSum_eq, List.take_of_length_le (by simp)]
theorem call_sortedL : CallR X (.builtin "sorted") (fun xs H Q => ∃ (p : Addr) (ns : List Int), xs = [.ref p] ∧ SqL X.K H p (ns.map V.int) ∧ ns.length < 64 ∧ ∀ (ns' : List Int) (l : Addr), ns'.Perm ns → ns'.Pairwise (· ≤ ·) → H l = none → Q (.ref l) (upd H l (.lst (ns'.map V.int)))) := by
  intro pins s σ H xs us Q I r h
  obtain ⟨p, ns, rfl, hq, h64, q⟩ := h
  obtain ⟨u, rfl, rx⟩ := vals1 r
  cases rx
  obtain ⟨its, rv, pl, hz⟩ := I.list hq
  have hi : IntsAre its ns := intsAre_of rv
  have hl : its.length = ns.length := by rw [← rv.length, List.length_map]
  refine sorted_ints pl.isList hi (by omega) fun out ns' a1 a2 a3 => ?_
  obtain ⟨e, he⟩ := sortedAll_at s.heap its out
  have hn : H (s.heap.objs.size + 1) = none := I.hok.fresh (Nat.le_succ _)
  refine ⟨.ref (s.heap.objs.size + 1), _, I.laid (t' := s.toks) (o := .lst (ns'.map V.int)) (fun b o q => sortedAll_old q) (Nat.le_succ _) ?_, rfl, q ns' _ a2 a3 hn⟩
  refine ⟨?_, out.toList, e, vals_ints a1, ?_⟩
  · rw [List.length_map, a2.length_eq]
    rw [List.length_map] at hz
    exact hz
  · rw [he]
    all_goals first | rfl | simp [seqObj]
theorem call_allL (hc : X.calm = true) : CallR X (.builtin "all") (fun xs H Q => ∃ (p : Addr) (bs : List Bool), xs = [.ref p] ∧ SqL X.K H p (bs.map V.bl) ∧ Q (.bl (bs.all fun b => b)) H) := by
  intro pins s σ H xs us Q I r h
  obtain ⟨p, bs, rfl, hq, q⟩ := h
  obtain ⟨u, rfl, rx⟩ := vals1 r
  cases rx
  obtain ⟨its, rv, pl, hz⟩ := I.list hq
  have hlen : its.length = bs.length := by rw [← rv.length, List.length_map]
  have hlt : p < s.heap.objs.size := by obtain ⟨_, e, _⟩ := pl.isList; exact Heap.lt_size e
  refine call_all_walk (wpAny_pyIter_list pl.isList ⟨s.heap.objs.size, _, _, _, _, _, fun i => bs.getD i true, rfl, Walks.list (A := X.A.in1) (I.ok.hd hc) s.heap.objs.size p (Nat.ne_of_lt hlt) its.toArray,
    ⟨⟨_, Heap.get?_push_size _ rfl, rfl, rfl⟩, pl.isList.push _⟩, ?_, fun h' tk hk => ⟨.bl (bs.all fun b => b), H, ?_, ?_, q⟩⟩)
  · intro i v s' Q' E' hP hQ
    have hP' : its[i]? = some v := by simpa using hP
    have hi : i < bs.length := by have := (List.getElem?_eq_some_iff.mp hP').1; omega
    obtain ⟨u, hu, ru⟩ := rv.get (i := i) (x := V.bl bs[i]) (by rw [List.getElem?_map, List.getElem?_eq_getElem hi]; rfl)
    rw [hP'] at hu
    cases hu
    cases (show v = Value.bool bs[i] from ru)
    refine wpAny_truthy_bool ?_
    have e : bs.getD i true = bs[i] := getD_at hi
    rw [← e]
    exact hQ
  · exact I.kept fun b o e => hk b o (not_here e) (Heap.get?_push_of_some _ e)
  · show Value.bool _ = Value.bool _
    congr 1
    rw [List.size_toArray, hlen, range_all]
theorem call_isi : CallR X (.builtin "isinstance") (fun xs H Q => ∃ x c t b, xs = [x, .ty c] ∧ TyOf X.K H x t ∧ PySem.W.kitOne X.K t (.type c) = some b ∧ Q (.bl b) H) := by
  intro pins s σ H xs us Q I r h
  obtain ⟨x, c, t, b, rfl, ht, hb, q⟩ := h
  obtain ⟨u1, u2, rfl, r1, r2⟩ := vals2 r
  cases (show u2 = Value.type c from r2)
  exact isinst_ok I r1 ht hb fun tk => ⟨.bl b, H, I.tok tk, rfl, q⟩
end
section
variable {X : Cx} {K : PySem.W.Frag}
/-! the same, the written part named (within a comprehension the context itself hangs on the turn) -/
theorem ix_tupK (hK : X.K = K) : IxR X (rIxT K) := by subst hK; exact ix_tup
theorem pg_two {x y : Str} {i j : Nat} {px py tp : Pos} {kk : Nat} (hK : X.K = K) (hc : X.calm = true) (hN : X.N.Nodup) (hi : X.N[i]? = some x) (hj : X.N[j]? = some y) (hx : X.env.scope.names.lookup x = some .local) (hy : X.env.scope.names.lookup y = some .local) :
    PG X (.Tuple [.Name x px, .Name y py] kk tp) (gTup K 2 (gCons (gName i) (gCons (gName j) gNil))) := by
  subst hK
  exact pg_tup hc (pgs_cons (pg_name hN hi (.inl hx) (.inr hx)) (pgs_cons (pg_name hN hj (.inl hy) (.inr hy)) pgs_nil rfl) rfl) rfl rfl
end
theorem kit_ii {K : PySem.W.Frag} : PySem.W.kitOne K (.type "int") (.type "int") = some true := by rfl
theorem kit_ib {K : PySem.W.Frag} : PySem.W.kitOne K (.type "int") (.type "bool") = some false := by kernel_rfl
theorem kit_ll {K : PySem.W.Frag} : PySem.W.kitOne K (.type "list") (.type "list") = some true := by rfl
theorem kit_tt {K : PySem.W.Frag} : PySem.W.kitOne K (.type "tuple") (.type "tuple") = some true := by rfl
theorem boot_intT : bootBuiltins "int" = some (.type "int") := by decide +kernel
theorem boot_boolT : bootBuiltins "bool" = some (.type "bool") := by decide +kernel
theorem boot_listT : bootBuiltins "list" = some (.type "list") := by decide +kernel
theorem boot_tupleT : bootBuiltins "tuple" = some (.type "tuple") := by decide +kernel
theorem boot_isi : bootBuiltins "isinstance" = some (.builtin "isinstance") := by decide +kernel
theorem boot_allB : bootBuiltins "all" = some (.builtin "all") := by decide +kernel
theorem boot_absB : bootBuiltins "abs" = some (.builtin "abs") := by decide +kernel

/-! ### max(xs, default=d) of a list of ints -/
section
variable {prog : Program} {w : World} {A : Around} {R : Result → Shared → Prop} {I : Addr} {fp wr : List Addr} {n : Nat} {P : Nat → Value → Prop} {St : Nat → Heap → Prop} {d : Value}
theorem args_maxD (a v : Value) : argsOk "max" ⟨[a], [(Str.ofString "default", v)]⟩ := by unfold argsOk; kernel_rfl
theorem max_loopD (W : Walks prog w A.in1 I fp wr n P St) (val : Nat → Int) (hval : ∀ i v, P i v → ∃ t, v = .int (val i) t) (S : Addr) (hSf : S ∉ fp) :
    ∀ (k i j : Nat) (z : Shared) (vb : Value) (c : Nat), n - i = k → i ≤ n → j < i → St i z.heap → P j vb → (∀ i', i' < i → val i' ≤ val j) →
    z.heap.get? S = some { cls := .type "list", dict := none, data := .seq #[vb, vb] c, slots := #[] } →
    (∀ j' v h' tk, j' < n → P j' v → (∀ i', i' < n → val i' ≤ val j') → (∀ b o, b ∉ wr → b ≠ S → z.heap.get? b = some o → h'.get? b = some o) → R (.ok (.ret v)) { z with heap := h', toks := tk }) →
    codeAny (model prog w) A (.builtin "max.loop" ⟨[.ref I, .none, .ref S], [(Str.ofString "default", d)]⟩) R z := by
  have hSw : S ∉ wr := fun h => hSf (W.sub _ h)
  have hname : (toString "max" ++ toString ".loop" : String) = "max.loop" := by decide
  intro k
  induction k with
  | zero =>
    intro i j z vb c hk hi hj hst hPb hbest hS hR
    have hin : i = n := by omega
    subst hin
    refine codeAny_builtin PySem.F.entry_max_loop ?_
    rw [Around.under_plainId PySem.F.plain_max_loop _]
    show wpAny _ A.in1 (seqItems? (.ref S) >>= _) _ _ z
    refine wpAny_bind (wpAny_seqItems hS rfl ?_)
    show wpAny _ A.in1 (tryCatch (pyNext (.ref I)) _ >>= _) _ _ z
    refine wpAny_bind (wpAny_tryCatch (W.done z _ _ hst fun h' tk hk' => ?_))
    show wpAny _ A.in1 (updateSeq S (fun _ => #[]) >>= _) _ _ _
    refine wpAny_bind (wpAny_updateSeq (hk' S _ hSw hS) rfl (wpAny_bind (wpAny_letGo (wpAny_pure ?_))))
    exact hR j vb _ tk hj hPb hbest fun b o hbw hbS e => (Heap.get?_update_other _ _ (Ne.symm hbS)).trans (hk' b o hbw e)
  | succ k ih =>
    intro i j z vb c hk hi hj hst hPb hbest hS hR
    have hlt : i < n := by omega
    refine codeAny_builtin PySem.F.entry_max_loop ?_
    rw [Around.under_plainId PySem.F.plain_max_loop _]
    show wpAny _ A.in1 (seqItems? (.ref S) >>= _) _ _ z
    refine wpAny_bind (wpAny_seqItems hS rfl ?_)
    show wpAny _ A.in1 (tryCatch (pyNext (.ref I)) _ >>= _) _ _ z
    refine wpAny_bind (wpAny_tryCatch (W.item i z _ _ hlt hst fun v h' tk hP hst' hk' => ?_))
    have hS' := hk' S _ hSw hS
    show wpAny _ A.in1 (tryCatch (holding [v, v] (richCompare .Gt v vb >>= _)) _ >>= _) _ _ _
    refine wpAny_bind (wpAny_tryCatch (wpAny_holding (wpAny_bind (CmpOf.ints_gt val hval i j v vb _ _ _ hP hPb ?_))))
    refine wpAny_bind (wpAny_holding (wpAny_truthy_bool ?_))
    refine wpAny_bind (wpAny_letGo (wpAny_pure ?_))
    by_cases hb : val i > val j
    · simp only [decide_eq_true hb, if_true]
      refine wpAny_bind (wpAny_updateSeq hS' rfl (wpAny_bind (wpAny_letGo ?_)))
      rw [hname]
      refine wpAny_pure ⟨plainId_quiet PySem.F.plain_max_loop _, ih (i + 1) i _ v _ (by omega) hlt (Nat.lt_succ_self _) (W.frame _ _ _ hst' fun b hbf o e => ?_) hP (fun i' hi' => ?_) (Heap.get?_update_self _ hS' rfl) fun j' v' h'' tk'' q1 q2 q3 q4 => ?_⟩
      · exact (Heap.get?_update_other _ _ (fun h : S = b => hSf (by rw [h]; exact hbf))).trans e
      · by_cases q : i' = i
        · subst q; exact Int.le_refl _
        · have := hbest i' (by omega)
          omega
      · exact hR j' v' h'' tk'' q1 q2 q3 fun b o hbw hbS e => q4 b o hbw hbS ((Heap.get?_update_other _ _ (Ne.symm hbS)).trans (hk' b o hbw e))
    · simp only [decide_eq_false hb, Bool.false_eq_true, if_false]
      refine wpAny_bind (wpAny_letGo ?_)
      rw [hname]
      refine wpAny_pure ⟨plainId_quiet PySem.F.plain_max_loop _, ih (i + 1) j _ vb c (by omega) hlt (by omega) hst' hPb (fun i' hi' => ?_) hS' fun j' v' h'' tk'' q1 q2 q3 q4 => ?_⟩
      · by_cases q : i' = i
        · subst q; omega
        · exact hbest i' (by omega)
      · exact hR j' v' h'' tk'' q1 q2 q3 fun b o hbw hbS e => q4 b o hbw hbS (hk' b o hbw e)
theorem max_loopD0 (W : Walks prog w A.in1 I fp wr n P St) (val : Nat → Int) (hval : ∀ i v, P i v → ∃ t, v = .int (val i) t) (S : Addr) (hSf : S ∉ fp) {z : Shared} {c : Nat} (hst : St 0 z.heap)
    (hS : z.heap.get? S = some { cls := .type "list", dict := none, data := .seq #[] c, slots := #[] })
    (h0 : n = 0 → ∀ h' tk, (∀ b o, b ∉ wr → b ≠ S → z.heap.get? b = some o → h'.get? b = some o) → R (.ok (.ret d)) { z with heap := h', toks := tk })
    (hR : ∀ j' v h' tk, j' < n → P j' v → (∀ i', i' < n → val i' ≤ val j') → (∀ b o, b ∉ wr → b ≠ S → z.heap.get? b = some o → h'.get? b = some o) → R (.ok (.ret v)) { z with heap := h', toks := tk }) :
    codeAny (model prog w) A (.builtin "max.loop" ⟨[.ref I, .none, .ref S], [(Str.ofString "default", d)]⟩) R z := by
  have hSw : S ∉ wr := fun h => hSf (W.sub _ h)
  have hname : (toString "max" ++ toString ".loop" : String) = "max.loop" := by decide
  refine codeAny_builtin PySem.F.entry_max_loop ?_
  rw [Around.under_plainId PySem.F.plain_max_loop _]
  show wpAny _ A.in1 (seqItems? (.ref S) >>= _) _ _ z
  refine wpAny_bind (wpAny_seqItems hS rfl ?_)
  show wpAny _ A.in1 (tryCatch (pyNext (.ref I)) _ >>= _) _ _ z
  by_cases hn : n = 0
  · subst hn
    refine wpAny_bind (wpAny_tryCatch (W.done z _ _ hst fun h' tk hk' => ?_))
    show wpAny _ A.in1 (rule _ >>= fun _ => ret d) _ _ _
    exact wpAny_bind (wpAny_rule (wpAny_pure (h0 rfl h' tk fun b o hbw _ e => hk' b o hbw e)))
  · refine wpAny_bind (wpAny_tryCatch (W.item 0 z _ _ (by omega) hst fun v h' tk hP hst' hk' => ?_))
    have hS' := hk' S _ hSw hS
    show wpAny _ A.in1 (updateSeq S (fun _ => #[v, v]) >>= _) _ _ _
    refine wpAny_bind (wpAny_updateSeq hS' rfl ?_)
    rw [hname]
    refine wpAny_pure ⟨plainId_quiet PySem.F.plain_max_loop _, max_loopD W val hval S hSf _ 1 0 _ v _ rfl (by omega) (by omega) (W.frame _ _ _ hst' fun b hbf o e => ?_) hP (fun i' hi' => by
      have : i' = 0 := by omega
      subst this; exact Int.le_refl _) (Heap.get?_update_self _ hS' rfl) fun j' v' h'' tk'' q1 q2 q3 q4 => ?_⟩
    · exact (Heap.get?_update_other _ _ (fun h : S = b => hSf (by rw [h]; exact hbf))).trans e
    · exact hR j' v' h'' tk'' q1 q2 q3 fun b o hbw hbS e => q4 b o hbw hbS ((Heap.get?_update_other _ _ (Ne.symm hbS)).trans (hk' b o hbw e))
end
section
variable {X : Cx}
theorem max_defaultL (hc : X.calm = true) {pins : List (Addr × Obj)} {s : Shared} {σ : St} {H : Hp} {p : Addr} {ns : List Int} {dv : V} {du : Value} {Q : VK} (I : Inv X pins σ H s) (hq : SqL X.K H p (ns.map V.int)) (rd : RelV dv du)
    (h0 : ns = [] → Q dv H) (h1 : ∀ M, M ∈ ns → (∀ a ∈ ns, a ≤ M) → Q (.int M) H) :
    wpAny (model X.prog X.w) X.A (call (.builtin "max") [.ref p] [(Str.ofString "default", du)]) (EP X pins σ Q) X.xe s := by
  have hname : (toString "max" ++ toString ".loop" : String) = "max.loop" := by decide
  obtain ⟨its, rv, pl, hz⟩ := I.list hq
  have hi : IntsAre its ns := intsAre_of rv
  have hlen : its.length = ns.length := by rw [← rv.length, List.length_map]
  have hlt : p < s.heap.objs.size := by obtain ⟨_, e, _⟩ := pl.isList; exact Heap.lt_size e
  refine kmb_tree PySem.F.kind_max PySem.F.plain_max PySem.F.entry_max (args_maxD _ _) ?_
  show wpAny _ X.A.in1 (Builtin.Builtins.bindParams "max" ["key", "default"] 0 ⟨[], [(Str.ofString "default", du)]⟩ >>= _) _ _ s
  refine wpAny_bind (wpAny_of_eq (show Builtin.Builtins.bindParams "max" ["key", "default"] 0 ⟨[], [(Str.ofString "default", du)]⟩ = pure [none, some du] from rfl) ?_)
  refine wpAny_bind (wpAny_pure ?_)
  refine wpAny_bind (wpAny_pyIter_list pl.isList ?_)
  refine wpAny_bind (wpAny_newObj_type ?_)
  rw [hname]
  have szp : (s.heap.push { cls := .type "list_iterator", data := .fields #[.ref p, .int 0 0] }).objs.size = s.heap.objs.size + 1 := Heap.size_push ..
  have W := Walks.list (prog := X.prog) (w := X.w) (A := X.A.in1) (I.ok.hd hc) s.heap.objs.size p (Nat.ne_of_lt hlt) its.toArray
  have hval : ∀ (i : Nat) (v : Value), its.toArray[i]? = some v → ∃ t, v = .int (ns.getD i 0) t := fun i v e => by
    have e' : its[i]? = some v := by simpa using e
    have hil : i < ns.length := by have := (List.getElem?_eq_some_iff.mp e').1; omega
    obtain ⟨u, hu, t, ru⟩ := rv.get (i := i) (x := V.int ns[i]) (by rw [List.getElem?_map, List.getElem?_eq_getElem hil]; rfl)
    rw [e'] at hu
    cases hu
    exact ⟨t, by rw [getD_at hil]; exact ru⟩
  refine wpAny_pure ⟨plainId_quiet PySem.F.plain_max_loop _, max_loopD0 W (fun i => ns.getD i 0) hval (s.heap.push { cls := .type "list_iterator", data := .fields #[.ref p, .int 0 0] }).objs.size (fun z => ?_) (c := 0)
    ⟨⟨_, Heap.get?_push_of_some _ (Heap.get?_push_size _ rfl), rfl, rfl⟩, (pl.isList.push _).push _⟩ (Heap.get?_push_size _ rfl) (fun hn h' tk hk => ?_) fun j v h' tk hj hP hb hk => ?_⟩
  · rw [szp] at z
    simp only [List.mem_cons, List.not_mem_nil, or_false] at z
    rcases z with z | z
    · exact absurd z (Nat.ne_of_gt (Nat.lt_succ_self _))
    · exact absurd hlt (by rw [← z]; exact Nat.not_lt.mpr (Nat.le_succ _))
  · have hns : ns = [] := by
      rw [List.size_toArray, hlen] at hn
      exact List.eq_nil_of_length_eq_zero hn
    refine ⟨dv, H, I.kept (t' := tk) fun b o e => ?_, rd, h0 hns⟩
    have hbl := Heap.lt_size e
    exact hk b o (not_here e) (by rw [szp]; exact Nat.ne_of_lt (Nat.lt_succ_of_lt hbl)) (Heap.get?_push_of_some _ (Heap.get?_push_of_some _ e))
  · rw [List.size_toArray, hlen] at hj hb
    obtain ⟨t, rfl⟩ := hval j v hP
    refine ⟨.int (ns.getD j 0), H, I.kept (t' := tk) fun b o e => ?_, ⟨t, rfl⟩, h1 _ ?_ fun a ha => ?_⟩
    · have hbl := Heap.lt_size e
      exact hk b o (not_here e) (by rw [szp]; exact Nat.ne_of_lt (Nat.lt_succ_of_lt hbl)) (Heap.get?_push_of_some _ (Heap.get?_push_of_some _ e))
    · rw [getD_at hj]
      exact List.getElem_mem hj
    · obtain ⟨i', hi', rfl⟩ := List.mem_iff_getElem.mp ha
      have z := hb i' hi'
      rw [getD_at hi'] at z
      exact z
def tmaxD (K : PySem.W.Frag) (ta : TA) (tk : TA) : TE := fun σ H Q => ta σ H fun vs H1 => tk σ H1 fun zs H2 => ∃ (p : Addr) (ns : List Int) (dv : V), vs = [.ref p] ∧ zs = [dv] ∧ SqL K H2 p (ns.map V.int) ∧ (ns = [] → Q dv H2) ∧ ∀ M, M ∈ ns → (∀ a ∈ ns, a ≤ M) → Q (.int M) H2
theorem pe_maxD {e : Expr} {p pos : Pos} {ta tk : TA} {kws : List Keyword} (hc : X.calm = true) (hg : Gl X "max") (hm : X.mg "max" = none) (ha : PA X [e] ta) (hkw : PK X kws tk)
    (hks : (backToKw pos (keywordEach kws X.env)).filterMap (·.1) = [Str.ofString "default"] := by rfl)
    (he : backTo pos (starEach [e] X.env) = (false, eval e X.env) :: backTo pos (starEach [] X.env) := by rfl) (hpl : (backTo pos (starEach [e] X.env)).any (·.1) = false := by rfl)
    (hall : (backToKw pos (keywordEach kws X.env)).all (·.1.isSome) = true := by rfl) (hno : (backToKw pos (keywordEach kws X.env)).any (·.1.isNone) = false := by rfl) :
    PE X (.Call (.Name "max" p) [e] kws pos) (tmaxD X.K ta tk) := by
  intro pins s σ H Q I h
  refine wpAny_Call_Name_kw (ld_blt I hg hm boot_max ?_)
  refine PyProof.Rows.callWith_kw (thn (ha pos pins s σ H _ I h) fun us s1 ⟨vs, H1, I1, r1, q1⟩ => ?_) he hpl hall hno
  refine thn (hkw pos pins s1 σ H1 _ I1 q1) fun ws s2 ⟨zs, H2, I2, rz, q2⟩ => ?_
  obtain ⟨l, ns, dv, rfl, rfl, hq, h0, h1⟩ := q2
  obtain ⟨u, rfl, ru⟩ := vals1 r1
  obtain ⟨wv, rfl, rw'⟩ := vals1 rz
  cases ru
  rw [hks]
  exact max_defaultL hc I2 hq rw' h0 h1
end

/-! ### min(xs, default=d) of a list of ints -/
section
variable {prog : Program} {w : World} {A : Around} {R : Result → Shared → Prop} {I : Addr} {fp wr : List Addr} {n : Nat} {P : Nat → Value → Prop} {St : Nat → Heap → Prop} {d : Value}
theorem args_minD (a v : Value) : argsOk "min" ⟨[a], [(Str.ofString "default", v)]⟩ := by unfold argsOk; kernel_rfl
theorem min_loopD (W : Walks prog w A.in1 I fp wr n P St) (val : Nat → Int) (hval : ∀ i v, P i v → ∃ t, v = .int (val i) t) (S : Addr) (hSf : S ∉ fp) :
    ∀ (k i j : Nat) (z : Shared) (vb : Value) (c : Nat), n - i = k → i ≤ n → j < i → St i z.heap → P j vb → (∀ i', i' < i → val j ≤ val i') →
    z.heap.get? S = some { cls := .type "list", dict := none, data := .seq #[vb, vb] c, slots := #[] } →
    (∀ j' v h' tk, j' < n → P j' v → (∀ i', i' < n → val j' ≤ val i') → (∀ b o, b ∉ wr → b ≠ S → z.heap.get? b = some o → h'.get? b = some o) → R (.ok (.ret v)) { z with heap := h', toks := tk }) →
    codeAny (model prog w) A (.builtin "min.loop" ⟨[.ref I, .none, .ref S], [(Str.ofString "default", d)]⟩) R z := by
  have hSw : S ∉ wr := fun h => hSf (W.sub _ h)
  have hname : (toString "min" ++ toString ".loop" : String) = "min.loop" := by decide
  intro k
  induction k with
  | zero =>
    intro i j z vb c hk hi hj hst hPb hbest hS hR
    have hin : i = n := by omega
    subst hin
    refine codeAny_builtin PySem.F.entry_min_loop ?_
    rw [Around.under_plainId PySem.F.plain_min_loop _]
    show wpAny _ A.in1 (seqItems? (.ref S) >>= _) _ _ z
    refine wpAny_bind (wpAny_seqItems hS rfl ?_)
    show wpAny _ A.in1 (tryCatch (pyNext (.ref I)) _ >>= _) _ _ z
    refine wpAny_bind (wpAny_tryCatch (W.done z _ _ hst fun h' tk hk' => ?_))
    show wpAny _ A.in1 (updateSeq S (fun _ => #[]) >>= _) _ _ _
    refine wpAny_bind (wpAny_updateSeq (hk' S _ hSw hS) rfl (wpAny_bind (wpAny_letGo (wpAny_pure ?_))))
    exact hR j vb _ tk hj hPb hbest fun b o hbw hbS e => (Heap.get?_update_other _ _ (Ne.symm hbS)).trans (hk' b o hbw e)
  | succ k ih =>
    intro i j z vb c hk hi hj hst hPb hbest hS hR
    have hlt : i < n := by omega
    refine codeAny_builtin PySem.F.entry_min_loop ?_
    rw [Around.under_plainId PySem.F.plain_min_loop _]
    show wpAny _ A.in1 (seqItems? (.ref S) >>= _) _ _ z
    refine wpAny_bind (wpAny_seqItems hS rfl ?_)
    show wpAny _ A.in1 (tryCatch (pyNext (.ref I)) _ >>= _) _ _ z
    refine wpAny_bind (wpAny_tryCatch (W.item i z _ _ hlt hst fun v h' tk hP hst' hk' => ?_))
    have hS' := hk' S _ hSw hS
    show wpAny _ A.in1 (tryCatch (holding [v, v] (richCompare .Lt v vb >>= _)) _ >>= _) _ _ _
    refine wpAny_bind (wpAny_tryCatch (wpAny_holding (wpAny_bind (CmpOf.ints_lt val hval i j v vb _ _ _ hP hPb ?_))))
    refine wpAny_bind (wpAny_holding (wpAny_truthy_bool ?_))
    refine wpAny_bind (wpAny_letGo (wpAny_pure ?_))
    by_cases hb : val i < val j
    · simp only [decide_eq_true hb, if_true]
      refine wpAny_bind (wpAny_updateSeq hS' rfl (wpAny_bind (wpAny_letGo ?_)))
      rw [hname]
      refine wpAny_pure ⟨plainId_quiet PySem.F.plain_min_loop _, ih (i + 1) i _ v _ (by omega) hlt (Nat.lt_succ_self _) (W.frame _ _ _ hst' fun b hbf o e => ?_) hP (fun i' hi' => ?_) (Heap.get?_update_self _ hS' rfl) fun j' v' h'' tk'' q1 q2 q3 q4 => ?_⟩
      · exact (Heap.get?_update_other _ _ (fun h : S = b => hSf (by rw [h]; exact hbf))).trans e
      · by_cases q : i' = i
        · subst q; exact Int.le_refl _
        · have := hbest i' (by omega)
          omega
      · exact hR j' v' h'' tk'' q1 q2 q3 fun b o hbw hbS e => q4 b o hbw hbS ((Heap.get?_update_other _ _ (Ne.symm hbS)).trans (hk' b o hbw e))
    · simp only [decide_eq_false hb, Bool.false_eq_true, if_false]
      refine wpAny_bind (wpAny_letGo ?_)
      rw [hname]
      refine wpAny_pure ⟨plainId_quiet PySem.F.plain_min_loop _, ih (i + 1) j _ vb c (by omega) hlt (by omega) hst' hPb (fun i' hi' => ?_) hS' fun j' v' h'' tk'' q1 q2 q3 q4 => ?_⟩
      · by_cases q : i' = i
        · subst q; omega
        · exact hbest i' (by omega)
      · exact hR j' v' h'' tk'' q1 q2 q3 fun b o hbw hbS e => q4 b o hbw hbS (hk' b o hbw e)
theorem min_loopD0 (W : Walks prog w A.in1 I fp wr n P St) (val : Nat → Int) (hval : ∀ i v, P i v → ∃ t, v = .int (val i) t) (S : Addr) (hSf : S ∉ fp) {z : Shared} {c : Nat} (hst : St 0 z.heap)
    (hS : z.heap.get? S = some { cls := .type "list", dict := none, data := .seq #[] c, slots := #[] })
    (h0 : n = 0 → ∀ h' tk, (∀ b o, b ∉ wr → b ≠ S → z.heap.get? b = some o → h'.get? b = some o) → R (.ok (.ret d)) { z with heap := h', toks := tk })
    (hR : ∀ j' v h' tk, j' < n → P j' v → (∀ i', i' < n → val j' ≤ val i') → (∀ b o, b ∉ wr → b ≠ S → z.heap.get? b = some o → h'.get? b = some o) → R (.ok (.ret v)) { z with heap := h', toks := tk }) :
    codeAny (model prog w) A (.builtin "min.loop" ⟨[.ref I, .none, .ref S], [(Str.ofString "default", d)]⟩) R z := by
  have hSw : S ∉ wr := fun h => hSf (W.sub _ h)
  have hname : (toString "min" ++ toString ".loop" : String) = "min.loop" := by decide
  refine codeAny_builtin PySem.F.entry_min_loop ?_
  rw [Around.under_plainId PySem.F.plain_min_loop _]
  show wpAny _ A.in1 (seqItems? (.ref S) >>= _) _ _ z
  refine wpAny_bind (wpAny_seqItems hS rfl ?_)
  show wpAny _ A.in1 (tryCatch (pyNext (.ref I)) _ >>= _) _ _ z
  by_cases hn : n = 0
  · subst hn
    refine wpAny_bind (wpAny_tryCatch (W.done z _ _ hst fun h' tk hk' => ?_))
    show wpAny _ A.in1 (rule _ >>= fun _ => ret d) _ _ _
    exact wpAny_bind (wpAny_rule (wpAny_pure (h0 rfl h' tk fun b o hbw _ e => hk' b o hbw e)))
  · refine wpAny_bind (wpAny_tryCatch (W.item 0 z _ _ (by omega) hst fun v h' tk hP hst' hk' => ?_))
    have hS' := hk' S _ hSw hS
    show wpAny _ A.in1 (updateSeq S (fun _ => #[v, v]) >>= _) _ _ _
    refine wpAny_bind (wpAny_updateSeq hS' rfl ?_)
    rw [hname]
    refine wpAny_pure ⟨plainId_quiet PySem.F.plain_min_loop _, min_loopD W val hval S hSf _ 1 0 _ v _ rfl (by omega) (by omega) (W.frame _ _ _ hst' fun b hbf o e => ?_) hP (fun i' hi' => by
      have : i' = 0 := by omega
      subst this; exact Int.le_refl _) (Heap.get?_update_self _ hS' rfl) fun j' v' h'' tk'' q1 q2 q3 q4 => ?_⟩
    · exact (Heap.get?_update_other _ _ (fun h : S = b => hSf (by rw [h]; exact hbf))).trans e
    · exact hR j' v' h'' tk'' q1 q2 q3 fun b o hbw hbS e => q4 b o hbw hbS ((Heap.get?_update_other _ _ (Ne.symm hbS)).trans (hk' b o hbw e))
end
section
variable {X : Cx}
theorem min_defaultL (hc : X.calm = true) {pins : List (Addr × Obj)} {s : Shared} {σ : St} {H : Hp} {p : Addr} {ns : List Int} {dv : V} {du : Value} {Q : VK} (I : Inv X pins σ H s) (hq : SqL X.K H p (ns.map V.int)) (rd : RelV dv du)
    (h0 : ns = [] → Q dv H) (h1 : ∀ M, M ∈ ns → (∀ a ∈ ns, M ≤ a) → Q (.int M) H) :
    wpAny (model X.prog X.w) X.A (call (.builtin "min") [.ref p] [(Str.ofString "default", du)]) (EP X pins σ Q) X.xe s := by
  have hname : (toString "min" ++ toString ".loop" : String) = "min.loop" := by decide
  obtain ⟨its, rv, pl, hz⟩ := I.list hq
  have hi : IntsAre its ns := intsAre_of rv
  have hlen : its.length = ns.length := by rw [← rv.length, List.length_map]
  have hlt : p < s.heap.objs.size := by obtain ⟨_, e, _⟩ := pl.isList; exact Heap.lt_size e
  refine kmb_tree PySem.F.kind_min PySem.F.plain_min PySem.F.entry_min (args_minD _ _) ?_
  show wpAny _ X.A.in1 (Builtin.Builtins.bindParams "min" ["key", "default"] 0 ⟨[], [(Str.ofString "default", du)]⟩ >>= _) _ _ s
  refine wpAny_bind (wpAny_of_eq (show Builtin.Builtins.bindParams "min" ["key", "default"] 0 ⟨[], [(Str.ofString "default", du)]⟩ = pure [none, some du] from rfl) ?_)
  refine wpAny_bind (wpAny_pure ?_)
  refine wpAny_bind (wpAny_pyIter_list pl.isList ?_)
  refine wpAny_bind (wpAny_newObj_type ?_)
  rw [hname]
  have szp : (s.heap.push { cls := .type "list_iterator", data := .fields #[.ref p, .int 0 0] }).objs.size = s.heap.objs.size + 1 := Heap.size_push ..
  have W := Walks.list (prog := X.prog) (w := X.w) (A := X.A.in1) (I.ok.hd hc) s.heap.objs.size p (Nat.ne_of_lt hlt) its.toArray
  have hval : ∀ (i : Nat) (v : Value), its.toArray[i]? = some v → ∃ t, v = .int (ns.getD i 0) t := fun i v e => by
    have e' : its[i]? = some v := by simpa using e
    have hil : i < ns.length := by have := (List.getElem?_eq_some_iff.mp e').1; omega
    obtain ⟨u, hu, t, ru⟩ := rv.get (i := i) (x := V.int ns[i]) (by rw [List.getElem?_map, List.getElem?_eq_getElem hil]; rfl)
    rw [e'] at hu
    cases hu
    exact ⟨t, by rw [getD_at hil]; exact ru⟩
  refine wpAny_pure ⟨plainId_quiet PySem.F.plain_min_loop _, min_loopD0 W (fun i => ns.getD i 0) hval (s.heap.push { cls := .type "list_iterator", data := .fields #[.ref p, .int 0 0] }).objs.size (fun z => ?_) (c := 0)
    ⟨⟨_, Heap.get?_push_of_some _ (Heap.get?_push_size _ rfl), rfl, rfl⟩, (pl.isList.push _).push _⟩ (Heap.get?_push_size _ rfl) (fun hn h' tk hk => ?_) fun j v h' tk hj hP hb hk => ?_⟩
  · rw [szp] at z
    simp only [List.mem_cons, List.not_mem_nil, or_false] at z
    rcases z with z | z
    · exact absurd z (Nat.ne_of_gt (Nat.lt_succ_self _))
    · exact absurd hlt (by rw [← z]; exact Nat.not_lt.mpr (Nat.le_succ _))
  · have hns : ns = [] := by
      rw [List.size_toArray, hlen] at hn
      exact List.eq_nil_of_length_eq_zero hn
    refine ⟨dv, H, I.kept (t' := tk) fun b o e => ?_, rd, h0 hns⟩
    have hbl := Heap.lt_size e
    exact hk b o (not_here e) (by rw [szp]; exact Nat.ne_of_lt (Nat.lt_succ_of_lt hbl)) (Heap.get?_push_of_some _ (Heap.get?_push_of_some _ e))
  · rw [List.size_toArray, hlen] at hj hb
    obtain ⟨t, rfl⟩ := hval j v hP
    refine ⟨.int (ns.getD j 0), H, I.kept (t' := tk) fun b o e => ?_, ⟨t, rfl⟩, h1 _ ?_ fun a ha => ?_⟩
    · have hbl := Heap.lt_size e
      exact hk b o (not_here e) (by rw [szp]; exact Nat.ne_of_lt (Nat.lt_succ_of_lt hbl)) (Heap.get?_push_of_some _ (Heap.get?_push_of_some _ e))
    · rw [getD_at hj]
      exact List.getElem_mem hj
    · obtain ⟨i', hi', rfl⟩ := List.mem_iff_getElem.mp ha
      have z := hb i' hi'
      rw [getD_at hi'] at z
      exact z
def tminD (K : PySem.W.Frag) (ta : TA) (tk : TA) : TE := fun σ H Q => ta σ H fun vs H1 => tk σ H1 fun zs H2 => ∃ (p : Addr) (ns : List Int) (dv : V), vs = [.ref p] ∧ zs = [dv] ∧ SqL K H2 p (ns.map V.int) ∧ (ns = [] → Q dv H2) ∧ ∀ M, M ∈ ns → (∀ a ∈ ns, M ≤ a) → Q (.int M) H2
theorem pe_minD {e : Expr} {p pos : Pos} {ta tk : TA} {kws : List Keyword} (hc : X.calm = true) (hg : Gl X "min") (hm : X.mg "min" = none) (ha : PA X [e] ta) (hkw : PK X kws tk)
    (hks : (backToKw pos (keywordEach kws X.env)).filterMap (·.1) = [Str.ofString "default"] := by rfl)
    (he : backTo pos (starEach [e] X.env) = (false, eval e X.env) :: backTo pos (starEach [] X.env) := by rfl) (hpl : (backTo pos (starEach [e] X.env)).any (·.1) = false := by rfl)
    (hall : (backToKw pos (keywordEach kws X.env)).all (·.1.isSome) = true := by rfl) (hno : (backToKw pos (keywordEach kws X.env)).any (·.1.isNone) = false := by rfl) :
    PE X (.Call (.Name "min" p) [e] kws pos) (tminD X.K ta tk) := by
  intro pins s σ H Q I h
  refine wpAny_Call_Name_kw (ld_blt I hg hm boot_min ?_)
  refine PyProof.Rows.callWith_kw (thn (ha pos pins s σ H _ I h) fun us s1 ⟨vs, H1, I1, r1, q1⟩ => ?_) he hpl hall hno
  refine thn (hkw pos pins s1 σ H1 _ I1 q1) fun ws s2 ⟨zs, H2, I2, rz, q2⟩ => ?_
  obtain ⟨l, ns, dv, rfl, rfl, hq, h0, h1⟩ := q2
  obtain ⟨u, rfl, ru⟩ := vals1 r1
  obtain ⟨wv, rfl, rw'⟩ := vals1 rz
  cases ru
  rw [hks]
  exact min_defaultL hc I2 hq rw' h0 h1
end

/-! ### xs[::-1] -/
theorem sliceRange_rev (n : Nat) : sliceRange ((n : Int) - 1) (-1) (-1) = (List.range n).map fun k => n - 1 - k := by
  have e : (if (-1 : Int) > 0 then (if (n : Int) - 1 < -1 then (-1 - ((n : Int) - 1) + -1 - 1) / -1 else 0) else (if (n : Int) - 1 > -1 then ((n : Int) - 1 - -1 - -1 - 1) / (- -1) else 0)) = (n : Int) := by
    rw [if_neg (by decide)]
    by_cases h : (n : Int) - 1 > -1
    · rw [if_pos h]
      have : (- (-1 : Int)) = 1 := by decide
      rw [this, Int.ediv_one]; omega
    · rw [if_neg h]; omega
  unfold sliceRange
  simp only [e, Int.toNat_natCast]
  refine List.map_congr_left fun k hk => ?_
  have := List.mem_range.mp hk
  omega
theorem rev_pickA {α : Type} : ∀ (ks : List Nat) (xs : List α), (∀ k ∈ ks, k < xs.length) → (ks.map fun k => xs.length - 1 - k).filterMap (xs.toArray[·]?) = ks.filterMap fun k => xs.reverse[k]?
  | [], _, _ => rfl
  | k :: ks, xs, h => by
    have hk : k < xs.length := h k List.mem_cons_self
    have e : xs.toArray[xs.length - 1 - k]? = xs.reverse[k]? := by
      rw [List.getElem?_reverse hk]
      simp
    rw [List.map_cons, List.filterMap_cons, List.filterMap_cons, e, rev_pickA ks xs fun k hk => h k (List.mem_cons_of_mem _ hk)]
theorem fm_range {α : Type} (ys : List α) : (List.range ys.length).filterMap (fun k => ys[k]?) = ys := by
  induction ys with
  | nil => rfl
  | cons y ys ih =>
    rw [List.length_cons, List.range_succ_eq_map, List.filterMap_cons]
    simp only [List.getElem?_cons_zero, List.filterMap_map]
    congr 1
theorem rev_pick {α : Type} (xs : List α) : ((List.range xs.length).map fun k => xs.length - 1 - k).filterMap (xs.toArray[·]?) = xs.reverse := by
  rw [rev_pickA _ xs fun k hk => List.mem_range.mp hk]
  have e := fm_range xs.reverse
  rw [List.length_reverse] at e
  exact e
theorem slicePick_rev (its : List Value) : slicePick its.toArray none none (some (-1)) = its.reverse.toArray := by
  have e : sliceBounds none none (some (-1)) its.toArray.size = ((its.length : Int) - 1, -1, -1) := by
    simp [sliceBounds]
  unfold slicePick
  rw [e]
  show ((sliceRange ((its.length : Int) - 1) (-1) (-1)).filterMap (its.toArray[·]?)).toArray = _
  rw [sliceRange_rev, rev_pick]
section
variable {X : Cx}
def tRev (K : PySem.W.Frag) (te : TE) : TE := fun σ H Q => te σ H fun x H1 => ∃ a xs, x = .ref a ∧ SqL K H1 a xs ∧ ∀ p, H1 p = none → Q (.ref p) (upd H1 p (.lst xs.reverse))
theorem pe_rev {e : Expr} {te : TE} {j : Nat} {p1 p2 p3 pos : Pos} (he : PE X e te) : PE X (.Subscript e (.Slice none none (some (.UnaryOp .USub (.Constant (.int 1) j p1) p2)) p3) pos) (tRev X.K te) := by
  intro pins s σ H Q I h
  refine Subscript_ (thn (he pins s σ H _ I h) fun v s1 ⟨x, H1, I1, r1, q1⟩ => ?_)
  obtain ⟨a, xs, rfl, hx, q⟩ := q1
  cases r1
  refine wpAny_Slice ?_
  rw [evalPart_none]
  refine wpAny_pure (wpAny_pure ?_)
  rw [evalPart_some]
  have hm : PE X (.UnaryOp .USub (.Constant (.int 1) j p1) p2) (tUn (rU fun i => .int (-i)) (tC (.int 1))) := pe_un un_neg pe_int
  refine thn (hm pins s1 σ H1 (fun y H' => y = .int (-1) ∧ H' = H1) I1 ⟨1, rfl, rfl, rfl⟩) fun st s3 ⟨y, H3, I3, ry, ey, eh⟩ => ?_
  subst ey
  subst eh
  obtain ⟨t, rfl⟩ := ry
  have I4 : Inv X pins σ H3 { s3 with heap := s3.heap.push { cls := .type "slice", data := .fields #[.none, .none, .int (-1) t] } } := I3.kept (t' := s3.toks) fun b ob q => Heap.get?_push_of_some _ q
  obtain ⟨its, r, ht, hz⟩ := I4.list hx
  have hlen := r.length
  have hg : wpAny (model X.prog X.w) X.A (getItem (.ref a) (.ref s3.heap.objs.size)) (EP X pins σ Q) X.xe { s3 with heap := s3.heap.push { cls := .type "slice", data := .fields #[.none, .none, .int (-1) t] } } := by
    refine wpAny_getItem_list_slice ht.isList (Heap.IsSliceOf.new ..) .none .none (.int (-1) t) (by decide) ?_ (by rw [List.size_toArray] <;> omega)
    rw [slicePick_rev]
    refine ⟨.ref _, _, I4.laid (t' := s3.toks) (o := .lst xs.reverse) (fun b ob q => Heap.get?_push_of_some _ q) (Nat.le_refl _) ?_, rfl, q _ (I4.hok.fresh (Nat.le_refl _))⟩
    exact ⟨by rw [List.length_reverse]; exact hz, its.reverse, 0, r.reverse, Heap.get?_push_size _ rfl⟩
  show wpAny (model X.prog X.w) X.A (subscriptTail e (.Slice none none (some (.UnaryOp .USub (.Constant (.int 1) j p1) p2)) p3) (.ref a) (.ref s3.heap.objs.size)) (EP X pins σ Q) X.xe { s3 with heap := s3.heap.push { cls := .type "slice", data := .fields #[.none, .none, .int (-1) t] } }
  exact tail_any (ops := [.ref a, .ref s3.heap.objs.size]) ht.isList.typeIs slot_list_getitem.lookup hg (by with_unfolding_all rfl)
end

/-! ### == and != of lists and tuples, as deep as need be -/
inductive EqR (K : PySem.W.Frag) (H : Hp) : Nat → V → V → Bool → Prop where
  | flat {n : Nat} {x y : V} (hx : flatV x = true) (hy : flatV y = true) : EqR K H n x y (eqV x y)
  | same {n : Nat} (a : Addr) : EqR K H n (.ref a) (.ref a) true
  | lst {n : Nat} {a b : Addr} {xs ys : List V} (e : Nat → Bool) (hne : a ≠ b) (ha : SqL K H a xs) (hb : SqL K H b ys) (hl : xs.length = ys.length) (h : ∀ (j : Nat) x y, xs[j]? = some x → ys[j]? = some y → EqR K H n x y (e j)) :
      EqR K H (n + 1) (.ref a) (.ref b) ((List.range xs.length).all e)
  | tup {n : Nat} {a b : Addr} {xs ys : List V} (e : Nat → Bool) (hne : a ≠ b) (ha : SqT K H a xs) (hb : SqT K H b ys) (hl : xs.length = ys.length) (h : ∀ (j : Nat) x y, xs[j]? = some x → ys[j]? = some y → EqR K H n x y (e j)) :
      EqR K H (n + 1) (.ref a) (.ref b) ((List.range xs.length).all e)
section
variable {X : Cx} {pins : List (Addr × Obj)} {σ : St} {H : Hp} {s : Shared}
theorem EqR.items {n : Nat} {xs ys : List V} {its its2 : List Value} {e : Nat → Bool} {A : Around} (r1 : Vals xs its) (r2 : Vals ys its2) (h : ∀ (j : Nat) x y u v, xs[j]? = some x → ys[j]? = some y → RelV x u → RelV y v → SeqAt.EqAt A s u v (e j)) :
    ∀ j (h1 : j < its.toArray.size) (h2 : j < its2.toArray.size), SeqAt.EqAt A s its.toArray[j] its2.toArray[j] (e j) := fun j h1 h2 => by
  rw [List.size_toArray] at h1 h2
  have l1 : j < xs.length := by rw [r1.length]; exact h1
  have l2 : j < ys.length := by rw [r2.length]; exact h2
  obtain ⟨u, hu, ru⟩ := r1.get (i := j) (x := xs[j]) (List.getElem?_eq_getElem l1)
  obtain ⟨v, hv, rv⟩ := r2.get (i := j) (x := ys[j]) (List.getElem?_eq_getElem l2)
  have e1 : its.toArray[j] = u := by
    rw [List.getElem?_eq_getElem h1] at hu
    simpa using hu
  have e2 : its2.toArray[j] = v := by
    rw [List.getElem?_eq_getElem h2] at hv
    simpa using hv
  rw [e1, e2]
  exact h j _ _ u v (List.getElem?_eq_getElem l1) (List.getElem?_eq_getElem l2) ru rv
theorem EqR.at {n : Nat} {x y : V} {b : Bool} (h : EqR X.K H n x y b) (I : Inv X pins σ H s) : ∀ {A : Around} {u v : Value}, A.units + n < cLine → RelV x u → RelV y v → SeqAt.EqAt A s u v b := by
  induction h with
  | flat hx hy => intro A u v _ ru rv; exact eqAt_V ru rv hx hy
  | same a => intro A u v _ ru rv; cases ru; cases rv; exact SeqAt.EqAt.same _
  | @lst n a b xs ys e hne ha hb hl _ ih =>
    intro A u v hu ru rv
    cases ru
    cases rv
    obtain ⟨its, r1, p1, _⟩ := I.list ha
    obtain ⟨its2, r2, p2, _⟩ := I.list hb
    have hsz : its.toArray.size = its2.toArray.size := by rw [List.size_toArray, List.size_toArray, ← r1.length, ← r2.length]; exact hl
    have z := SeqAt.RcAt.lists (A := A) (e := e) p1.isList p2.isList hsz (by omega) (EqR.items (n := n) r1 r2 fun j x y u v e1 e2 q1 q2 => ih j x y e1 e2 (by show A.units + 1 + n < cLine; omega) q1 q2)
    rw [List.size_toArray, ← r1.length] at z
    exact SeqAt.EqAt.of_refs hne z
  | @tup n a b xs ys e hne ha hb hl _ ih =>
    intro A u v hu ru rv
    cases ru
    cases rv
    obtain ⟨its, r1, p1, _⟩ := I.tuple ha
    obtain ⟨its2, r2, p2, _⟩ := I.tuple hb
    have z := SeqAt.RcAt.tuples (A := A) (e := e) p1 p2 (by omega) (EqR.items (n := n) r1 r2 fun j x y u v e1 e2 q1 q2 => ih j x y e1 e2 (by show A.units + 1 + n < cLine; omega) q1 q2)
    have e1 : its.toArray.size = xs.length := by rw [List.size_toArray, r1.length]
    have e2 : its2.toArray.size = xs.length := by rw [List.size_toArray, ← r2.length, hl]
    rw [e1, e2, Nat.min_self, beq_self_eq_true, Bool.and_true] at z
    exact SeqAt.EqAt.of_refs hne z
structure EqL (K : PySem.W.Frag) (H : Hp) (n : Nat) (x y : V) (b : Bool) : Prop where
  ex : ∃ (a c : Addr) (xs ys : List V) (e : Nat → Bool), x = .ref a ∧ y = .ref c ∧ SqL K H a xs ∧ SqL K H c ys ∧ xs.length = ys.length ∧ (∀ (j : Nat) x y, xs[j]? = some x → ys[j]? = some y → EqR K H n x y (e j)) ∧ b = (List.range xs.length).all e
structure EqT (K : PySem.W.Frag) (H : Hp) (n : Nat) (x y : V) (b : Bool) : Prop where
  ex : ∃ (a c : Addr) (xs ys : List V) (e : Nat → Bool), x = .ref a ∧ y = .ref c ∧ SqT K H a xs ∧ SqT K H c ys ∧ xs.length = ys.length ∧ (∀ (j : Nat) x y, xs[j]? = some x → ys[j]? = some y → EqR K H n x y (e j)) ∧ b = (List.range xs.length).all e
theorem op_eqL (hu : X.A.units + 64 < cLine) : OpR X (compareOp .Eq) (fun x y H Q => ∃ n b, n ≤ 60 ∧ EqL X.K H n x y b ∧ Q (.bl b) H) := by
  intro pins s σ H x y v u Q I rx ry h
  obtain ⟨n, b, hn, ⟨a, c, xs, ys, e, rfl, rfl, ha, hb, hl, he, rfl⟩, q⟩ := h
  cases rx
  cases ry
  obtain ⟨its, r1, p1, _⟩ := I.list ha
  obtain ⟨its2, r2, p2, _⟩ := I.list hb
  have hsz : its.toArray.size = its2.toArray.size := by rw [List.size_toArray, List.size_toArray, ← r1.length, ← r2.length]; exact hl
  refine SeqAt.eq_listAt (e := e) p1.isList p2.isList hsz (by omega) (EqR.items (n := n) r1 r2 fun j x y u v e1 e2 q1 q2 => (he j x y e1 e2).at I (by show X.A.units + 1 + n < cLine; omega) q1 q2) ?_
  rw [List.size_toArray, ← r1.length]
  exact ⟨.bl _, H, I, rfl, q⟩
theorem op_neL (hu : X.A.units + 64 < cLine) : OpR X (compareOp .NotEq) (fun x y H Q => ∃ n b, n ≤ 60 ∧ EqL X.K H n x y b ∧ Q (.bl (!b)) H) := by
  intro pins s σ H x y v u Q I rx ry h
  obtain ⟨n, b, hn, ⟨a, c, xs, ys, e, rfl, rfl, ha, hb, hl, he, rfl⟩, q⟩ := h
  cases rx
  cases ry
  obtain ⟨its, r1, p1, _⟩ := I.list ha
  obtain ⟨its2, r2, p2, _⟩ := I.list hb
  have hsz : its.toArray.size = its2.toArray.size := by rw [List.size_toArray, List.size_toArray, ← r1.length, ← r2.length]; exact hl
  refine SeqAt.RcNeAt.lists (e := e) p1.isList p2.isList hsz (by omega) (EqR.items (n := n) r1 r2 fun j x y u v e1 e2 q1 q2 => (he j x y e1 e2).at I (by show X.A.units + 1 + n < cLine; omega) q1 q2) X.prog X.w X.xe _ ?_
  rw [List.size_toArray, ← r1.length]
  exact ⟨.bl _, H, I, rfl, q⟩
theorem EqR.of_same {K : PySem.W.Frag} {H : Hp} {n : Nat} {x : V} (h : flatV x = true ∨ ∃ a, x = .ref a) : EqR K H n x x true := by
  rcases h with h | ⟨a, rfl⟩
  · have e : eqV x x = true := by
      cases x with
      | non => rfl
      | bl b => simp [eqV]
      | int i => simp [eqV]
      | str z => simp [eqV]
      | _ => cases h
    have z := EqR.flat (K := K) (H := H) (n := n) h h
    rw [e] at z
    exact z
  · exact .same a
theorem all_true (n : Nat) : ((List.range n).all fun _ => true) = true := by
  rw [List.all_eq_true]
  intro x _
  rfl
theorem EqR.copies {K : PySem.W.Frag} {H : Hp} {n : Nat} {a b : Addr} {xs : List V} (hne : a ≠ b) (ha : SqL K H a xs) (hb : SqL K H b xs) (h : ∀ x ∈ xs, flatV x = true ∨ ∃ a, x = .ref a) : EqR K H (n + 1) (.ref a) (.ref b) true := by
  have z := EqR.lst (n := n) (fun _ => true) hne ha hb rfl fun j x y e1 e2 => by
    rw [e1] at e2
    cases e2
    exact EqR.of_same (h x (List.mem_of_getElem? e1))
  rw [all_true] at z
  exact z
end

/-! ### products of great ints, // by great ones -/
section
variable {X : Cx}
theorem op_mulB : OpR X (binaryOp .Mult) (rI IntMulOk fun i j => .int (i * j)) := opI fun _ _ _ _ _ _ _ hc q => mul_int q hc
def CDivB (i j : Int) : Prop := 0 < j ∧ j < 2 ^ 128
theorem op_fdivB : OpR X (binaryOp .FloorDiv) (rI CDivB fun i j => .int (i / j)) := opI fun i j _ _ _ _ _ hc q => by
  have h1 : (0 : Int) < j := hc.1
  have h2 : j < 2 ^ 128 := hc.2
  refine floordiv_int (Int.ne_of_gt h1) ?_ (.inl (PyProof.noPylong_of_log2 ?_))
  · rw [Int.fdiv_eq_ediv_of_nonneg _ (Int.le_of_lt h1)]
    exact q
  · have hj : j.natAbs < 2 ^ 128 := by omega
    have := (Nat.log2_lt (show j.natAbs ≠ 0 by omega)).mpr hj
    omega
end
end L2

set_option Elab.async false
set_option linter.all false
set_option maxRecDepth 100000
set_option maxHeartbeats 4000000
namespace Att
open PySem PySem.W PySem.Calls PyProof.Rows
theorem weight_mem {n : Int} : ∀ {ns : List Int}, n ∈ ns → Builtin.Int.intBits n ≤ WData.weightAll (ns.map WData.int)
  | [], h => by cases h
  | m :: ns, h => by
    rw [List.map_cons, WData.weightAll]
    rcases List.mem_cons.mp h with rfl | h
    · have e : WData.weight (WData.int n) = Builtin.Int.intBits n := by
        rw [WData.weight]
        first | rfl | (unfold Builtin.Int.intBits; rfl) | (unfold Builtin.Int.intBits; split <;> split <;> first | rfl | simp_all)
      omega
    · have := weight_mem (n := n) h
      omega
theorem bits_of_lay {ns : List Int} (h : WData.layableAll [WData.list (ns.map WData.int)] = true) : ∀ n ∈ ns, Builtin.Int.intBits n ≤ 1048576 := fun n hn => by
  have h1 : (WData.list (ns.map WData.int)).layable = true := List.all_eq_true.mp h _ (List.mem_singleton.mpr rfl)
  have h2 : WData.weight (WData.list (ns.map WData.int)) ≤ 2 ^ 20 := of_decide_eq_true (Bool.and_eq_true_iff.mp h1).2
  rw [WData.weight] at h2
  have h3 := weight_mem hn
  exact Nat.le_trans h3 h2
theorem attach_bits {l : OpenLaw} {n : Nat} {q : Program} {loose : List Str} {XP : (Str → Option Value) → Heap → Prop} {YP : World → Heap → Prop} {d : DefRec}
    (hn : l.most = some n) (hdf : d.params.defaults = [])
    (go : ∀ (w : World) (s₀ s₁ : Shared) (mg mb : Str → Option Value) (fa a : Addr) (vs : List Value) (ns : List Int), Ground q loose [] XP w s₀ mg mb s₁.heap → YP w s₁.heap → mg d.name = some (.ref fa) →
      s₁.heap.get? a = some { cls := .type "list", data := .seq vs.toArray } → IntsAre vs ns → ns.length ≤ n → s₁.gens = #[] → (∀ m ∈ ns, Builtin.Int.intBits m ≤ 1048576) →
      codeAny (model l.prog w) callerA (.call (.ref fa) ⟨[.ref a], []⟩) (fun r s' => r = .ok (.ret (.bool true)) ∧ OldK s₁.heap s'.heap ∧ s'.os = s₁.os ∧ AllBare s'.gens) s₁) :
    WalkO q loose XP YP l.row.toRowW d [] (fun f vs => PySem.call f vs) := by
  intro w s₀ s₁ mg mb G Y fa o pm cd doc dV kV ho hd hcd hD hmg hg args vals as hpre hlay hrd hwl hlo
  obtain rfl : dV = .none := Dflts.none hD hdf
  obtain rfl : kV = .none := Dflts.noKw hD
  obtain ⟨a, vs, ns, rfl, rfl, hobj, hints, hlen⟩ := script_of hn hpre hwl
  refine enter_call (codeAny_mono (go w s₀ s₁ mg mb fa a vs ns G Y hmg hobj hints hlen hg (bits_of_lay hlay)) fun r s' hq => ?_)
  obtain ⟨rfl, h2, h3, h4⟩ := hq
  exact ⟨.inl ⟨.bool true, .bool true, [], rfl, fun _ => rfl, .bool true, post_true l _, fun _ => ⟨List.Pairwise.nil, fun _ hm => (nomatch hm)⟩⟩, h2, h3, h4⟩
end Att
namespace L2
open PySem PySem.Spec PySem.Calls PyProof.Rows
theorem walk_bits {l : PySem.W.OpenLaw} {n k : Nat} {q : Program} {loose : List Str} {XP : (Str → Option Value) → Heap → Prop} {YP : World → Heap → Prop} {d : DefRec} {K : Params → PySem.W.Frag} {CX : CXT} {sp : PySem.W.Frag → Sp} {x : Str}
    (hn : l.most = some n) (hn2 : n ≤ sizeLine) (hdf : d.params.defaults = []) (hr : Room k callerA)
    (hY : ∀ (w : World) (h : Heap), YP w h → (K w.params).In h)
    (F : ∀ (w : World) (mg : Str → Option Value) (fa : Addr) (h : Heap), (K w.params).In h → h.Ns mainGlobals mg → mg d.name = some (.ref fa) →
      ∃ fd : FuncData, (∀ (s : Shared) (u : Value), BindsTo s fd ⟨[u], []⟩ [(x, u)]) ∧ ∀ base : Heap, (K w.params).In base → base.Ns mainGlobals mg → FnOk l.prog w (K w.params) mg base CX k fa fd [x] (sp (K w.params)))
    (hsp : ∀ (K : PySem.W.Frag) (H : Hp) (a : Addr) (ns : List Int), ns.length ≤ n → (∀ m ∈ ns, Builtin.Int.intBits m ≤ 1048576) → Only H → SqL K H a (ns.map V.int) → sp K [.ref a] H (fun v _ => v = .bl true) fun _ _ _ => False)
    (hCX : ∀ (H : Hp) (s : Shared) (e : Value) (s' : Shared), CX [] H s (fun _ _ _ => False) e s' → False) :
    PySem.W.WalkO q loose XP YP l.row.toRowW d [] (fun f vs => PySem.call f vs) := by
  refine Att.attach_bits hn hdf fun w s₀ s₁ mg mb fa a vs ns G Y hmg hobj hints hlen hg hb => ?_
  have KX := hY w _ Y
  obtain ⟨fd, hbi, hF⟩ := F w mg fa _ KX G.T.g hmg
  exact law_call KX G.T.g G.T.b G.T.builtins G.T.nolimit hg hobj hints (Nat.le_trans hlen hn2) hr hF hbi (fun H hO hS => hsp _ H a ns hlen hb hO hS) fun H e s' => hCX H s₁ e s'

/-! ### a def of the module with its promise, all in one -/
structure FnA (P : Program) (w : World) (K : PySem.W.Frag) (mg : Str → Option Value) (base : Heap) (x : Str) (ps : List Str) (k : Nat) (sp : Sp) : Prop where
  ex : ∃ f fd, FnOk P w K mg base CX0 k f fd ps sp ∧ Binds K fd ps [] ∧ PySem.W.keepIn K (.ref f) = true ∧ mg x = some (.ref f)
section
variable {X : Cx} {x : Str} {ps : List Str} {k : Nat} {sp : Sp} {e : Expr} {es : List Expr} {t : TA} {p pos : Pos}
theorem pe_callA (F : FnA X.prog X.w X.K X.mg X.base x ps k sp) (hr : Room k X.A) (hg : Gl X x) (ha : PA X (e :: es) t) (hdb : (x == ("__debug__" : Str)) = false := by decide)
    (he : starEach (e :: es) X.env = (false, eval e X.env) :: starEach es X.env := by rfl) (hpl : (backTo pos (starEach es X.env)).any (·.1) = false := by rfl) : PE X (.Call (.Name x p) (e :: es) [] pos) (tCall sp [] E0 t) := by
  obtain ⟨f, fd, G, b, kp, m⟩ := F.ex
  exact pe_call G hr hg m kp b .nil pass0 ha hdb he hpl
end
structure DefAt (K : PySem.W.Frag) (mg : Str → Option Value) (x : Str) (st : Stmt) (ps : List Str) : Prop where
  ex : ∃ f fd, Fun K x x st f fd ∧ Binds K fd ps [] ∧ mg x = some (.ref f)
theorem DefAt.fnA {P : Program} {w : World} {K : PySem.W.Frag} {mg : Str → Option Value} {base : Heap} {x : Str} {st : Stmt} {ps : List Str} {k : Nat} {sp : Sp} (D : DefAt K mg x st ps)
    (h : ∀ f fd, Fun K x x st f fd → FnOk P w K mg base CX0 k f fd ps sp) : FnA P w K mg base x ps k sp := by
  obtain ⟨f, fd, F, b, m⟩ := D.ex
  exact ⟨f, fd, h f fd F, b, F.kp, m⟩
theorem defAt_mk {K : PySem.W.Frag} {h : Heap} {mg : Str → Option Value} {x : Str} {st : Stmt} {ps : List Str} {f : Addr} {oc : Value} {od an : Option Addr} {osl : Array (Option Value)} {kV doc pm cdv ct : Value} (X : K.In h) (G : h.Ns mainGlobals mg)
    (hb : ∀ (kV doc pm : Value) (an : Option Addr) (cdv ct : Value) (us : List Value), us.length = ps.length → bindArgs (PySem.W.fnOf x x (defArgs st) (defBody st) (defScope st) .none kV doc pm an cdv ct) ⟨us, []⟩ = pure (ps.zip us))
    (a : PySem.W.nsIn K mainGlobals x = some (some (.ref f))) (l : K.lookup f = some ⟨oc, od, .func (PySem.W.fnOf x x (defArgs st) (defBody st) (defScope st) .none kV doc pm an cdv ct), osl⟩) (c : PySem.W.codeIn K cdv x = true) (k : PySem.W.keepIn K (.ref f) = true) :
    DefAt K mg x st ps := by
  have F := fun_mk (st := st) l c k
  exact ⟨f, _, F, F.binds hb, PySem.W.mg_of X G a⟩
/-! ### heaps -/
theorem same_new {H : Hp} {p : Addr} (h : H p = none) (o : HO) : Same H (upd H p o) := fun b u q => by rw [upd_ne (ne_of_none q h)]; exact q
theorem Same.new {H H' : Hp} (s : Same H H') {p : Addr} (h : H' p = none) (o : HO) : Same H (upd H' p o) := s.trans (same_new h o)
theorem Same.at {H H' : Hp} (s : Same H H') {p : Addr} {o : HO} (h : H p = some o) : H' p = some o := s p o h
end L2

set_option Elab.async false
set_option linter.all false
set_option maxRecDepth 100000
set_option maxHeartbeats 4000000
namespace L2
open PySem PySem.Spec PySem.Calls PyProof.Rows
/-! ### more built-ins -/
theorem boot_revT : bootBuiltins "reversed" = some (.type "reversed") := by decide +kernel
section
variable {X : Cx}
theorem PE.or {e : Expr} {t t' : TE} (h : PE X e t) (h' : PE X e t') : PE X e (fun σ H Q => t σ H Q ∨ t' σ H Q) := by
  intro pins s σ H Q I hw
  rcases hw with z | z
  · exact h pins s σ H Q I z
  · exact h' pins s σ H Q I z
/-! ### is, is not, of truths -/
/-! ### chains of three -/
variable {a b c d : Expr} {ta tb tc td : TE} {pos : Pos}
/-! ### == of lists of unlike lengths -/
theorem op_eqLn (hu : X.A.units + 64 < cLine) : OpR X (compareOp .Eq) (fun x y H Q => ∃ (p q' : Addr) (xs ys : List V), x = .ref p ∧ y = .ref q' ∧ SqL X.K H p xs ∧ SqL X.K H q' ys ∧ xs.length ≠ ys.length ∧ Q (.bl false) H) := by
  intro pins s σ H x y v u Q I rx ry h
  obtain ⟨p, q', xs, ys, rfl, rfl, ha, hb, hl, q⟩ := h
  cases rx
  cases ry
  obtain ⟨its, r1, p1, _⟩ := I.list ha
  obtain ⟨its2, r2, p2, _⟩ := I.list hb
  have hsz : (its.toArray.size != its2.toArray.size) = true := by rw [List.size_toArray, List.size_toArray, ← r1.length, ← r2.length]; simpa using hl
  exact SeqAt.eq_list_lengthsAt p1.isList p2.isList hsz (by omega) ⟨.bl false, H, I, rfl, q⟩
theorem op_neLn (hu : X.A.units + 64 < cLine) : OpR X (compareOp .NotEq) (fun x y H Q => ∃ (p q' : Addr) (xs ys : List V), x = .ref p ∧ y = .ref q' ∧ SqL X.K H p xs ∧ SqL X.K H q' ys ∧ xs.length ≠ ys.length ∧ Q (.bl true) H) := by
  intro pins s σ H x y v u Q I rx ry h
  obtain ⟨p, q', xs, ys, rfl, rfl, ha, hb, hl, q⟩ := h
  cases rx
  cases ry
  obtain ⟨its, r1, p1, _⟩ := I.list ha
  obtain ⟨its2, r2, p2, _⟩ := I.list hb
  have hsz : (its.toArray.size != its2.toArray.size) = true := by rw [List.size_toArray, List.size_toArray, ← r1.length, ← r2.length]; simpa using hl
  exact SeqAt.RcNeAt.lists_lengths p1.isList p2.isList hsz (by omega) X.prog X.w X.xe _ ⟨.bl true, H, I, rfl, q⟩
theorem range_eq {ns ms : List Int} (h : ns.length = ms.length) : ((List.range (ns.map V.int).length).all fun j => eqV ((ns.map V.int).getD j .non) ((ms.map V.int).getD j .non)) = decide (ns = ms) := by
  rw [Bool.eq_iff_iff, List.all_eq_true, decide_eq_true_iff]
  constructor
  · intro hh
    refine List.ext_getElem h fun j h1 h2 => ?_
    have z := hh j (by rw [List.mem_range, List.length_map]; exact h1)
    simp [h1, h2, eqV] at z
    exact z
  · rintro rfl j hj
    rw [List.mem_range, List.length_map] at hj
    simp [hj, eqV]
theorem EqL.ints {K : PySem.W.Frag} {H : Hp} {n : Nat} {p q : Addr} {ns ms : List Int} (ha : SqL K H p (ns.map V.int)) (hb : SqL K H q (ms.map V.int)) (h : ns.length = ms.length) : EqL K H n (.ref p) (.ref q) (decide (ns = ms)) := by
  refine ⟨p, q, _, _, fun j => eqV ((ns.map V.int).getD j .non) ((ms.map V.int).getD j .non), rfl, rfl, ha, hb, by rw [List.length_map, List.length_map, h], fun j x y e1 e2 => ?_, (range_eq h).symm⟩
  dsimp only
  rw [List.getD_eq_getElem?_getD, List.getD_eq_getElem?_getD, e1, e2]
  refine .flat ?_ ?_
  · rw [List.getElem?_map] at e1
    cases z : ns[j]? with
    | none => rw [z] at e1; cases e1
    | some _ => rw [z] at e1; cases e1; rfl
  · rw [List.getElem?_map] at e2
    cases z : ms[j]? with
    | none => rw [z] at e2; cases e2
    | some _ => rw [z] at e2; cases e2; rfl
def rLI (K : PySem.W.Frag) (f : Bool → Bool) : R2 := fun x y H Q => ∃ (p q' : Addr) (ns ms : List Int), x = .ref p ∧ y = .ref q' ∧ SqL K H p (ns.map V.int) ∧ SqL K H q' (ms.map V.int) ∧ Q (.bl (f (decide (ns = ms)))) H
theorem op_eqLI (hu : X.A.units + 64 < cLine) : OpR X (compareOp .Eq) (rLI X.K id) := by
  intro pins s σ H x y v u Q I rx ry h
  obtain ⟨p, q', ns, ms, rfl, rfl, ha, hb, q⟩ := h
  by_cases hl : ns.length = ms.length
  · exact op_eqL hu pins s σ H _ _ v u Q I rx ry ⟨0, _, by decide, EqL.ints ha hb hl, q⟩
  · have e : decide (ns = ms) = false := decide_eq_false fun z => hl (by rw [z])
    rw [e] at q
    exact op_eqLn hu pins s σ H _ _ v u Q I rx ry ⟨p, q', _, _, rfl, rfl, ha, hb, by rw [List.length_map, List.length_map]; exact hl, q⟩
/-! ### reversed(xs) in a loop's head -/
end
def Itv (K : PySem.W.Frag) (a : Addr) (n : Nat) : It :=
  ⟨fun i H => i < n ∧ ∃ xs, SqL K H a xs ∧ xs.length = n, fun i H x H' => H' = H ∧ ∀ xs, SqL K H a xs → xs[n - 1 - i]? = some x, fun i _ => i = n⟩
theorem turn_rev {P : Program} {w : World} {K : PySem.W.Frag} {tg : Expr} (a it : Addr) (n : Nat) : Turn P w K tg (Itv K a n) [it] it (fun i h => h.IsRevIter it a ((n : Int) - 1 - (i : Int))) where
  mem := by simp
  obj := fun i h st b hb => by
    have e : b = it := by simpa using hb
    subst e
    obtain ⟨o, e, c, d⟩ := st
    exact ⟨o, e, fun v z => by rw [d] at z; cases z⟩
  keep := fun i h h' st k => st.at fun o e => k it (by simp) o e
  item := by
    intro X hP hw hK hc i pins s σ H E I hf st hg
    subst hP hw hK
    obtain ⟨hi, xs, hq, hn⟩ := hg
    have hx : xs[n - 1 - i]? = some (xs[n - 1 - i]'(by omega)) := List.getElem?_eq_getElem (by omega)
    obtain ⟨its, rv, p, hz⟩ := I.list hq
    obtain ⟨u, hu, ru⟩ := rv.get hx
    obtain ⟨f0, f1, f2, f3, f4, f5⟩ := hf it (by simp)
    have e : (n : Int) - 1 - (i : Int) = ((n - 1 - i : Nat) : Int) := by omega
    rw [e] at st
    refine wpAny_pyNext_rev_item st p.isList (x := u) (by simpa using hu) fun h' st' sb => ?_
    have I1 : Inv X pins σ H { s with heap := h' } := I.turned (t' := s.toks) (fun b o hb e => (sb.2 b hb).trans e) f0 f1 f3 f4 f5
    obtain ⟨o, e', c, d⟩ := id st'
    have e2 : ((n - 1 - i : Nat) : Int) - 1 = (n : Int) - 1 - ((i + 1 : Nat) : Int) := by omega
    rw [e2] at st'
    exact ⟨u, rfl, go_of (s := { s with heap := h' }) e' c d (by decide) ⟨_, H, I1, ru, ⟨rfl, fun ys hy => by rw [I.list_inj hy hq]; exact hx⟩, st', fun b hb => (hf b hb).1⟩⟩
  done := by
    intro X hP hw hK hc i pins s σ H E I hf st hg
    subst hP hw hK
    obtain ⟨f0, f1, f2, f3, f4, f5⟩ := hf it (by simp)
    have hg' : i = n := hg
    subst hg'
    have e : (i : Int) - 1 - (i : Int) = -1 := by omega
    rw [e] at st
    exact wpAny_pyNext_rev_end (I.ok.hd hc) st fun h' eb => ⟨rfl, I.turned (t' := s.toks) (fun b o hb e => eb b o hb e) f0 f1 f3 f4 f5⟩
  self := fun _ _ _ _ _ st h => wpAny_pyIter_revIter st h
section
variable {X : Cx} {tg : Expr}
def iRev (K : PySem.W.Frag) (ta : TA) : TI := fun σ H R => ta σ H fun vs H1 => ∃ a xs, vs = [.ref a] ∧ SqL K H1 a xs ∧ R (Itv K a xs.length) H1
theorem pi_rev {a : Expr} {ta : TA} {p pos : Pos} (hg : Gl X "reversed") (hm : X.mg "reversed" = none) (ha : PA X [a] ta) (hs : starEach [a] X.env = [(false, eval a X.env)] := by rfl) :
    PI X tg (.Call (.Name "reversed" p) [a] [] pos) (iRev X.K ta) := by
  intro pins s σ H R I h
  refine Call_ (ld_blt I hg hm boot_revT (PyProof.Rows.callWith_type1 (thn (ha pos pins s σ H _ I h) fun us s1 ⟨vs, H1, I1, r1, q1⟩ => ?_) hs rfl))
  obtain ⟨l1, xs, e, hq1, q⟩ := q1
  subst e
  cases r1 with
  | cons ra rr =>
    cases rr
    cases ra
    obtain ⟨its1, rv1, p1, _⟩ := I1.list hq1
    refine call_reversed_list p1.isList ?_
    have hit : (s1.heap.push (revObj l1 ((its1.toArray.size : Int) - 1))).IsRevIter s1.heap.objs.size l1 ((xs.length : Int) - 1 - ((0 : Nat) : Int)) := by
      refine ⟨_, Heap.get?_push_size _ rfl, rfl, ?_⟩
      show Data.fields #[.ref l1, rawInt ((its1.toArray.size : Int) - 1)] = _
      rw [List.size_toArray, ← rv1.length]
      congr 3
      simp
    refine wpAny_pyIter_revIter hit ⟨s1.heap.objs.size, [s1.heap.objs.size], _, _, H1, rfl, I1.kept (t' := s1.toks) fun b o e => Heap.get?_push_of_some _ e, turn_rev l1 _ xs.length, hit, fun c hc => ?_, q⟩
    have e : c = s1.heap.objs.size := by simpa using hc
    subst e
    exact I1.fpOk (Nat.le_refl _) (I1.hok.fresh (Nat.le_refl _))
end
theorem for_rev {K : PySem.W.Frag} {a : Addr} {xs : List V} {g : TG} {tb : TS} {D : Ends} {σ : St} {H : Hp} (Pv : Nat → St → Hp → Prop) (h0 : Pv 0 σ H) (hl : ∀ i σ H, i ≤ xs.length → Pv i σ H → SqL K H a xs)
    (hs : ∀ i x σ H, i < xs.length → xs[xs.length - 1 - i]? = some x → Pv i σ H → g x σ H fun σ2 H2 => tb { D with nx := Pv (i + 1), ct := Pv (i + 1), bk := D.nx } σ2 H2) (hd : ∀ σ H, Pv xs.length σ H → D.nx σ H) :
    ∃ W : Nat → Nat → St → Hp → Prop, (∃ m, W 0 m σ H) ∧ ∀ i m σ H, W i m σ H →
      ((Itv K a xs.length).stop i H ∧ D.nx σ H) ∨ ((Itv K a xs.length).go i H ∧ ∃ N : St → Hp → Prop, (∀ σ' H', N σ' H' → ∃ m', m' < m ∧ W (i + 1) m' σ' H') ∧ ∀ x H', (Itv K a xs.length).yld i H x H' → g x σ H' fun σ2 H2 => tb { D with nx := N, ct := N, bk := D.nx } σ2 H2) := by
  refine ⟨fun i m σ H => m = xs.length - i ∧ i ≤ xs.length ∧ Pv i σ H, ⟨xs.length, by simp, Nat.zero_le _, h0⟩, ?_⟩
  rintro i m σ H ⟨rfl, hi, p⟩
  have q := hl i σ H hi p
  by_cases hlt : i < xs.length
  · refine .inr ⟨⟨hlt, xs, q, rfl⟩, Pv (i + 1), fun σ' H' p' => ⟨xs.length - (i + 1), by omega, rfl, hlt, p'⟩, fun x H' y => ?_⟩
    obtain ⟨e, y⟩ := y
    subst e
    exact hs i x σ _ hlt (y xs q) p
  · have e : i = xs.length := by omega
    subst e
    exact .inl ⟨rfl, hd σ H p⟩
theorem for_zip {K : PySem.W.Frag} {a b : Addr} {xs zs : List V} {g : TG} {tb : TS} {D : Ends} {σ : St} {H : Hp} (hlen : xs.length = zs.length) (Pv : Nat → St → Hp → Prop) (h0 : Pv 0 σ H) (hl : ∀ i σ H, i ≤ xs.length → Pv i σ H → SqL K H a xs ∧ SqL K H b zs)
    (hs : ∀ (i : Nat) x z σ H p, xs[i]? = some x → zs[i]? = some z → Pv i σ H → H p = none → g (.ref p) σ (upd H p (.tup [x, z])) fun σ2 H2 => tb { D with nx := Pv (i + 1), ct := Pv (i + 1), bk := D.nx } σ2 H2) (hd : ∀ σ H, Pv xs.length σ H → D.nx σ H) :
    ∃ W : Nat → Nat → St → Hp → Prop, (∃ m, W 0 m σ H) ∧ ∀ i m σ H, W i m σ H →
      ((Itz K a b).stop i H ∧ D.nx σ H) ∨ ((Itz K a b).go i H ∧ ∃ N : St → Hp → Prop, (∀ σ' H', N σ' H' → ∃ m', m' < m ∧ W (i + 1) m' σ' H') ∧ ∀ x H', (Itz K a b).yld i H x H' → g x σ H' fun σ2 H2 => tb { D with nx := N, ct := N, bk := D.nx } σ2 H2) := by
  refine ⟨fun i m σ H => m = xs.length - i ∧ i ≤ xs.length ∧ Pv i σ H, ⟨xs.length, by simp, Nat.zero_le _, h0⟩, ?_⟩
  rintro i m σ H ⟨rfl, hi, p⟩
  obtain ⟨q1, q2⟩ := hl i σ H hi p
  by_cases hlt : i < xs.length
  · have hlt2 : i < zs.length := by omega
    refine .inr ⟨⟨xs, zs, xs[i], zs[i], q1, q2, by simp [hlt], by simp [hlt2]⟩, Pv (i + 1), fun σ' H' p' => ⟨xs.length - (i + 1), by omega, rfl, hlt, p'⟩, fun x H' y => ?_⟩
    obtain ⟨pp, xx, zz, hp, rfl, rfl, hx, hy⟩ := y
    exact hs i xx zz σ H pp (hx xs q1) (hy zs q2) p hp
  · have e : i = xs.length := by omega
    subst e
    exact .inl ⟨⟨xs, zs, q1, q2, .inl (Nat.le_refl _)⟩, hd σ H p⟩
/-! ### a def's closure of several cells, one of them used -/
/-! ### own classes, by name -/
structure ClsA (K : PySem.W.Frag) (mg : Str → Option Value) (x : Str) (C : Addr) : Prop where
  cl : Cls K C
  at_ : mg x = some (.ref C)
  ha : PySem.W.findIn K (.ref C) "__class__" = some (some (.builtin "object.__class__"))
  hn : PySem.W.specialIn K (.builtin "object.__class__") "__get__" = some (some (.builtin "getset_descriptor.__get__"))
  htk : PySem.W.takesIn K (.builtin "object.__class__") = some true
  hm : PySem.W.mroIn K C (.type "object") = some true
theorem ClsA.ty {K : PySem.W.Frag} {mg : Str → Option Value} {x : Str} {C : Addr} (c : ClsA K mg x C) {H : Hp} {a dx : Addr} {fs : List (Str × V)} (e : H a = some (.ins C dx fs)) : TyOf K H (.ref a) (.ref C) := .ins e c.cl c.ha c.hn c.htk c.hm
structure MethA (P : Program) (w : World) (K : PySem.W.Frag) (mg : Str → Option Value) (base : Heap) (C : Addr) (m : Str) (ps : List Str) (k : Nat) (sp : Sp) : Prop where
  ex : ∃ f fd, FnOk P w K mg base CX0 k f fd ps sp ∧ Binds K fd ps [] ∧ Meth K C m f
structure MakeA (P : Program) (w : World) (K : PySem.W.Frag) (mg : Str → Option Value) (base : Heap) (x : Str) (C : Addr) (ps : List Str) (k : Nat) (sp : Sp) : Prop where
  ex : ∃ f fd, FnOk P w K mg base CX0 k f fd ps sp ∧ Binds K fd ps [] ∧ Mk K C f ∧ mg x = some (.ref C)
section
variable {X : Cx} {x m : Str} {ps : List Str} {k : Nat} {sp : Sp} {e o : Expr} {es : List Expr} {t : TA} {ta : TE} {p pos apos : Pos} {C : Addr}
theorem pe_makeA (F : MakeA X.prog X.w X.K X.mg X.base x C ps k sp) (hr : Room (k + 1) X.A) (hg : Gl X x) (ha : PA X (e :: es) t) (hdb : (x == ("__debug__" : Str)) = false := by decide)
    (he : starEach (e :: es) X.env = (false, eval e X.env) :: starEach es X.env := by rfl) (hpl : (backTo pos (starEach es X.env)).any (·.1) = false := by rfl) : PE X (.Call (.Name x p) (e :: es) [] pos) (tMake C sp [] E0 t) := by
  obtain ⟨f, fd, G, b, M, m⟩ := F.ex
  exact pe_make M G hr hg m b .nil pass0 ha hdb he hpl
end
/-! ### at the top: classes, methods, __init__ -/
structure MethAt (K : PySem.W.Frag) (C : Addr) (m qual : Str) (st : Stmt) (ps : List Str) : Prop where
  ex : ∃ f fd, Fun K m qual st f fd ∧ Binds K fd ps [] ∧ Meth K C m f
structure InitAt (K : PySem.W.Frag) (mg : Str → Option Value) (x : Str) (C : Addr) (qual : Str) (st : Stmt) (ps : List Str) : Prop where
  ex : ∃ f fd, Fun K "__init__" qual st f fd ∧ Binds K fd ps [] ∧ Mk K C f ∧ mg x = some (.ref C)
theorem InitAt.makeA {P : Program} {w : World} {K : PySem.W.Frag} {mg : Str → Option Value} {base : Heap} {x : Str} {C : Addr} {qual : Str} {st : Stmt} {ps : List Str} {k : Nat} {sp : Sp} (D : InitAt K mg x C qual st ps)
    (h : ∀ f fd, Fun K "__init__" qual st f fd → FnOk P w K mg base CX0 k f fd ps sp) : MakeA P w K mg base x C ps k sp := by
  obtain ⟨f, fd, F, b, hm, hx⟩ := D.ex
  exact ⟨f, fd, h f fd F, b, hm, hx⟩
theorem initAt_mk {K : PySem.W.Frag} {h : Heap} {mg : Str → Option Value} {x : Str} {C : Addr} {qual : Str} {st : Stmt} {ps : List Str} {f : Addr} {oc : Value} {od an : Option Addr} {osl : Array (Option Value)} {kV doc pm cdv ct : Value} (X : K.In h) (G : h.Ns mainGlobals mg)
    (hb : ∀ (kV doc pm : Value) (an : Option Addr) (cdv ct : Value) (us : List Value), us.length = ps.length → bindArgs (PySem.W.fnOf "__init__" qual (defArgs st) (defBody st) (defScope st) .none kV doc pm an cdv ct) ⟨us, []⟩ = pure (ps.zip us))
    (a : PySem.W.findIn K (.ref C) "__init__" = some (some (.ref f))) (i : PySem.W.isFn K (.ref f) = true) (l : K.lookup f = some ⟨oc, od, .func (PySem.W.fnOf "__init__" qual (defArgs st) (defBody st) (defScope st) .none kV doc pm an cdv ct), osl⟩) (c : PySem.W.codeIn K cdv qual = true) (k : PySem.W.keepIn K (.ref f) = true)
    (n : PySem.W.nsIn K mainGlobals x = some (some (.ref C))) (m : PySem.W.makesIn K C = true) (p : PySem.W.keepIn K (.ref C) = true) : InitAt K mg x C qual st ps := by
  have F := fun_mk (st := st) l c k
  exact ⟨f, _, F, F.binds hb, ⟨m, a, i, p⟩, PySem.W.mg_of X G n⟩
theorem clsA_mk {K : PySem.W.Frag} {h : Heap} {mg : Str → Option Value} {x : Str} {C : Addr} (X : K.In h) (G : h.Ns mainGlobals mg) (a : PySem.W.nsIn K mainGlobals x = some (some (.ref C)))
    (b1 : PySem.W.plainGet K C Str.empty = true) (b2 : PySem.W.hasDictIn K C = true) (b3 : PySem.W.plainOver K C = true) (b4 : PySem.W.findIn K (.ref C) "__setattr__" = some (some (.builtin "object.__setattr__")))
    (b5 : PySem.W.findIn K (.ref C) "__class__" = some (some (.builtin "object.__class__"))) (b6 : PySem.W.specialIn K (.builtin "object.__class__") "__get__" = some (some (.builtin "getset_descriptor.__get__")))
    (b7 : PySem.W.takesIn K (.builtin "object.__class__") = some true) (b8 : PySem.W.mroIn K C (.type "object") = some true) : ClsA K mg x C := ⟨⟨b1, b2, b3, b4⟩, PySem.W.mg_of X G a, b5, b6, b7, b8⟩
end L2

set_option Elab.async false
set_option linter.all false
set_option maxRecDepth 100000
set_option maxHeartbeats 4000000
namespace L2
open PySem PySem.Spec PySem.Calls PyProof.Rows
section
variable {X : Cx} {K : PySem.W.Frag} {pos : Pos}
end
end L2

set_option Elab.async false
set_option linter.all false
set_option maxRecDepth 100000
set_option maxHeartbeats 4000000
namespace L2
open PySem PySem.Spec PySem.Calls PyProof.Rows
section
variable {X : Cx} {K : PySem.W.Frag} {pos : Pos}
def rLE (K : PySem.W.Frag) (f : Bool → Bool) : R2 := fun x y H Q => ∃ (p q' : Addr) (xs : List V), x = .ref p ∧ y = .ref q' ∧ SqL K H p xs ∧ SqL K H q' [] ∧ Q (.bl (f xs.isEmpty)) H
theorem op_eqE (hu : X.A.units + 64 < cLine) : OpR X (compareOp .Eq) (rLE X.K id) := by
  intro pins s σ H x y v u Q I rx ry h
  obtain ⟨p, q', xs, rfl, rfl, ha, hb, q⟩ := h
  cases xs with
  | nil => exact op_eqL hu pins s σ H _ _ v u Q I rx ry ⟨0, true, by decide, ⟨p, q', [], [], fun _ => true, rfl, rfl, ha, hb, rfl, fun j x y e1 _ => by simp at e1, rfl⟩, q⟩
  | cons a l => exact op_eqLn hu pins s σ H _ _ v u Q I rx ry ⟨p, q', _, _, rfl, rfl, ha, hb, by simp, q⟩
theorem op_neE (hu : X.A.units + 64 < cLine) : OpR X (compareOp .NotEq) (rLE X.K (!·)) := by
  intro pins s σ H x y v u Q I rx ry h
  obtain ⟨p, q', xs, rfl, rfl, ha, hb, q⟩ := h
  cases xs with
  | nil => exact op_neL hu pins s σ H _ _ v u Q I rx ry ⟨0, true, by decide, ⟨p, q', [], [], fun _ => true, rfl, rfl, ha, hb, rfl, fun j x y e1 _ => by simp at e1, rfl⟩, q⟩
  | cons a l => exact op_neLn hu pins s σ H _ _ v u Q I rx ry ⟨p, q', _, _, rfl, rfl, ha, hb, by simp, q⟩
end
/-! ### conditions that grow with what is wanted -/
def MonoE (t : TE) : Prop := ∀ σ H (Q Q' : VK), (∀ v H1, Q v H1 → Q' v H1) → t σ H Q → t σ H Q'
def MonoT (t : TT) : Prop := ∀ σ H (Q Q' : Bool → Hp → Prop), (∀ b H1, Q b H1 → Q' b H1) → t σ H Q → t σ H Q'
def MonoR (r : R2) : Prop := ∀ x y H (Q Q' : VK), (∀ v H1, Q v H1 → Q' v H1) → r x y H Q → r x y H Q'
def MonoA (t : TA) : Prop := ∀ σ H (Q Q' : List V → Hp → Prop), (∀ v H1, Q v H1 → Q' v H1) → t σ H Q → t σ H Q'
theorem mono_var (i : Nat) : MonoE (tVar i) := fun _ _ _ _ h ⟨v, e, q⟩ => ⟨v, e, h _ _ q⟩
theorem mono_c (v : V) : MonoE (tC v) := fun _ _ _ _ h q => h _ _ q
theorem mono_op {r : R2} {ta tb : TE} (hr : MonoR r) (ha : MonoE ta) (hb : MonoE tb) : MonoE (tOp r ta tb) := fun σ H Q Q' h q => ha σ H _ _ (fun x H1 q1 => hb σ H1 _ _ (fun y H2 q2 => hr x y H2 _ _ h q2) q1) q
theorem mono_test {t : TE} (ht : MonoE t) : MonoT (tTest t) := fun σ H Q Q' h q => ht σ H _ _ (fun x H1 ⟨k, e, q1⟩ => ⟨k, e, h _ _ q1⟩) q
theorem mono_B {t : TE} (ht : MonoE t) : MonoT (tB t) := fun σ H Q Q' h q => ht σ H _ _ (fun x H1 ⟨k, e, q1⟩ => ⟨k, e, h _ _ q1⟩) q
theorem mono_not {t : TT} (ht : MonoT t) : MonoT (tNot t) := fun σ H Q Q' h q => ht σ H _ _ (fun b H1 q1 => h _ _ q1) q
theorem mono_and {t u : TT} (ht : MonoT t) (hu : MonoT u) : MonoT (tAnd t u) := fun σ H Q Q' h q => ht σ H _ _ (fun b H1 q1 => by
  cases b with
  | false => exact h _ _ q1
  | true => exact hu σ H1 _ _ h q1) q
theorem mono_nil : MonoA tNil := fun _ _ _ _ h q => h _ _ q
theorem mono_cons {te : TE} {t : TA} (he : MonoE te) (ht : MonoA t) : MonoA (tCons te t) := fun σ H Q Q' h q => he σ H _ _ (fun x H1 q1 => ht σ H1 _ _ (fun xs H2 q2 => h _ _ q2) q1) q
theorem mono_lst {t : TA} (ht : MonoA t) : MonoE (tLst t) := fun σ H Q Q' h q => ht σ H _ _ (fun xs H1 ⟨l, q1⟩ => ⟨l, fun p hp => h _ _ (q1 p hp)⟩) q
theorem mono_call {sp : Sp} {E : XK} {t : TA} (hs : ∀ vs H (Q Q' : VK), (∀ v H1, Q v H1 → Q' v H1) → sp vs H Q E → sp vs H Q' E) (ht : MonoA t) : MonoE (tCall sp [] E t) := fun σ H Q Q' h q => ht σ H _ _ (fun vs H1 q1 => hs _ H1 _ _ h q1) q
theorem mono_un {r : V → Hp → VK → Prop} {ta : TE} (hr : ∀ x H (Q Q' : VK), (∀ v H1, Q v H1 → Q' v H1) → r x H Q → r x H Q') (ha : MonoE ta) : MonoE (tUn r ta) := fun σ H Q Q' h q => ha σ H _ _ (fun x H1 q1 => hr x H1 _ _ h q1) q
theorem mono_rLE {K : PySem.W.Frag} {f : Bool → Bool} : MonoR (rLE K f) := fun _ _ _ _ _ h ⟨p, q', xs, e1, e2, a, b, q⟩ => ⟨p, q', xs, e1, e2, a, b, h _ _ q⟩
theorem mono_rIxL {K : PySem.W.Frag} : MonoR (rIxL K) := fun _ _ _ _ _ h ⟨p, xs, i, v, e1, e2, a, b, q⟩ => ⟨p, xs, i, v, e1, e2, a, b, h _ _ q⟩
theorem mono_rIxT {K : PySem.W.Frag} : MonoR (rIxT K) := fun _ _ _ _ _ h ⟨p, xs, i, v, e1, e2, a, b, q⟩ => ⟨p, xs, i, v, e1, e2, a, b, h _ _ q⟩
theorem mono_rI0 {g : Int → Int → V} : MonoR (rI0 g) := fun _ _ _ _ _ h ⟨i, j, e1, e2, q⟩ => ⟨i, j, e1, e2, h _ _ q⟩
theorem mono_rI {C : Int → Int → Prop} {g : Int → Int → V} : MonoR (rI C g) := fun _ _ _ _ _ h ⟨i, j, e1, e2, c, q⟩ => ⟨i, j, e1, e2, c, h _ _ q⟩
theorem mono_rU {g : Int → V} : ∀ x H (Q Q' : VK), (∀ v H1, Q v H1 → Q' v H1) → rU g x H Q → rU g x H Q' := fun _ _ _ _ h ⟨i, e, q⟩ => ⟨i, e, h _ _ q⟩
end L2

set_option Elab.async false
set_option linter.all false
set_option maxRecDepth 100000
set_option maxHeartbeats 4000000
namespace L2
open PySem PySem.Spec PySem.Calls PyProof.Rows
def Itd (hi : Int) (n : Nat) : It := ⟨fun i _ => i < n, fun i H x H' => H' = H ∧ x = .int (hi - i), fun i _ => n ≤ i⟩
theorem turn_down {P : Program} {w : World} {K : PySem.W.Frag} {tg : Expr} (it : Addr) (lo : Int) (n : Nat) : Turn P w K tg (Itd lo n) [it] it (fun i h => IsRangeIter h it (lo + (i : Nat) * (-1)) ((n : Int) - (i : Nat)) (-1)) where
  mem := by simp
  obj := fun i h st b hb => by
    have e : b = it := by simpa using hb
    subst e
    exact ⟨_, st, fun v z => by
      have z' : Data.fields _ = Data.cell v := z
      cases z'⟩
  keep := fun i h h' st k => k it (by simp) _ st
  item := by
    intro X hP hw hK hc i pins s σ H E I hf st hg
    subst hP hw hK
    obtain ⟨f0, f1, f2, f3, f4, f5⟩ := hf it (by simp)
    have W := Walks.range (prog := X.prog) (w := X.w) (I.ok.hd hc) it lo (-1) n
    refine W.item i s _ _ hg st fun v h' tk hv st' kk => ?_
    obtain ⟨t, rfl⟩ := hv
    have I1 : Inv X pins σ H { s with heap := h', toks := tk } := I.turned (fun b o hb e => kk b o (by simpa using hb) e) f0 f1 f3 f4 f5
    refine ⟨_, rfl, go_of (s := { s with heap := h', toks := tk }) (n := "range_iterator") st' rfl rfl (by decide) ⟨.int (lo - i), H, I1, ⟨t, ?_⟩, ⟨rfl, rfl⟩, st', fun b hb => (hf b hb).1⟩⟩
    rw [show lo + (i : Int) * (-1) = lo - i by omega]
  done := by
    intro X hP hw hK hc i pins s σ H E I hf st hg
    subst hP hw hK
    obtain ⟨f0, f1, f2, f3, f4, f5⟩ := hf it (by simp)
    exact wpAny_pyNext_range_end (I.ok.hd hc) st (by have : n ≤ i := hg; omega) fun h' eb => ⟨rfl, I.turned (t' := s.toks) (fun b o hb e => eb b o hb e) f0 f1 f3 f4 f5⟩
  self := fun _ _ _ _ _ st h => wpAny_pyIter_rangeiter st h
theorem rangeSize_down (a : Int) (h : -1 ≤ a) : Builtin.Range.rangeSize a (-1) (-1) = a + 1 := by
  unfold Builtin.Range.rangeSize
  simp only [show ¬ ((-1 : Int) > 0) by decide, if_false]
  rw [show (-(-1 : Int)) = 1 by decide, Int.ediv_one]
  split <;> omega
theorem small_down {a : Int} (h : -1 ≤ a) (h2 : a < 2 ^ 62) : Builtin.Range.small a (-1) (-1) = true := by
  unfold Builtin.Range.small
  rw [rangeSize_down a h]
  simp only [Builtin.Range.rangeFitsLong, Bool.and_eq_true, Bool.or_eq_true, decide_eq_true_eq, beq_iff_eq, show ¬ ((-1 : Int) > 0) by decide, if_false]
  omega
section
variable {X : Cx} {tg : Expr}
def iRng3 (ta : TA) : TI := fun σ H R => ta σ H fun vs H1 => ∃ i : Int, vs = [.int i, .int (-1), .int (-1)] ∧ -1 ≤ i ∧ i < 2 ^ 62 ∧ R (Itd i (i + 1).toNat) H1
theorem pi_range3 {a b c : Expr} {ta : TA} {p pos : Pos} (hg : Gl X "range") (hm : X.mg "range" = none) (ha : PA X [a, b, c] ta) (hs : starEach [a, b, c] X.env = [(false, eval a X.env), (false, eval b X.env), (false, eval c X.env)] := by rfl) (hs2 : starEach [b, c] X.env = [(false, eval b X.env), (false, eval c X.env)] := by rfl) :
    PI X tg (.Call (.Name "range" p) [a, b, c] [] pos) (iRng3 ta) := by
  intro pins s σ H R I h
  refine Call_ (ld_blt I hg hm boot_range (PyProof.Rows.callWith_type1 (thn (ha pos pins s σ H _ I h) fun us s1 ⟨vs, H1, I1, r1, q1⟩ => ?_) (by rw [hs, hs2]) (by rw [hs2]; rfl)))
  obtain ⟨i, e, q1, q2, q⟩ := q1
  subst e
  cases r1 with
  | cons r rr =>
    cases rr with
    | cons r' rr =>
      cases rr with
      | cons r'' rr =>
        cases rr
        obtain ⟨t, rfl⟩ := r
        obtain ⟨t', rfl⟩ := r'
        obtain ⟨t'', rfl⟩ := r''
        refine call_range_3 (by decide) ?_ (.inl (PyProof.noPylong_small (by decide)))
        refine wpAny_pyIter_range (IsRange.new ..) (small_down q1 q2) ?_
        have I2 : Inv X pins σ H1 { s1 with heap := s1.heap.push { cls := .type "range", data := .fields #[.int i t, .int (-1) t', .int (-1) t''] }, toks := s1.toks } := I1.kept fun b o e => Heap.get?_push_of_some _ e
        refine ⟨(s1.heap.push { cls := .type "range", data := .fields #[.int i t, .int (-1) t', .int (-1) t''] }).objs.size, [(s1.heap.push { cls := .type "range", data := .fields #[.int i t, .int (-1) t', .int (-1) t''] }).objs.size], _, _, H1, rfl,
          I2.kept (t' := s1.toks) fun b o e => Heap.get?_push_of_some _ e, turn_down _ i (i + 1).toNat, ?_, fun b hb => ?_, q⟩
        · have e1 : i + ((0 : Nat) : Int) * (-1) = i := by simp
          have e2 : (((i + 1).toNat : Nat) : Int) - ((0 : Nat) : Int) = Builtin.Range.rangeSize i (-1) (-1) := by rw [rangeSize_down i q1]; omega
          show IsRangeIter _ _ (i + ((0 : Nat) : Int) * (-1)) ((((i + 1).toNat : Nat) : Int) - ((0 : Nat) : Int)) (-1)
          rw [e1, e2]
          exact Heap.get?_push_size _ rfl
        · have e : b = (s1.heap.push { cls := .type "range", data := .fields #[.int i t, .int (-1) t', .int (-1) t''] }).objs.size := by simpa using hb
          subst e
          exact I2.fpOk (Nat.le_refl _) (I2.hok.fresh (Nat.le_refl _))
end
theorem for_down {hi : Int} {n : Nat} {g : TG} {tb : TS} {D : Ends} {σ : St} {H : Hp} (Pv : Nat → St → Hp → Prop) (h0 : Pv 0 σ H)
    (hs : ∀ (i : Nat) σ H, i < n → Pv i σ H → g (.int (hi - i)) σ H fun σ2 H2 => tb { D with nx := Pv (i + 1), ct := Pv (i + 1), bk := D.nx } σ2 H2) (hd : ∀ σ H, Pv n σ H → D.nx σ H) :
    ∃ W : Nat → Nat → St → Hp → Prop, (∃ m, W 0 m σ H) ∧ ∀ i m σ H, W i m σ H →
      ((Itd hi n).stop i H ∧ D.nx σ H) ∨ ((Itd hi n).go i H ∧ ∃ N : St → Hp → Prop, (∀ σ' H', N σ' H' → ∃ m', m' < m ∧ W (i + 1) m' σ' H') ∧ ∀ x H', (Itd hi n).yld i H x H' → g x σ H' fun σ2 H2 => tb { D with nx := N, ct := N, bk := D.nx } σ2 H2) := by
  refine ⟨fun i m σ H => m = n - i ∧ i ≤ n ∧ Pv i σ H, ⟨n, by simp, Nat.zero_le _, h0⟩, ?_⟩
  rintro i m σ H ⟨rfl, hi', p⟩
  by_cases hlt : i < n
  · refine .inr ⟨hlt, Pv (i + 1), fun σ' H' p' => ⟨n - (i + 1), by omega, rfl, hlt, p'⟩, fun x H' y => ?_⟩
    obtain ⟨e, y⟩ := y
    subst e y
    exact hs i σ _ hlt p
  · have e : i = n := by omega
    subst e
    exact .inl ⟨Nat.le_refl _, hd σ H p⟩
end L2

set_option Elab.async false
set_option linter.all false
set_option maxRecDepth 100000
set_option maxHeartbeats 4000000
namespace L2
open PySem PySem.Spec PySem.Calls PyProof.Rows
section
variable {X : Cx} {K : PySem.W.Frag}
theorem op_neT (hu : X.A.units + 64 < cLine) : OpR X (compareOp .NotEq) (fun x y H Q => ∃ n b, n ≤ 60 ∧ EqT X.K H n x y b ∧ Q (.bl (!b)) H) := by
  intro pins s σ H x y v u Q I rx ry h
  obtain ⟨n, b, hn, ⟨a, c, xs, ys, e, rfl, rfl, ha, hb, hl, he, rfl⟩, q⟩ := h
  cases rx
  cases ry
  obtain ⟨its, r1, p1, _⟩ := I.tuple ha
  obtain ⟨its2, r2, p2, _⟩ := I.tuple hb
  refine SeqAt.RcNeAt.tuples (e := e) p1 p2 (by omega) (EqR.items (n := n) r1 r2 fun j x y u v e1 e2 q1 q2 => (he j x y e1 e2).at I (by show X.A.units + 1 + n < cLine; omega) q1 q2) X.prog X.w X.xe _ ?_
  have e1 : its.toArray.size = xs.length := by rw [List.size_toArray, r1.length]
  have e2 : its2.toArray.size = xs.length := by rw [List.size_toArray, ← r2.length, hl]
  rw [e1, e2, Nat.min_self, beq_self_eq_true, Bool.and_true]
  exact ⟨.bl _, H, I, rfl, q⟩
def CDivL (i j : Int) : Prop := 0 < j ∧ Builtin.Int.intBits j ≤ 9000
theorem op_fdivL : OpR X (binaryOp .FloorDiv) (rI CDivL fun i j => .int (i / j)) := opI fun i j _ _ _ _ _ hc q => by
  have h1 : (0 : Int) < j := hc.1
  have h2 := intBits_le_iff.mp hc.2
  refine floordiv_int (Int.ne_of_gt h1) ?_ (.inl (PyProof.noPylong_of_log2 ?_))
  · rw [Int.fdiv_eq_ediv_of_nonneg _ (Int.le_of_lt h1)]
    exact q
  · exact (Nat.log2_lt (show j.natAbs ≠ 0 by clear h2; omega)).mpr h2
theorem pg_threeC {x y z : Str} {i j l : Nat} {px py pz tp : Pos} {kk : Nat} (hK : X.K = K) (hc : X.calm = true) (hN : X.N.Nodup) (hi : X.N[i]? = some x) (hj : X.N[j]? = some y) (hl : X.N[l]? = some z) (hx : X.env.scope.names.lookup x = some .local) (hy : X.env.scope.names.lookup y = some .local)
    (hz : Loc X.env.scope z) (hf : X.fn z = true) : PG X (.Tuple [.Name x px, .Name y py, .Name z pz] kk tp) (gTup K 3 (gCons (gName i) (gCons (gName j) (gCons (gName l) gNil)))) := by
  subst hK
  exact pg_tup hc (pgs_cons (pg_name hN hi (.inl hx) (.inr hx)) (pgs_cons (pg_name hN hj (.inl hy) (.inr hy)) (pgs_cons (pg_name hN hl hz (.inl hf)) pgs_nil rfl) rfl) rfl) rfl rfl
end
end L2

set_option maxHeartbeats 4000000
set_option linter.all false
namespace Fr1
def lowP (t b : Int) : Int × Int := (t / (Int.gcd t b : Int), b / (Int.gcd t b : Int))
theorem gcd_pos {t b : Int} (hb : 0 < b) : 0 < (Int.gcd t b : Int) := by
  have h : 0 < Int.gcd t b := Int.gcd_pos_of_ne_zero_right t (by omega)
  omega
theorem gcd_le {t b : Int} (hb : 0 < b) : (Int.gcd t b : Int) ≤ b := Int.le_of_dvd hb (Int.gcd_dvd_right ..)
theorem lowP_mul {t b : Int} (k : Int) (hk : 0 < k) (hb : 0 < b) : lowP (k * t) (k * b) = lowP t b := by
  have hg := gcd_pos (t := t) hb
  have e : (Int.gcd (k * t) (k * b) : Int) = k * (Int.gcd t b : Int) := by
    rw [Int.gcd_mul_left, Int.natCast_mul, Int.natAbs_of_nonneg (by omega)]
  unfold lowP
  rw [e, Int.mul_ediv_mul_of_pos _ _ hk, Int.mul_ediv_mul_of_pos _ _ hk]
theorem lowP_eq {t b : Int} (hb : 0 < b) (h : Int.gcd t b = 1) : lowP t b = (t, b) := by
  unfold lowP
  rw [h]
  simp
theorem lowP_gcd {t b : Int} (hb : 0 < b) : Int.gcd (lowP t b).1 (lowP t b).2 = 1 := by
  unfold lowP
  exact Int.gcd_ediv_gcd_ediv_gcd (Int.gcd_pos_of_ne_zero_right t (by omega))
theorem lowP_pos {t b : Int} (hb : 0 < b) : 0 < (lowP t b).2 := by
  unfold lowP
  exact Int.ediv_pos_of_pos_of_dvd hb (Int.natCast_nonneg _) (Int.gcd_dvd_right ..)
theorem lowP_fst {t b : Int} (hb : 0 < b) : (lowP t b).1 * (Int.gcd t b : Int) = t := by
  unfold lowP
  exact Int.ediv_mul_cancel (Int.gcd_dvd_left ..)
theorem lowP_snd {t b : Int} (hb : 0 < b) : (lowP t b).2 * (Int.gcd t b : Int) = b := by
  unfold lowP
  exact Int.ediv_mul_cancel (Int.gcd_dvd_right ..)
theorem lowP_dvd {t b : Int} (hb : 0 < b) : (lowP t b).2 ∣ b := ⟨_, (lowP_snd (t := t) hb).symm⟩
theorem lowP_le {t b : Int} (hb : 0 < b) : (lowP t b).2 ≤ b := Int.le_of_dvd hb (lowP_dvd hb)
theorem lowP_cross {t b : Int} (hb : 0 < b) : (lowP t b).1 * b = t * (lowP t b).2 := by
  have h1 := lowP_fst (t := t) hb
  have h2 := lowP_snd (t := t) hb
  generalize (lowP t b).1 = x at h1 ⊢
  generalize (lowP t b).2 = y at h2 ⊢
  generalize (Int.gcd t b : Int) = g at h1 h2
  rw [← h1, ← h2, Int.mul_assoc, Int.mul_comm g y]
theorem lowP_cong {t b t' b' : Int} (hb : 0 < b) (hb' : 0 < b') (h : t * b' = t' * b) : lowP t b = lowP t' b' := by
  rw [← lowP_mul (t := t) b' hb' hb, ← lowP_mul (t := t') b hb hb', Int.mul_comm b' t, h, Int.mul_comm b' b, Int.mul_comm t' b]
theorem natAbs_ediv_le (a : Int) {b : Int} (hb : 0 < b) : (a / b).natAbs ≤ a.natAbs := by
  have h1 : a / b * b ≤ a := Int.ediv_mul_le a (by omega)
  have h2 : a < (a / b + 1) * b := Int.lt_ediv_add_one_mul_self a hb
  rcases Int.lt_or_le a 0 with h | h
  · have h3 : a ≤ a / b := by
      refine Int.le_ediv_of_mul_le hb ?_
      have := Int.mul_le_mul_of_nonpos_left (a := a) (b := b) (c := 1) (by omega) (by omega)
      omega
    have h4 : a / b < 0 := Int.ediv_neg_of_neg_of_pos h hb
    omega
  · have h3 : 0 ≤ a / b := Int.ediv_nonneg h (by omega)
    have h4 : a / b ≤ a := Int.ediv_le_self b h
    omega
theorem lowP_abs {t b : Int} (hb : 0 < b) : (lowP t b).1.natAbs ≤ t.natAbs := natAbs_ediv_le t (gcd_pos hb)

/-! the program's own sum of two fractions in lowest terms -/
theorem coprime_mul {a b c : Nat} (h1 : Nat.gcd a b = 1) (h2 : Nat.gcd a c = 1) : Nat.gcd a (b * c) = 1 := by
  have : Nat.Coprime a (b * c) := Nat.Coprime.mul_right h1 h2
  exact this
theorem gcd_strip {t b g : Nat} (h : Nat.gcd t b = 1) : Nat.gcd t (b * g) = Nat.gcd t g := by
  exact Nat.Coprime.gcd_mul_left_cancel_right g (Nat.Coprime.symm h)
theorem igcd_strip {t b g : Int} (h : Int.gcd t b = 1) : Int.gcd t (b * g) = Int.gcd t g := by
  rw [Int.gcd_eq_natAbs_gcd_natAbs, Int.gcd_eq_natAbs_gcd_natAbs, Int.natAbs_mul]
  exact gcd_strip (by rw [← Int.gcd_eq_natAbs_gcd_natAbs]; exact h)
theorem igcd_mul_one {t a b : Int} (h1 : Int.gcd a t = 1) (h2 : Int.gcd b t = 1) : Int.gcd (a * b) t = 1 := by
  rw [Int.gcd_comm] at h1 h2 ⊢
  rw [Int.gcd_eq_natAbs_gcd_natAbs] at h1 h2 ⊢
  rw [Int.natAbs_mul]
  exact coprime_mul h1 h2
theorem igcd_dvd_one {a b c : Int} (h : Int.gcd a b = 1) (hc : c ∣ b) : Int.gcd a c = 1 := by
  have h1 : Int.gcd a c ∣ Int.gcd a b := by
    rw [Int.gcd_eq_natAbs_gcd_natAbs, Int.gcd_eq_natAbs_gcd_natAbs]
    exact Nat.gcd_dvd_gcd_of_dvd_right _ (Int.natAbs_dvd_natAbs.mpr hc)
  rw [h] at h1
  exact Nat.dvd_one.mp h1
theorem plus_low {a b c d : Int} (hb : 0 < b) (hd : 0 < d) (h1 : Int.gcd a b = 1) (h2 : Int.gcd c d = 1) :
    let sh : Int := (Int.gcd b d : Int)
    let own := b / sh
    let top := a * (d / sh) + c * own
    let st : Int := (Int.gcd top sh : Int)
    (top / st, own * (d / st)) = lowP (a * d + c * b) (b * d) := by
  intro sh own top st
  have hsh : 0 < sh := gcd_pos (t := b) hd
  obtain ⟨b', hb'⟩ : sh ∣ b := Int.gcd_dvd_left ..
  obtain ⟨d', hd'⟩ : sh ∣ d := Int.gcd_dvd_right ..
  have eb : b / sh = b' := by rw [hb']; exact Int.mul_ediv_cancel_left _ (by omega)
  have ed : d / sh = d' := by rw [hd']; exact Int.mul_ediv_cancel_left _ (by omega)
  have eown : own = b' := eb
  have etop : top = a * d' + c * b' := by show a * (d / sh) + c * own = _; rw [ed, eown]
  have hco : Int.gcd b' d' = 1 := by
    have e : Int.gcd (b / sh) (d / sh) = 1 := Int.gcd_ediv_gcd_ediv_gcd (Int.gcd_pos_of_ne_zero_right b (by omega))
    rw [eb, ed] at e
    exact e
  have hb0 : 0 < b' := by
    have : 0 < sh * b' := by rw [← hb']; exact hb
    exact Int.pos_of_mul_pos_right this (by omega)
  have hd0 : 0 < d' := by
    have : 0 < sh * d' := by rw [← hd']; exact hd
    exact Int.pos_of_mul_pos_right this (by omega)
  -- top has nothing in common with b', d'
  have g1 : Int.gcd top b' = 1 := by
    rw [etop]
    have e : Int.gcd (a * d' + c * b') b' = Int.gcd (a * d') b' := by
      rw [Int.gcd_comm, Int.gcd_comm (a * d')]
      exact Int.gcd_add_mul_right_right ..
    rw [e]
    exact igcd_mul_one (igcd_dvd_one h1 ⟨sh, by rw [hb', Int.mul_comm]⟩) (by rw [Int.gcd_comm]; exact hco)
  have g2 : Int.gcd top d' = 1 := by
    rw [etop, Int.add_comm]
    have e : Int.gcd (c * b' + a * d') d' = Int.gcd (c * b') d' := by
      rw [Int.gcd_comm, Int.gcd_comm (c * b')]
      exact Int.gcd_add_mul_right_right ..
    rw [e]
    exact igcd_mul_one (igcd_dvd_one h2 ⟨sh, by rw [hd', Int.mul_comm]⟩) hco
  have g3 : Int.gcd top (b' * d) = Int.gcd top sh := by
    rw [igcd_strip g1, hd', Int.mul_comm sh d', igcd_strip g2]
  have hst : 0 < st := gcd_pos (t := top) hsh
  -- the ratio
  have e1 : a * d + c * b = sh * top := by
    rw [etop, hb', hd', Int.mul_add, ← Int.mul_assoc, ← Int.mul_assoc, ← Int.mul_assoc, ← Int.mul_assoc, Int.mul_comm sh a, Int.mul_comm sh c]
  have e2 : b * d = sh * (b' * d) := by
    rw [← Int.mul_assoc, ← hb']
  rw [e1, e2, lowP_mul sh hsh (Int.mul_pos hb0 hd)]
  unfold lowP
  rw [g3]
  show (top / st, own * (d / st)) = (top / st, b' * d / st)
  have hdv : st ∣ d := Int.dvd_trans (Int.gcd_dvd_right ..) ⟨d', hd'⟩
  rw [eown, Int.mul_ediv_assoc _ hdv]

/-! one turn: T a sum so far, a number n, a weight w, a row's fraction (p, q) -/
def acc (T : Int × Int) (n w p q : Int) : Int × Int := lowP (T.1 * (q * q) + w * (n * q - p) * (n * q - p) * T.2) (T.2 * (q * q))
theorem prog_turn {T : Int × Int} {n w p q : Int} (hT : 0 < T.2) (gT : Int.gcd T.1 T.2 = 1) (hq : 0 < q) :
    let y := lowP (w * (n * q - p) * (n * q - p)) (q * q)
    lowP (T.1 * y.2 + y.1 * T.2) (T.2 * y.2) = acc T n w p q := by
  intro y
  have hqq : 0 < q * q := Int.mul_pos hq hq
  have h1 : y.1 * _ = _ := lowP_fst (t := w * (n * q - p) * (n * q - p)) hqq
  have h2 : y.2 * _ = _ := lowP_snd (t := w * (n * q - p) * (n * q - p)) hqq
  have hy : 0 < y.2 := lowP_pos hqq
  have hg := gcd_pos (t := w * (n * q - p) * (n * q - p)) hqq
  unfold acc
  generalize (Int.gcd (w * (n * q - p) * (n * q - p)) (q * q) : Int) = g at h1 h2 hg
  rw [← h1, ← h2, ← lowP_mul g hg (Int.mul_pos hT hy)]
  have e1 : g * (T.1 * y.2 + y.1 * T.2) = T.1 * (y.2 * g) + y.1 * g * T.2 := by
    rw [Int.mul_add, Int.mul_comm g, Int.mul_assoc, Int.mul_comm g, Int.mul_assoc, Int.mul_assoc, Int.mul_comm T.2 g]
  have e2 : g * (T.2 * y.2) = T.2 * (y.2 * g) := by
    rw [Int.mul_comm g, Int.mul_assoc]
  rw [e1, e2]

/-! the second part of every sum divides 27720 * 27720 -/
def LL : Int := 768398400
theorem small_dvd : ∀ q : Int, 1 ≤ q → q ≤ 12 → ∃ m, LL = (q * q) * m := by
  intro q h1 h2
  have : q = 1 ∨ q = 2 ∨ q = 3 ∨ q = 4 ∨ q = 5 ∨ q = 6 ∨ q = 7 ∨ q = 8 ∨ q = 9 ∨ q = 10 ∨ q = 11 ∨ q = 12 := by omega
  rcases this with rfl | rfl | rfl | rfl | rfl | rfl | rfl | rfl | rfl | rfl | rfl | rfl
  · exact ⟨768398400, by decide⟩
  · exact ⟨192099600, by decide⟩
  · exact ⟨85377600, by decide⟩
  · exact ⟨48024900, by decide⟩
  · exact ⟨30735936, by decide⟩
  · exact ⟨21344400, by decide⟩
  · exact ⟨15681600, by decide⟩
  · exact ⟨12006225, by decide⟩
  · exact ⟨9486400, by decide⟩
  · exact ⟨7683984, by decide⟩
  · exact ⟨6350400, by decide⟩
  · exact ⟨5336100, by decide⟩
structure Sm (T : Int × Int) : Prop where
  as : ∃ A, T = lowP A LL
theorem LL_pos : 0 < LL := by decide
theorem Sm.pos {T : Int × Int} (h : Sm T) : 0 < T.2 := by obtain ⟨A, rfl⟩ := h.as; exact lowP_pos LL_pos
theorem Sm.le {T : Int × Int} (h : Sm T) : T.2 ≤ 768398400 := by obtain ⟨A, rfl⟩ := h.as; exact lowP_le LL_pos
theorem Sm.gcd {T : Int × Int} (h : Sm T) : Int.gcd T.1 T.2 = 1 := by obtain ⟨A, rfl⟩ := h.as; exact lowP_gcd LL_pos
theorem Sm.zero : Sm (0, 1) := ⟨0, by decide⟩
theorem Sm.acc {T : Int × Int} (h : Sm T) {n w p q : Int} (h1 : 1 ≤ q) (h2 : q ≤ 12) : Sm (acc T n w p q) := by
  have hT := h.pos
  obtain ⟨A, e⟩ := h.as
  obtain ⟨m, hm⟩ := small_dvd q h1 h2
  have hqq : 0 < q * q := Int.mul_pos (by omega) (by omega)
  refine ⟨A + w * (n * q - p) * (n * q - p) * m, ?_⟩
  unfold Fr1.acc
  generalize w * (n * q - p) * (n * q - p) = y
  have hc : T.1 * LL = A * T.2 := by rw [e]; exact lowP_cross LL_pos
  refine lowP_cong (Int.mul_pos hT hqq) LL_pos ?_
  have e1 : (T.1 * (q * q) + y * T.2) * LL = T.1 * LL * (q * q) + y * T.2 * LL := by
    rw [Int.add_mul, Int.mul_assoc, Int.mul_comm (q * q) LL, ← Int.mul_assoc]
  rw [e1, hc]
  conv => lhs; rhs; rw [hm]
  have e2 : (A + y * m) * (T.2 * (q * q)) = A * T.2 * (q * q) + y * T.2 * ((q * q) * m) := by
    rw [Int.add_mul, Int.mul_assoc A, Int.mul_assoc y, Int.mul_assoc y, ← Int.mul_assoc m, Int.mul_comm m T.2, Int.mul_assoc T.2, Int.mul_comm m]
  rw [e2]
end Fr1
/-! ### lists of ints: what the law and the program reckon -/
namespace Fr1
theorem gcd_turn {d r : Int} : Int.gcd r (d % r) = Int.gcd d r := by
  have e : d % r = d + (-(d / r)) * r := by
    have := Int.emod_def d r
    rw [this, Int.neg_mul, Int.mul_comm r]; omega
  rw [e, Int.gcd_add_mul_right_right, Int.gcd_comm]
theorem gcd_abs (a b : Int) : Int.gcd (if a < 0 then -a else a) (if b < 0 then -b else b) = Int.gcd a b := by
  split <;> split <;> simp [Int.gcd_neg, Int.neg_gcd]
theorem gcd_zero_nn {d : Int} (h : 0 ≤ d) : (Int.gcd d 0 : Int) = d := by
  rw [Int.gcd_zero]; omega
def dif (n r : Int) : Int := if n - r < 0 then -(n - r) else n - r
theorem dif_nn (n r : Int) : 0 ≤ dif n r := by unfold dif; split <;> omega
def dl (ns rs : List Int) : List Int := List.zipWith dif ns rs
theorem dl_length {ns rs : List Int} (h : ns.length = rs.length) : (dl ns rs).length = ns.length := by
  unfold dl; rw [List.length_zipWith]; omega
theorem dl_at {ns rs : List Int} {i : Nat} {n r : Int} (h1 : ns[i]? = some n) (h2 : rs[i]? = some r) : (dl ns rs)[i]? = some (dif n r) := by
  unfold dl; rw [List.getElem?_zipWith, h1, h2]
theorem dl_nn {ns rs : List Int} : ∀ x ∈ dl ns rs, 0 ≤ x := fun x hx => by
  unfold dl at hx
  obtain ⟨i, hi, rfl⟩ := List.mem_iff_getElem.mp hx
  rw [List.getElem_zipWith]
  exact dif_nn ..
def mxs (m x : Int) : Int := if x > m then x else m
def maxL (xs : List Int) : Int := xs.foldl mxs 0
theorem maxL_from (xs : List Int) : ∀ m : Int, m ≤ xs.foldl mxs m ∧ (∀ x ∈ xs, x ≤ xs.foldl mxs m) ∧ (xs.foldl mxs m = m ∨ xs.foldl mxs m ∈ xs) := by
  induction xs with
  | nil => intro m; exact ⟨Int.le_refl _, fun x hx => (nomatch hx), .inl rfl⟩
  | cons y ys ih =>
    intro m
    obtain ⟨h1, h2, h3⟩ := ih (mxs m y)
    have hm : m ≤ mxs m y ∧ y ≤ mxs m y ∧ (mxs m y = m ∨ mxs m y = y) := by
      unfold mxs; split <;> omega
    refine ⟨Int.le_trans hm.1 h1, fun x hx => ?_, ?_⟩
    · rcases List.mem_cons.mp hx with rfl | hx
      · exact Int.le_trans hm.2.1 h1
      · exact h2 x hx
    · show List.foldl mxs (mxs m y) ys = m ∨ List.foldl mxs (mxs m y) ys ∈ y :: ys
      rcases h3 with h3 | h3
      · rcases hm.2.2 with e | e
        · exact .inl (by rw [h3, e])
        · exact .inr (by rw [h3, e]; exact List.mem_cons_self)
      · exact .inr (List.mem_cons_of_mem _ h3)
theorem maxL_of {xs : List Int} {M : Int} (h0 : ∀ x ∈ xs, 0 ≤ x) (h1 : M ∈ xs) (h2 : ∀ x ∈ xs, x ≤ M) : M = maxL xs := by
  obtain ⟨a, b, c⟩ := maxL_from xs 0
  have b' := b M h1
  have : maxL xs ≤ M := by
    rcases c with c | c
    · unfold maxL; rw [c]; exact h0 M h1
    · exact h2 _ c
  unfold maxL at *
  omega
def wl (ws ds : List Int) : List Int := List.zipWith (fun w d => w * d) ws ds
theorem wl_length {ws ds : List Int} (h : ws.length = ds.length) : (wl ws ds).length = ws.length := by
  unfold wl; rw [List.length_zipWith]; omega
theorem wl_at {ws ds : List Int} {i : Nat} {w d : Int} (h1 : ws[i]? = some w) (h2 : ds[i]? = some d) : (wl ws ds)[i]? = some (w * d) := by
  unfold wl; rw [List.getElem?_zipWith, h1, h2]
theorem take_snoc {α : Type} {xs : List α} {i : Nat} {x : α} (h : xs[i]? = some x) : xs.take (i + 1) = xs.take i ++ [x] := by
  rw [List.take_add_one, h]; rfl
theorem take_all {α : Type} (xs : List α) : xs.take xs.length = xs := List.take_length
theorem sum_snoc (xs : List Int) (x : Int) : (xs ++ [x]).sum = xs.sum + x := by simp
def accL (zs : List (Int × Int × Int × Int)) : Int × Int := zs.foldl (fun T z => acc T z.1 z.2.1 z.2.2.1 z.2.2.2) (0, 1)
theorem accL_snoc (zs : List (Int × Int × Int × Int)) (z : Int × Int × Int × Int) : accL (zs ++ [z]) = acc (accL zs) z.1 z.2.1 z.2.2.1 z.2.2.2 := by
  unfold accL; rw [List.foldl_append]; rfl
def z3 (ns ws : List Int) (fs : List (Int × Int)) : List (Int × Int × Int × Int) := ns.zip (ws.zip fs)
theorem z3_at {ns ws : List Int} {fs : List (Int × Int)} {i : Nat} {n w : Int} {f : Int × Int} (h1 : ns[i]? = some n) (h2 : ws[i]? = some w) (h3 : fs[i]? = some f) : (z3 ns ws fs)[i]? = some (n, w, f) := by
  unfold z3
  have h4 : (ws.zip fs)[i]? = some (w, f) := List.getElem?_zip_eq_some.mpr ⟨h2, h3⟩
  exact List.getElem?_zip_eq_some.mpr ⟨h1, h4⟩
theorem z3_length {ns ws : List Int} {fs : List (Int × Int)} (h1 : ns.length = ws.length) (h2 : ns.length = fs.length) : (z3 ns ws fs).length = ns.length := by
  unfold z3; rw [List.length_zip, List.length_zip]; omega
end Fr1

set_option maxHeartbeats 4000000
set_option linter.all false
namespace Up
def sm : Nat → (Nat → Int) → Int
  | 0, _ => 0
  | n + 1, f => sm n f + f n
theorem sm_congr {f g : Nat → Int} : ∀ {n : Nat}, (∀ i, i < n → f i = g i) → sm n f = sm n g
  | 0, _ => rfl
  | n + 1, h => by
    show sm n f + f n = sm n g + g n
    rw [sm_congr fun i hi => h i (by omega), h n (by omega)]
theorem sm_le {f g : Nat → Int} : ∀ {n : Nat}, (∀ i, i < n → f i ≤ g i) → sm n f ≤ sm n g
  | 0, _ => Int.le_refl _
  | n + 1, h => by
    have h1 := sm_le (n := n) fun i hi => h i (by omega)
    have h2 := h n (by omega)
    show sm n f + f n ≤ sm n g + g n
    omega
theorem sm_add (f g : Nat → Int) : ∀ n : Nat, sm n (fun i => f i + g i) = sm n f + sm n g
  | 0 => rfl
  | n + 1 => by
    have := sm_add f g n
    show sm n (fun i => f i + g i) + (f n + g n) = sm n f + f n + (sm n g + g n)
    omega
theorem sm_mul (k : Int) (f : Nat → Int) : ∀ n : Nat, sm n (fun i => k * f i) = k * sm n f
  | 0 => (Int.mul_zero k).symm
  | n + 1 => by
    show sm n (fun i => k * f i) + k * f n = k * (sm n f + f n)
    rw [sm_mul k f n, Int.mul_add]
theorem sm_zero (n : Nat) : sm n (fun _ => 0) = 0 := by
  induction n with
  | zero => rfl
  | succ n ih => show sm n (fun _ => 0) + 0 = 0; rw [ih]; rfl
theorem sm_nonpos {f : Nat → Int} {n : Nat} (h : ∀ i, i < n → f i ≤ 0) : sm n f ≤ 0 := by
  have := sm_le (g := fun _ => 0) h
  rwa [sm_zero] at this
theorem sm_abel (p x : Nat → Int) : ∀ n : Nat, sm (n + 1) (fun i => p i * x i) = sm (n + 1) p * x n + sm n (fun i => sm (i + 1) p * (x i - x (i + 1)))
  | 0 => by simp [sm]
  | n + 1 => by
    have ih := sm_abel p x n
    show sm (n + 1) (fun i => p i * x i) + p (n + 1) * x (n + 1) = (sm (n + 1) p + p (n + 1)) * x (n + 1) + (sm n (fun i => sm (i + 1) p * (x i - x (i + 1))) + sm (n + 1) p * (x n - x (n + 1)))
    rw [ih]
    generalize sm n (fun i => sm (i + 1) p * (x i - x (i + 1))) = A
    generalize sm (n + 1) p = B
    grind
def Ris (n : Nat) (r : Nat → Int) : Prop := ∀ i, i + 1 < n → r i ≤ r (i + 1)
theorem Ris.le {n : Nat} {r : Nat → Int} (h : Ris n r) {i : Nat} : ∀ {j : Nat}, i ≤ j → j < n → r i ≤ r j
  | 0, h1, h2 => by
    have : i = 0 := by omega
    rw [this]; exact Int.le_refl _
  | j + 1, h1, h2 => by
    by_cases e : i = j + 1
    · rw [e]; exact Int.le_refl _
    · exact Int.le_trans (h.le (j := j) (by omega) (by omega)) (h j (by omega))
theorem pull_le {n : Nat} {p r : Nat → Int} (hr : Ris n r) (h0 : ∀ k, k ≤ n → 0 ≤ sm k p) (h1 : sm n p = 0) : sm n (fun i => p i * r i) ≤ 0 := by
  cases n with
  | zero => exact Int.le_refl _
  | succ n =>
    rw [sm_abel, h1, Int.zero_mul, Int.zero_add]
    refine sm_nonpos fun i hi => ?_
    have a1 := h0 (i + 1) (by omega)
    have a2 := hr i (by omega)
    have := Int.mul_le_mul_of_nonneg_left (show r i - r (i + 1) ≤ 0 by omega) a1
    rwa [Int.mul_zero] at this
def ab (a r : Int) : Int := if a - r < 0 then -(a - r) else a - r
theorem ab_bound {w p d : Int} (h1 : -w ≤ p) (h2 : p ≤ w) : p * d ≤ w * (if d < 0 then -d else d) := by
  split
  · rename_i h
    have := Int.mul_le_mul_of_nonneg_right (show -p ≤ w by omega) (show 0 ≤ -d by omega)
    rw [Int.neg_mul_neg] at this
    exact this
  · rename_i h
    exact Int.mul_le_mul_of_nonneg_right h2 (by omega)
structure SmC (n : Nat) (a w r p : Nat → Int) : Prop where
  ris : Ris n r
  bd : ∀ i, i < n → -w i ≤ p i ∧ p i ≤ w i
  nn : ∀ k, k ≤ n → 0 ≤ sm k p
  all : sm n p = 0
  cost : sm n (fun i => p i * a i) = sm n (fun i => w i * ab (a i) (r i))
theorem SmC.least {n : Nat} {a w r p r' : Nat → Int} (h : SmC n a w r p) (h' : Ris n r') : sm n (fun i => w i * ab (a i) (r i)) ≤ sm n (fun i => w i * ab (a i) (r' i)) := by
  rw [← h.cost]
  have e : sm n (fun i => p i * a i) = sm n (fun i => p i * (a i - r' i)) + sm n (fun i => p i * r' i) := by
    rw [← sm_add]
    refine sm_congr fun i _ => ?_
    rw [← Int.mul_add, Int.sub_add_cancel]
  have h1 := pull_le h' h.nn h.all
  have h2 : sm n (fun i => p i * (a i - r' i)) ≤ sm n (fun i => w i * ab (a i) (r' i)) := sm_le fun i hi => ab_bound (h.bd i hi).1 (h.bd i hi).2
  omega
theorem SmC.same {n : Nat} {a w r p r' p' : Nat → Int} (h : SmC n a w r p) (h' : SmC n a w r' p') : sm n (fun i => w i * ab (a i) (r i)) = sm n (fun i => w i * ab (a i) (r' i)) :=
  Int.le_antisymm (h.least h'.ris) (h'.least h.ris)
theorem sm_back (f : Nat → Int) : ∀ n : Nat, sm n (fun i => f (n - 1 - i)) = sm n f := by
  have front : ∀ (g : Nat → Int) (n : Nat), sm (n + 1) g = g 0 + sm n (fun i => g (i + 1)) := by
    intro g n
    induction n with
    | zero => show 0 + g 0 = g 0 + 0; omega
    | succ n ih =>
      show sm (n + 1) g + g (n + 1) = g 0 + (sm n (fun i => g (i + 1)) + g (n + 1))
      rw [ih]; omega
  intro n
  induction n with
  | zero => rfl
  | succ n ih =>
    rw [front]
    show f (n + 1 - 1 - 0) + sm n (fun i => f (n + 1 - 1 - (i + 1))) = sm n f + f n
    have : sm n (fun i => f (n + 1 - 1 - (i + 1))) = sm n (fun i => f (n - 1 - i)) := sm_congr fun i hi => by congr 1; omega
    rw [this, ih]
    show f n + sm n f = sm n f + f n
    omega
theorem Ris.turn {n : Nat} {r : Nat → Int} (h : Ris n r) : Ris n fun i => -r (n - 1 - i) := fun i hi => by
  have := h (n - 1 - (i + 1)) (by omega)
  have e : n - 1 - (i + 1) + 1 = n - 1 - i := by omega
  rw [e] at this
  show -r (n - 1 - i) ≤ -r (n - 1 - (i + 1))
  omega
theorem Ris.move {n : Nat} {r : Nat → Int} (h : Ris n r) (k : Int) : Ris n fun i => r i + k := fun i hi => by
  have := h i hi
  show r i + k ≤ r (i + 1) + k
  omega
theorem Ris.tri {n : Nat} {r : Nat → Int} (h : Ris n r) : Ris n fun i => 3 * r i := fun i hi => by
  have := h i hi
  show 3 * r i ≤ 3 * r (i + 1)
  omega
theorem ab_neg (a r : Int) : ab (-a) (-r) = ab a r := by unfold ab; split <;> split <;> omega
theorem ab_move (a r k : Int) : ab (a + k) (r + k) = ab a r := by unfold ab; split <;> split <;> omega
theorem ab_move' (a r k : Int) : ab (a + k) r = ab a (r - k) := by unfold ab; split <;> split <;> omega
theorem ab_neg' (a r : Int) : ab (-a) r = ab a (-r) := by unfold ab; split <;> split <;> omega
theorem ab_tri (a r : Int) : ab (3 * a) (3 * r) = 3 * ab a r := by unfold ab; split <;> split <;> omega
theorem sum_turned {n : Nat} {a w r p r' p' : Nat → Int} (h : SmC n a w r p) (h' : SmC n (fun i => -a (n - 1 - i)) (fun i => w (n - 1 - i)) r' p') :
    sm n (fun i => w (n - 1 - i) * ab (-a (n - 1 - i)) (r' i)) = sm n (fun i => w i * ab (a i) (r i)) := by
  apply Int.le_antisymm
  · refine Int.le_trans (h'.least h.ris.turn) (Int.le_of_eq ?_)
    rw [← sm_back (fun i => w i * ab (a i) (r i))]
    exact sm_congr fun i _ => by rw [ab_neg]
  · refine Int.le_trans (h.least h'.ris.turn) (Int.le_of_eq ?_)
    rw [← sm_back]
    refine sm_congr fun i hi => ?_
    have e : n - 1 - (n - 1 - i) = i := by omega
    show w (n - 1 - i) * ab (a (n - 1 - i)) (-r' (n - 1 - (n - 1 - i))) = _
    rw [e, ← ab_neg']
theorem sum_moved {n : Nat} {a w r p r' p' : Nat → Int} (k : Int) (h : SmC n a w r p) (h' : SmC n (fun i => a i + k) w r' p') :
    sm n (fun i => w i * ab (a i + k) (r' i)) = sm n (fun i => w i * ab (a i) (r i)) := by
  apply Int.le_antisymm
  · refine Int.le_trans (h'.least (h.ris.move k)) (Int.le_of_eq ?_)
    exact sm_congr fun i _ => by rw [ab_move]
  · refine Int.le_trans (h.least (h'.ris.move (-k))) (Int.le_of_eq ?_)
    exact sm_congr fun i _ => by rw [ab_move', Int.sub_eq_add_neg]
theorem SmC.tri {n : Nat} {a w r p : Nat → Int} (h : SmC n a w r p) : SmC n (fun i => 3 * a i) w (fun i => 3 * r i) p where
  ris := h.ris.tri
  bd := h.bd
  nn := h.nn
  all := h.all
  cost := by
    have e1 : sm n (fun i => p i * (3 * a i)) = 3 * sm n (fun i => p i * a i) := by
      rw [← sm_mul]; exact sm_congr fun i _ => by rw [Int.mul_left_comm]
    have e2 : sm n (fun i => w i * ab (3 * a i) (3 * r i)) = 3 * sm n (fun i => w i * ab (a i) (r i)) := by
      rw [← sm_mul]; exact sm_congr fun i _ => by rw [ab_tri, Int.mul_left_comm]
    rw [e1, e2, h.cost]
theorem sum_tri {n : Nat} {a w r p r' p' : Nat → Int} (h : SmC n a w r p) (h' : SmC n (fun i => 3 * a i) w r' p') :
    sm n (fun i => w i * ab (3 * a i) (r' i)) = 3 * sm n (fun i => w i * ab (a i) (r i)) := by
  rw [h'.same h.tri, ← sm_mul]
  exact sm_congr fun i _ => by rw [ab_tri, Int.mul_left_comm]
theorem sum_sorted {n : Nat} {a w r p : Nat → Int} (ha : Ris n a) (hw : ∀ i, i < n → 1 ≤ w i) (h : SmC n a w r p) : sm n (fun i => w i * ab (a i) (r i)) = 0 := by
  apply Int.le_antisymm
  · refine Int.le_trans (h.least ha) (sm_nonpos fun i _ => ?_)
    unfold ab
    simp
  · have : sm n (fun _ => 0) ≤ sm n (fun i => w i * ab (a i) (r i)) := sm_le fun i hi => Int.mul_nonneg (by have := hw i hi; omega) (by unfold ab; split <;> omega)
    rwa [sm_zero] at this
structure Mx (n : Nat) (a r : Nat → Int) (c : Int) : Prop where
  le : ∀ i, i < n → ab (a i) (r i) ≤ c
  at' : (n = 0 ∧ c = 0) ∨ ∃ i, i < n ∧ ab (a i) (r i) = c
structure EvC (n : Nat) (a r : Nat → Int) (f s : Nat) (c : Int) : Prop where
  ris : Ris n r
  mx : Mx n a r c
  pl : n = 0 ∨ (f ≤ s ∧ s < n ∧ 2 * c - 1 ≤ a f - a s)
theorem EvC.least {n : Nat} {a r r' : Nat → Int} {f s : Nat} {c c' : Int} (h : EvC n a r f s c) (h1 : Ris n r') (h2 : Mx n a r' c') : c ≤ c' := by
  rcases h.pl with e | ⟨h3, h4, h5⟩
  · rcases h.mx.at' with ⟨_, e1⟩ | ⟨i, hi, _⟩
    · rcases h2.at' with ⟨_, e2⟩ | ⟨i, hi, _⟩
      · omega
      · omega
    · omega
  · have b1 := h2.le f (by omega)
    have b2 := h2.le s h4
    have b3 := h1.le h3 h4
    unfold ab at b1 b2
    split at b1 <;> split at b2 <;> omega
theorem EvC.same {n : Nat} {a r r' : Nat → Int} {f s f' s' : Nat} {c c' : Int} (h : EvC n a r f s c) (h' : EvC n a r' f' s' c') : c = c' :=
  Int.le_antisymm (h.least h'.ris h'.mx) (h'.least h.ris h.mx)
theorem Mx.turn {n : Nat} {a r : Nat → Int} {c : Int} (h : Mx n a r c) : Mx n (fun i => -a (n - 1 - i)) (fun i => -r (n - 1 - i)) c where
  le i hi := by
    show ab (-a (n - 1 - i)) (-r (n - 1 - i)) ≤ c
    rw [ab_neg]; exact h.le _ (by omega)
  at' := by
    rcases h.at' with h | ⟨i, hi, e⟩
    · exact .inl h
    · refine .inr ⟨n - 1 - i, by omega, ?_⟩
      show ab (-a (n - 1 - (n - 1 - i))) (-r (n - 1 - (n - 1 - i))) = c
      rw [show n - 1 - (n - 1 - i) = i by omega, ab_neg, e]
theorem Mx.turn' {n : Nat} {a r : Nat → Int} {c : Int} (h : Mx n (fun i => -a (n - 1 - i)) r c) : Mx n a (fun i => -r (n - 1 - i)) c where
  le i hi := by
    have := h.le (n - 1 - i) (by omega)
    rw [show n - 1 - (n - 1 - i) = i by omega] at this
    show ab (a i) (-r (n - 1 - i)) ≤ c
    rw [← ab_neg']; exact this
  at' := by
    rcases h.at' with h | ⟨i, hi, e⟩
    · exact .inl h
    · refine .inr ⟨n - 1 - i, by omega, ?_⟩
      show ab (a (n - 1 - i)) (-r (n - 1 - (n - 1 - i))) = c
      rw [show n - 1 - (n - 1 - i) = i by omega, ← ab_neg', e]
theorem even_turned {n : Nat} {a r r' : Nat → Int} {f s f' s' : Nat} {c c' : Int} (h : EvC n a r f s c) (h' : EvC n (fun i => -a (n - 1 - i)) r' f' s' c') : c' = c :=
  Int.le_antisymm (h'.least h.ris.turn h.mx.turn) (h.least h'.ris.turn h'.mx.turn')
theorem even_moved {n : Nat} {a r r' : Nat → Int} {f s f' s' : Nat} {c c' : Int} (k : Int) (h : EvC n a r f s c) (h' : EvC n (fun i => a i + k) r' f' s' c') : c' = c := by
  refine Int.le_antisymm (h'.least (h.ris.move k) ⟨fun i hi => ?_, ?_⟩) (h.least (h'.ris.move (-k)) ⟨fun i hi => ?_, ?_⟩)
  · show ab (a i + k) (r i + k) ≤ c
    rw [ab_move]; exact h.mx.le i hi
  · rcases h.mx.at' with h | ⟨i, hi, e⟩
    · exact .inl h
    · exact .inr ⟨i, hi, by show ab (a i + k) (r i + k) = c; rw [ab_move, e]⟩
  · show ab (a i) (r' i + -k) ≤ c'
    rw [← Int.sub_eq_add_neg, ← ab_move']; exact h'.mx.le i hi
  · rcases h'.mx.at' with h | ⟨i, hi, e⟩
    · exact .inl h
    · exact .inr ⟨i, hi, by show ab (a i) (r' i + -k) = c'; rw [← Int.sub_eq_add_neg, ← ab_move', e]⟩
theorem even_sorted {n : Nat} {a r : Nat → Int} {f s : Nat} {c : Int} (ha : Ris n a) (h : EvC n a r f s c) : c = 0 := by
  have h0 : Mx n a a 0 := ⟨fun i _ => by unfold ab; simp, by
    cases n with
    | zero => exact .inl ⟨rfl, rfl⟩
    | succ n => exact .inr ⟨0, by omega, by unfold ab; simp⟩⟩
  have h1 := h.least ha h0
  rcases h.mx.at' with ⟨_, e⟩ | ⟨i, hi, e⟩
  · exact e
  · have : 0 ≤ ab (a i) (r i) := by unfold ab; split <;> omega
    omega
end Up

set_option maxHeartbeats 4000000
set_option linter.all false
namespace Up
open Fr1
def smq : Nat → (Nat → Rat) → Rat
  | 0, _ => 0
  | n + 1, f => smq n f + f n
theorem smq_congr {f g : Nat → Rat} : ∀ {n : Nat}, (∀ i, i < n → f i = g i) → smq n f = smq n g
  | 0, _ => rfl
  | n + 1, h => by
    show smq n f + f n = smq n g + g n
    rw [smq_congr fun i hi => h i (by omega), h n (by omega)]
theorem smq_le {f g : Nat → Rat} : ∀ {n : Nat}, (∀ i, i < n → f i ≤ g i) → smq n f ≤ smq n g
  | 0, _ => Rat.le_refl
  | n + 1, h => by
    have h1 := smq_le (n := n) fun i hi => h i (by omega)
    have h2 := h n (by omega)
    show smq n f + f n ≤ smq n g + g n
    grind
theorem smq_add (f g : Nat → Rat) : ∀ n : Nat, smq n (fun i => f i + g i) = smq n f + smq n g
  | 0 => by show (0 : Rat) = 0 + 0; grind
  | n + 1 => by
    have := smq_add f g n
    show smq n (fun i => f i + g i) + (f n + g n) = smq n f + f n + (smq n g + g n)
    grind
theorem smq_sub (f g : Nat → Rat) : ∀ n : Nat, smq n (fun i => f i - g i) = smq n f - smq n g
  | 0 => by show (0 : Rat) = 0 - 0; grind
  | n + 1 => by
    have := smq_sub f g n
    show smq n (fun i => f i - g i) + (f n - g n) = smq n f + f n - (smq n g + g n)
    grind
theorem smq_mul (k : Rat) (f : Nat → Rat) : ∀ n : Nat, smq n (fun i => k * f i) = k * smq n f
  | 0 => (Rat.mul_zero k).symm
  | n + 1 => by
    show smq n (fun i => k * f i) + k * f n = k * (smq n f + f n)
    rw [smq_mul k f n, Rat.mul_add]
theorem smq_zero (n : Nat) : smq n (fun _ => 0) = 0 := by
  induction n with
  | zero => rfl
  | succ n ih => show smq n (fun _ => 0) + 0 = 0; rw [ih, Rat.add_zero]
theorem smq_nonpos {f : Nat → Rat} {n : Nat} (h : ∀ i, i < n → f i ≤ 0) : smq n f ≤ 0 := by
  have := smq_le (g := fun _ => 0) h
  rwa [smq_zero] at this
theorem smq_nonneg {f : Nat → Rat} {n : Nat} (h : ∀ i, i < n → 0 ≤ f i) : 0 ≤ smq n f := by
  have := smq_le (f := fun _ => 0) h
  rwa [smq_zero] at this
theorem smq_nn_zero {f : Nat → Rat} {n : Nat} : (∀ i, i < n → 0 ≤ f i) → smq n f ≤ 0 → ∀ i, i < n → f i = 0 := by
  induction n with
  | zero => intro _ _ i hi; omega
  | succ n ih =>
    intro h h0 i hi
    have h1 : 0 ≤ smq n f := smq_nonneg fun i hi => h i (by omega)
    have h2 := h n (by omega)
    have h3 : smq n f + f n ≤ 0 := h0
    by_cases e : i = n
    · rw [e]; grind
    · exact ih (fun i hi => h i (by omega)) (by grind) i (by omega)
theorem smq_abel (p x : Nat → Rat) : ∀ n : Nat, smq (n + 1) (fun i => p i * x i) = smq (n + 1) p * x n + smq n (fun i => smq (i + 1) p * (x i - x (i + 1)))
  | 0 => by show 0 + p 0 * x 0 = (0 + p 0) * x 0 + 0; grind
  | n + 1 => by
    have ih := smq_abel p x n
    show smq (n + 1) (fun i => p i * x i) + p (n + 1) * x (n + 1) = (smq (n + 1) p + p (n + 1)) * x (n + 1) + (smq n (fun i => smq (i + 1) p * (x i - x (i + 1))) + smq (n + 1) p * (x n - x (n + 1)))
    rw [ih]
    generalize smq n (fun i => smq (i + 1) p * (x i - x (i + 1))) = A
    generalize smq (n + 1) p = B
    grind
theorem smq_front (g : Nat → Rat) (n : Nat) : smq (n + 1) g = g 0 + smq n (fun i => g (i + 1)) := by
  induction n with
  | zero => show 0 + g 0 = g 0 + 0; grind
  | succ n ih =>
    show smq (n + 1) g + g (n + 1) = g 0 + (smq n (fun i => g (i + 1)) + g (n + 1))
    rw [ih]; grind
theorem smq_split (f : Nat → Rat) (k : Nat) : ∀ n : Nat, smq (k + n) f = smq k f + smq n (fun i => f (k + i))
  | 0 => by show smq k f = smq k f + 0; grind
  | n + 1 => by
    show smq (k + n) f + f (k + n) = smq k f + (smq n (fun i => f (k + i)) + f (k + n))
    rw [smq_split f k n]; grind
theorem smq_back (f : Nat → Rat) : ∀ n : Nat, smq n (fun i => f (n - 1 - i)) = smq n f := by
  intro n
  induction n with
  | zero => rfl
  | succ n ih =>
    rw [smq_front]
    show f (n + 1 - 1 - 0) + smq n (fun i => f (n + 1 - 1 - (i + 1))) = smq n f + f n
    have : smq n (fun i => f (n + 1 - 1 - (i + 1))) = smq n (fun i => f (n - 1 - i)) := smq_congr fun i hi => by congr 1; omega
    rw [this, ih]
    show f n + smq n f = smq n f + f n
    grind
def lk (a w r : Nat → Rat) : Nat → Rat := fun i => w i * (a i - r i)
structure SqC (n : Nat) (a w r : Nat → Rat) : Prop where
  ris : ∀ i, i + 1 < n → r i ≤ r (i + 1)
  nn : ∀ k, k ≤ n → 0 ≤ smq k (lk a w r)
  all : smq n (lk a w r) = 0
  up : ∀ i, i + 1 < n → r i < r (i + 1) → smq (i + 1) (lk a w r) = 0
theorem SqC.own {n : Nat} {a w r : Nat → Rat} (h : SqC n a w r) : smq n (fun i => lk a w r i * r i) = 0 := by
  cases n with
  | zero => rfl
  | succ n =>
    rw [smq_abel, h.all, Rat.zero_mul, Rat.zero_add, ← smq_zero n]
    refine smq_congr fun i hi => ?_
    have h1 := h.ris i (by omega)
    by_cases e : r i < r (i + 1)
    · rw [h.up i (by omega) e, Rat.zero_mul]
    · have : r i = r (i + 1) := Rat.le_antisymm h1 (Rat.not_lt.mp e)
      rw [this]; grind
theorem SqC.other {n : Nat} {a w r x : Nat → Rat} (h : SqC n a w r) (hx : ∀ i, i + 1 < n → x i ≤ x (i + 1)) : smq n (fun i => lk a w r i * x i) ≤ 0 := by
  cases n with
  | zero => exact Rat.le_refl
  | succ n =>
    rw [smq_abel, h.all, Rat.zero_mul, Rat.zero_add]
    refine smq_nonpos fun i hi => ?_
    have a1 := h.nn (i + 1) (by omega)
    have a2 := hx i (by omega)
    have := Rat.mul_le_mul_of_nonneg_left (show x i - x (i + 1) ≤ 0 by grind) a1
    rwa [Rat.mul_zero] at this
theorem sq_nn (x : Rat) : 0 ≤ x * x := by
  rcases Rat.le_total (a := 0) (b := x) with h | h
  · exact Rat.mul_nonneg h h
  · have := Rat.mul_nonneg (show 0 ≤ -x by grind) (show 0 ≤ -x by grind)
    grind
theorem SqC.uniq {n : Nat} {a w r r' : Nat → Rat} (hw : ∀ i, i < n → 0 < w i) (h : SqC n a w r) (h' : SqC n a w r') : ∀ i, i < n → r i = r' i := by
  have e1 := h.own
  have e2 := h.other h'.ris
  have e3 := h'.own
  have e4 := h'.other h.ris
  have key : smq n (fun i => w i * ((r i - r' i) * (r i - r' i))) ≤ 0 := by
    have : smq n (fun i => w i * ((r i - r' i) * (r i - r' i))) = (smq n (fun i => lk a w r i * r' i) - smq n (fun i => lk a w r i * r i)) + (smq n (fun i => lk a w r' i * r i) - smq n (fun i => lk a w r' i * r' i)) := by
      rw [← smq_sub, ← smq_sub, ← smq_add]
      refine smq_congr fun i _ => ?_
      show _ = (w i * (a i - r i) * r' i - w i * (a i - r i) * r i) + (w i * (a i - r' i) * r i - w i * (a i - r' i) * r' i)
      grind
    grind
  intro i hi
  have := smq_nn_zero (fun i hi => Rat.mul_nonneg (Rat.le_of_lt (hw i hi)) (sq_nn _)) key i hi
  rcases Rat.mul_eq_zero.mp this with e | e
  · have := hw i hi
    grind
  · rcases Rat.mul_eq_zero.mp e with e | e <;> grind
theorem SqC.move {n : Nat} {a w r : Nat → Rat} (k : Rat) (h : SqC n a w r) : SqC n (fun i => a i + k) w (fun i => r i + k) := by
  have e : lk (fun i => a i + k) w (fun i => r i + k) = lk a w r := by
    funext i
    show w i * (a i + k - (r i + k)) = w i * (a i - r i)
    grind
  exact ⟨fun i hi => by have := h.ris i hi; grind, fun k hk => by rw [e]; exact h.nn k hk, by rw [e]; exact h.all, fun i hi hu => by rw [e]; exact h.up i hi (by grind)⟩
theorem SqC.great {n : Nat} {a w r : Nat → Rat} {c : Rat} (hc : 0 < c) (h : SqC n a w r) : SqC n (fun i => c * a i) w (fun i => c * r i) := by
  have e : ∀ k, smq k (lk (fun i => c * a i) w (fun i => c * r i)) = c * smq k (lk a w r) := fun k => by
    rw [← smq_mul]
    refine smq_congr fun i _ => ?_
    show w i * (c * a i - c * r i) = c * (w i * (a i - r i))
    grind
  refine ⟨fun i hi => Rat.mul_le_mul_of_nonneg_left (h.ris i hi) (Rat.le_of_lt hc), fun k hk => by rw [e]; exact Rat.mul_nonneg (Rat.le_of_lt hc) (h.nn k hk), by rw [e, h.all, Rat.mul_zero], fun i hi hu => ?_⟩
  rw [e, h.up i hi ((Rat.mul_lt_mul_left hc).mp hu), Rat.mul_zero]
theorem SqC.heavy {n : Nat} {a w r : Nat → Rat} {c : Rat} (hc : 0 < c) (h : SqC n a w r) : SqC n a (fun i => c * w i) r := by
  have e : ∀ k, smq k (lk a (fun i => c * w i) r) = c * smq k (lk a w r) := fun k => by
    rw [← smq_mul]
    refine smq_congr fun i _ => ?_
    show c * w i * (a i - r i) = c * (w i * (a i - r i))
    grind
  exact ⟨h.ris, fun k hk => by rw [e]; exact Rat.mul_nonneg (Rat.le_of_lt hc) (h.nn k hk), by rw [e, h.all, Rat.mul_zero], fun i hi hu => by rw [e, h.up i hi hu, Rat.mul_zero]⟩
theorem SqC.turn {n : Nat} {a w r : Nat → Rat} (h : SqC n a w r) : SqC n (fun i => -a (n - 1 - i)) (fun i => w (n - 1 - i)) (fun i => -r (n - 1 - i)) := by
  have e : ∀ k, k ≤ n → smq k (lk (fun i => -a (n - 1 - i)) (fun i => w (n - 1 - i)) (fun i => -r (n - 1 - i))) = smq (n - k) (lk a w r) := by
    intro k hk
    have b1 : smq k (lk (fun i => -a (n - 1 - i)) (fun i => w (n - 1 - i)) (fun i => -r (n - 1 - i))) = smq k (fun i => (fun j => -1 * lk a w r (n - k + j)) (k - 1 - i)) := smq_congr fun i hi => by
      show w (n - 1 - i) * (-a (n - 1 - i) - -r (n - 1 - i)) = -1 * (w (n - k + (k - 1 - i)) * (a (n - k + (k - 1 - i)) - r (n - k + (k - 1 - i))))
      rw [show n - k + (k - 1 - i) = n - 1 - i by omega]
      grind
    rw [b1, smq_back (fun j => -1 * lk a w r (n - k + j)) k, smq_mul]
    have b2 := smq_split (lk a w r) (n - k) k
    rw [show n - k + k = n by omega, h.all] at b2
    grind
  refine ⟨fun i hi => ?_, fun k hk => by rw [e k hk]; exact h.nn _ (by omega), by rw [e n (Nat.le_refl n), Nat.sub_self]; rfl, fun i hi hu => ?_⟩
  · have := h.ris (n - 1 - (i + 1)) (by omega)
    rw [show n - 1 - (i + 1) + 1 = n - 1 - i by omega] at this
    show -r (n - 1 - i) ≤ -r (n - 1 - (i + 1))
    grind
  · rw [e _ (by omega)]
    have hu : -r (n - 1 - i) < -r (n - 1 - (i + 1)) := hu
    have := h.up (n - 1 - (i + 1)) (by omega) (by rw [show n - 1 - (i + 1) + 1 = n - 1 - i by omega]; grind)
    rw [show n - 1 - (i + 1) + 1 = n - (i + 1) by omega] at this
    exact this
theorem SqC.rest {n : Nat} {a w : Nat → Rat} (h : ∀ i, i + 1 < n → a i ≤ a (i + 1)) : SqC n a w a := by
  have e : ∀ k, smq k (lk a w a) = 0 := fun k => by
    rw [← smq_zero k]
    refine smq_congr fun i _ => ?_
    show w i * (a i - a i) = 0
    grind
  exact ⟨h, fun k _ => by rw [e]; exact Rat.le_refl, e n, fun i _ _ => e _⟩
def vl (f : Int × Int) : Rat := (f.1 : Rat) / (f.2 : Rat)
theorem cast_pos {q : Int} (h : 0 < q) : (0 : Rat) < (q : Rat) := Rat.intCast_pos.mpr h
theorem cast_ne {q : Int} (h : 0 < q) : (q : Rat) ≠ 0 := fun e => by
  have := Rat.intCast_eq_zero_iff.mp e
  omega
theorem div_eq {a b c d : Rat} (hb : b ≠ 0) (hd : d ≠ 0) : a / b = c / d ↔ a * d = c * b := by
  constructor
  · intro h
    have h1 := Rat.div_mul_cancel (a := a) hb
    have h2 := Rat.div_mul_cancel (a := c) hd
    rw [h] at h1
    grind
  · intro h
    have h1 := Rat.div_mul_cancel (a := a) hb
    have h2 := Rat.div_mul_cancel (a := c) hd
    grind
theorem vl_low {t b : Int} (hb : 0 < b) : vl (lowP t b) = (t : Rat) / (b : Rat) := by
  unfold vl
  rw [div_eq (cast_ne (lowP_pos hb)) (cast_ne hb), ← Rat.intCast_mul, ← Rat.intCast_mul, lowP_cross hb]
theorem vl_inj {f g : Int × Int} (hf : 0 < f.2) (hg : 0 < g.2) (gf : Int.gcd f.1 f.2 = 1) (gg : Int.gcd g.1 g.2 = 1) (h : vl f = vl g) : f = g := by
  unfold vl at h
  rw [div_eq (cast_ne hf) (cast_ne hg), ← Rat.intCast_mul, ← Rat.intCast_mul, Rat.intCast_inj] at h
  have e1 := lowP_eq hf gf
  have e2 := lowP_eq hg gg
  have e3 := lowP_cong hf hg h
  rw [e1, e2] at e3
  exact e3
theorem vl_lt {p q p' q' : Int} (hq : 0 < q) (hq' : 0 < q') : vl (p, q) < vl (p', q') ↔ p * q' < p' * q := by
  unfold vl
  show (p : Rat) / (q : Rat) < (p' : Rat) / (q' : Rat) ↔ _
  rw [Rat.lt_div_iff (cast_pos hq'), ← Rat.intCast_lt_intCast, Rat.intCast_mul, Rat.intCast_mul]
  have h1 := Rat.div_mul_cancel (a := (p : Rat)) (cast_ne hq)
  generalize (p : Rat) / (q : Rat) = x at h1 ⊢
  rw [← h1]
  have e : x * (q : Rat) * (q' : Rat) = (q : Rat) * (x * (q' : Rat)) := by grind
  have e' : (p' : Rat) * (q : Rat) = (q : Rat) * (p' : Rat) := by grind
  rw [e, e', Rat.mul_lt_mul_left (cast_pos hq)]
theorem vl_zero {p q : Int} (hq : 0 < q) : vl (p, q) = 0 ↔ p = 0 := by
  unfold vl
  show (p : Rat) / (q : Rat) = 0 ↔ _
  have h1 := Rat.div_mul_cancel (a := (p : Rat)) (cast_ne hq)
  constructor
  · intro h
    rw [h, Rat.zero_mul] at h1
    exact Rat.intCast_eq_zero_iff.mp h1.symm
  · intro h
    rw [h]
    show (0 : Rat) / _ = 0
    rw [Rat.div_def, Rat.zero_mul]
end Up

set_option maxHeartbeats 4000000
set_option linter.all false
namespace Up
open Fr1
theorem gd_of {ns : List Int} {i : Nat} {n : Int} (h : ns[i]? = some n) : ns.getD i 0 = n := by rw [List.getD_eq_getElem?_getD, h]; rfl
theorem gd_some {ns : List Int} {i : Nat} (h : i < ns.length) : ns[i]? = some (ns.getD i 0) := by rw [List.getD_eq_getElem?_getD, List.getElem?_eq_getElem h]; rfl
theorem gd_out {ns : List Int} {i : Nat} (h : ns.length ≤ i) : ns.getD i 0 = 0 := by rw [List.getD_eq_getElem?_getD, List.getElem?_eq_none h]; rfl
theorem gd_map {ns : List Int} {i : Nat} (f : Int → Int) (h : i < ns.length) : (ns.map f).getD i 0 = f (ns.getD i 0) := by
  rw [List.getD_eq_getElem?_getD, List.getElem?_map, gd_some h]; rfl
theorem gd_rev {ns : List Int} {i : Nat} (h : i < ns.length) : ns.reverse.getD i 0 = ns.getD (ns.length - 1 - i) 0 := by
  rw [List.getD_eq_getElem?_getD, List.getElem?_reverse h, ← List.getD_eq_getElem?_getD]
def Rise (ns : List Int) : Prop := ∀ i, i + 1 < ns.length → ns.getD i 0 ≤ ns.getD (i + 1) 0
theorem Rise.le {ns : List Int} (h : Rise ns) {i : Nat} : ∀ {j : Nat}, i ≤ j → j < ns.length → ns.getD i 0 ≤ ns.getD j 0
  | 0, hij, _ => by obtain rfl : i = 0 := by omega
                    exact Int.le_refl _
  | j + 1, hij, hj => by
    by_cases e : i = j + 1
    · rw [e]; exact Int.le_refl _
    · exact Int.le_trans (Rise.le h (j := j) (by omega) (by omega)) (h j hj)
theorem dl_gd {ns rs : List Int} {i : Nat} (h : i < ns.length) (h2 : i < rs.length) : (dl ns rs).getD i 0 = dif (ns.getD i 0) (rs.getD i 0) := gd_of (dl_at (gd_some h) (gd_some h2))
theorem maxL_ge {xs : List Int} {x : Int} (h : x ∈ xs) : x ≤ maxL xs := (maxL_from xs 0).2.1 x h
theorem maxL_le {xs : List Int} {c : Int} (h0 : 0 ≤ c) (h : ∀ x ∈ xs, x ≤ c) : maxL xs ≤ c := by
  rcases (maxL_from xs 0).2.2 with e | e
  · unfold maxL; rw [e]; exact h0
  · exact h _ e
theorem mem_dl {ns rs : List Int} (h : rs.length = ns.length) {x : Int} (hx : x ∈ dl ns rs) : ∃ i, i < ns.length ∧ x = dif (ns.getD i 0) (rs.getD i 0) := by
  obtain ⟨i, hi, rfl⟩ := List.mem_iff_getElem.mp hx
  have hl : (dl ns rs).length = ns.length := dl_length h.symm
  have hi' : i < ns.length := by omega
  refine ⟨i, hi', ?_⟩
  rw [← dl_gd hi' (by omega), List.getD_eq_getElem?_getD, List.getElem?_eq_getElem hi]
  rfl
theorem dl_mem {ns rs : List Int} (h : rs.length = ns.length) {i : Nat} (hi : i < ns.length) : dif (ns.getD i 0) (rs.getD i 0) ∈ dl ns rs := by
  have := dl_at (gd_some hi) (gd_some (ns := rs) (i := i) (by omega))
  exact List.mem_of_getElem? this
/-! ### running greatest and least -/
def mx (i j : Int) : Int := if j > i then j else i
def mn (i j : Int) : Int := if j < i then j else i
def stp (f : Int → Int → Int) (r : List Int) (n : Int) : List Int := r ++ [match r.getLast? with | none => n | some m => f m n]
def runL (f : Int → Int → Int) (ns : List Int) : List Int := ns.foldl (stp f) []
theorem runL_snoc (f : Int → Int → Int) (ns : List Int) (n : Int) : runL f (ns ++ [n]) = stp f (runL f ns) n := by unfold runL; rw [List.foldl_append]; rfl
theorem stp_length (f : Int → Int → Int) (r : List Int) (n : Int) : (stp f r n).length = r.length + 1 := by unfold stp; simp
theorem runL_take (f : Int → Int → Int) (ns : List Int) : ∀ k, k ≤ ns.length → (runL f (ns.take k)).length = k
  | 0, _ => rfl
  | k + 1, h => by
    rw [take_snoc (gd_some (ns := ns) (i := k) (by omega)), runL_snoc, stp_length, runL_take f ns k (by omega)]
theorem runL_length (f : Int → Int → Int) (ns : List Int) : (runL f ns).length = ns.length := by
  have := runL_take f ns ns.length (Nat.le_refl _)
  rw [List.take_length] at this
  exact this
def RunTo (R : Int → Int → Prop) (ns : List Int) (i : Nat) (u : Int) : Prop := (∃ j, j ≤ i ∧ ns.getD j 0 = u) ∧ ∀ j, j ≤ i → R (ns.getD j 0) u
structure Good (f : Int → Int → Int) (R : Int → Int → Prop) : Prop where
  rfl' : ∀ x, R x x
  tr : ∀ x y z, R x y → R y z → R x z
  l : ∀ m n, R m (f m n)
  r : ∀ m n, R n (f m n)
  ch : ∀ m n, f m n = m ∨ f m n = n
theorem gd_left {xs ys : List Int} {i : Nat} (h : i < xs.length) : (xs ++ ys).getD i 0 = xs.getD i 0 := by
  rw [List.getD_eq_getElem?_getD, List.getElem?_append_left h, ← List.getD_eq_getElem?_getD]
theorem gd_last {xs : List Int} {x : Int} {i : Nat} (h : i = xs.length) : (xs ++ [x]).getD i 0 = x := by
  subst h
  rw [List.getD_eq_getElem?_getD, List.getElem?_append_right (Nat.le_refl _), Nat.sub_self]
  rfl
theorem runL_to {f : Int → Int → Int} {R : Int → Int → Prop} (G : Good f R) (ns : List Int) : ∀ k, k ≤ ns.length → ∀ i, i < k → RunTo R ns i ((runL f (ns.take k)).getD i 0)
  | 0, _, i, hi => absurd hi (Nat.not_lt_zero _)
  | k + 1, h, i, hi => by
    have hl := runL_take f ns k (by omega)
    rw [take_snoc (gd_some (ns := ns) (i := k) (by omega)), runL_snoc]
    unfold stp
    by_cases hik : i < k
    · rw [gd_left (by omega)]
      exact runL_to G ns k (by omega) i hik
    · obtain rfl : i = k := by omega
      rw [gd_last (by omega)]
      cases i with
      | zero =>
        have e : runL f (ns.take 0) = [] := rfl
        rw [e]
        refine ⟨⟨0, Nat.le_refl _, rfl⟩, fun j hj => ?_⟩
        obtain rfl : j = 0 := by omega
        exact G.rfl' _
      | succ i =>
        have e : (runL f (ns.take (i + 1))).getLast? = some ((runL f (ns.take (i + 1))).getD i 0) := by
          rw [List.getLast?_eq_getElem?, hl, Nat.add_sub_cancel]
          exact gd_some (by omega)
        rw [e]
        obtain ⟨⟨j0, h1, h2⟩, h3⟩ := runL_to G ns (i + 1) (by omega) i (by omega)
        show RunTo R ns (i + 1) (f ((runL f (ns.take (i + 1))).getD i 0) (ns.getD (i + 1) 0))
        refine ⟨?_, fun j hj => ?_⟩
        · rcases G.ch ((runL f (ns.take (i + 1))).getD i 0) (ns.getD (i + 1) 0) with e | e
          · exact ⟨j0, by omega, by rw [e]; exact h2⟩
          · exact ⟨i + 1, Nat.le_refl _, e.symm⟩
        · by_cases hji : j = i + 1
          · rw [hji]; exact G.r _ _
          · exact G.tr _ _ _ (h3 j (by omega)) (G.l _ _)
theorem runL_at {f : Int → Int → Int} {R : Int → Int → Prop} (G : Good f R) {ns : List Int} {i : Nat} (h : i < ns.length) : RunTo R ns i ((runL f ns).getD i 0) := by
  have := runL_to G ns ns.length (Nat.le_refl _) i h
  rw [List.take_length] at this
  exact this
theorem good_mx : Good mx (fun x u => x ≤ u) := ⟨fun _ => Int.le_refl _, fun _ _ _ => Int.le_trans, fun m n => by unfold mx; split <;> omega, fun m n => by unfold mx; split <;> omega, fun m n => by unfold mx; split <;> simp⟩
theorem good_mn : Good mn (fun x u => u ≤ x) := ⟨fun _ => Int.le_refl _, fun _ _ _ h1 h2 => Int.le_trans h2 h1, fun m n => by unfold mn; split <;> omega, fun m n => by unfold mn; split <;> omega, fun m n => by unfold mn; split <;> simp⟩
def upL (ns : List Int) : List Int := runL mx ns
def loL (ns : List Int) : List Int := (runL mn ns.reverse).reverse
theorem upL_length (ns : List Int) : (upL ns).length = ns.length := runL_length _ _
theorem loL_length (ns : List Int) : (loL ns).length = ns.length := by unfold loL; rw [List.length_reverse, runL_length, List.length_reverse]
theorem up_at {ns : List Int} {i : Nat} (h : i < ns.length) : (∃ j, j ≤ i ∧ ns.getD j 0 = (upL ns).getD i 0) ∧ ∀ j, j ≤ i → ns.getD j 0 ≤ (upL ns).getD i 0 := runL_at good_mx h
theorem lo_at {ns : List Int} {i : Nat} (h : i < ns.length) : (∃ j, i ≤ j ∧ j < ns.length ∧ ns.getD j 0 = (loL ns).getD i 0) ∧ ∀ j, i ≤ j → j < ns.length → (loL ns).getD i 0 ≤ ns.getD j 0 := by
  have hl : (runL mn ns.reverse).length = ns.length := by rw [runL_length, List.length_reverse]
  have e : (loL ns).getD i 0 = (runL mn ns.reverse).getD (ns.length - 1 - i) 0 := by unfold loL; rw [gd_rev (by omega), hl]
  rw [e]
  obtain ⟨⟨j, h1, h2⟩, h3⟩ := runL_at good_mn (ns := ns.reverse) (i := ns.length - 1 - i) (by rw [List.length_reverse]; omega)
  refine ⟨⟨ns.length - 1 - j, by omega, by omega, ?_⟩, fun k hk hk2 => ?_⟩
  · rw [← h2, gd_rev (by omega)]
  · have z := h3 (ns.length - 1 - k) (by omega)
    rw [gd_rev (by omega), show ns.length - 1 - (ns.length - 1 - k) = k by omega] at z
    exact z
theorem up_rise (ns : List Int) : Rise (upL ns) := fun i hi => by
  rw [upL_length] at hi
  obtain ⟨⟨j, h1, h2⟩, _⟩ := up_at (ns := ns) (i := i) (by omega)
  rw [← h2]
  exact (up_at (ns := ns) (i := i + 1) hi).2 j (by omega)
theorem lo_rise (ns : List Int) : Rise (loL ns) := fun i hi => by
  rw [loL_length] at hi
  obtain ⟨⟨j, h1, h2, h3⟩, _⟩ := lo_at (ns := ns) (i := i + 1) hi
  rw [← h3]
  exact (lo_at (ns := ns) (i := i) (by omega)).2 j (by omega) h2
/-! ### the deepest fall -/
structure FallI (ns : List Int) (i top t p : Nat) (d : Int) : Prop where
  tp : t ≤ p
  pi : p < i ∨ p = 0
  dd : d = ns.getD t 0 - ns.getD p 0
  nn : 0 ≤ d
  tl : top < i ∨ top = 0
  tm : ∀ j, j < i → ns.getD j 0 ≤ ns.getD top 0
  al : ∀ j k, j ≤ k → k < i → ns.getD j 0 - ns.getD k 0 ≤ d
theorem FallI.zero (ns : List Int) : FallI ns 0 0 0 0 0 := ⟨Nat.le_refl _, .inr rfl, by omega, by omega, .inr rfl, fun j h => absurd h (Nat.not_lt_zero _), fun j k _ h => absurd h (Nat.not_lt_zero _)⟩
theorem FallI.step {ns : List Int} {i top t p : Nat} {d : Int} (h : FallI ns i top t p d) (hi : i < ns.length) {top' : Nat} (ht : top' = if ns.getD i 0 > ns.getD top 0 then i else top) :
    (ns.getD top' 0 - ns.getD i 0 > d → FallI ns (i + 1) top' top' i (ns.getD top' 0 - ns.getD i 0)) ∧ (¬ (ns.getD top' 0 - ns.getD i 0 > d) → FallI ns (i + 1) top' t p d) := by
  have t1 : top' < i + 1 := by
    rw [ht]
    rcases h.tl with z | z <;> split <;> omega
  have t2 : ∀ j, j < i + 1 → ns.getD j 0 ≤ ns.getD top' 0 := fun j hj => by
    rw [ht]
    by_cases hji : j = i
    · subst hji; split <;> omega
    · have := h.tm j (by omega)
      split <;> omega
  refine ⟨fun hd => ⟨by omega, by omega, rfl, by have := h.nn; omega, .inl t1, t2, fun j k hjk hk => ?_⟩, fun hd => ⟨h.tp, by rcases h.pi with z | z <;> omega, h.dd, h.nn, .inl t1, t2, fun j k hjk hk => ?_⟩⟩
  · by_cases hki : k = i
    · subst hki
      have := t2 j (by omega)
      omega
    · have := h.al j k hjk (by omega)
      omega
  · by_cases hki : k = i
    · subst hki
      have := t2 j (by omega)
      omega
    · exact h.al j k hjk (by omega)
structure Fall (ns : List Int) (t p : Nat) (d : Int) : Prop where
  tp : t ≤ p
  pi : p < ns.length ∨ p = 0
  dd : d = ns.getD t 0 - ns.getD p 0
  nn : 0 ≤ d
  al : ∀ j k, j ≤ k → k < ns.length → ns.getD j 0 - ns.getD k 0 ≤ d
theorem FallI.fall {ns : List Int} {top t p : Nat} {d : Int} (h : FallI ns ns.length top t p d) : Fall ns t p d := ⟨h.tp, h.pi, h.dd, h.nn, h.al⟩
/-! ### Evened -/
structure EvP (ns row : List Int) (f s : Int) : Prop where
  len : row.length = ns.length
  ris : Rise row
  f0 : 0 ≤ f
  fs : f ≤ s
  sl : s < ns.length ∨ s = 0
  sh : 2 * maxL (dl ns row) - 1 ≤ ns.getD f.toNat 0 - ns.getD s.toNat 0
theorem up_fall {ns : List Int} {m : Int} (h : ∀ j k, j ≤ k → k < ns.length → ns.getD j 0 - ns.getD k 0 ≤ m) {i : Nat} (hi : i < ns.length) : ns.getD i 0 ≤ (upL ns).getD i 0 ∧ (upL ns).getD i 0 - ns.getD i 0 ≤ m := by
  obtain ⟨⟨j, h1, h2⟩, h3⟩ := up_at hi
  have := h3 i (Nat.le_refl _)
  have := h j i h1 hi
  omega
theorem map_riseS {ns : List Int} (k : Int) (h : Rise ns) : Rise (ns.map fun x => x - k) := fun i hi => by
  rw [List.length_map] at hi
  rw [gd_map _ (by omega), gd_map _ hi]
  have := h i hi
  omega
theorem evened_ok {ns : List Int} {t p : Nat} {d : Int} (h : Fall ns t p d) : EvP ns ((upL ns).map fun x => x - (d + 1) / 2) t p := by
  have hl : ((upL ns).map fun x => x - (d + 1) / 2).length = ns.length := by rw [List.length_map, upL_length]
  refine ⟨hl, map_riseS _ (up_rise ns), by omega, by have := h.tp; omega, by rcases h.pi with z | z <;> omega, ?_⟩
  rw [Int.toNat_natCast, Int.toNat_natCast, ← h.dd]
  have hm : maxL (dl ns ((upL ns).map fun x => x - (d + 1) / 2)) ≤ (d + 1) / 2 := by
    refine maxL_le (by have := h.nn; omega) fun x hx => ?_
    obtain ⟨i, hi, rfl⟩ := mem_dl hl hx
    rw [gd_map _ (by rw [upL_length]; exact hi)]
    have := up_fall h.al hi
    unfold dif
    split <;> omega
  omega
/-! ### Band, Barred -/
structure BaP (ns lows highs : List Int) (m : Int) : Prop where
  lo : lows = (upL ns).map fun x => x - m
  hi : highs = (loL ns).map fun x => x + m
  al : ∀ j k, j ≤ k → k < ns.length → ns.getD j 0 - ns.getD k 0 ≤ 2 * m
theorem Fall.most {ns : List Int} {t p : Nat} {d : Int} (h : Fall ns t p d) {m : Int} (hm : 0 ≤ m) : (∀ j k, j ≤ k → k < ns.length → ns.getD j 0 - ns.getD k 0 ≤ 2 * m) ↔ d ≤ 2 * m := by
  refine ⟨fun z => ?_, fun z j k h1 h2 => Int.le_trans (h.al j k h1 h2) z⟩
  rcases h.pi with e | e
  · rw [h.dd]; exact z t p h.tp e
  · have := h.tp
    have : t = 0 := by omega
    rw [h.dd, e, this]
    omega
structure BrP (ns : List Int) (f s m : Int) : Prop where
  f0 : 0 ≤ f
  fs : f < s
  sl : s < ns.length
  gt : 2 * m < ns.getD f.toNat 0 - ns.getD s.toNat 0
structure Wi (ns row : List Int) (m : Int) : Prop where
  ris : Rise row
  wi : ∀ i, i < ns.length → -m ≤ ns.getD i 0 - row.getD i 0 ∧ ns.getD i 0 - row.getD i 0 ≤ m
structure BaL (ns lows highs : List Int) (m : Int) : Prop where
  l1 : lows.length = ns.length
  l2 : highs.length = ns.length
  w1 : Wi ns lows m
  w2 : Wi ns highs m
  lh : ∀ i, i < ns.length → lows.getD i 0 ≤ highs.getD i 0
  t1 : ∀ i, i < ns.length → lows.getD i 0 = ns.getD i 0 - m ∨ (0 < i ∧ lows.getD (i - 1) 0 = lows.getD i 0)
  t2 : ∀ i, i < ns.length → highs.getD i 0 = ns.getD i 0 + m ∨ (i + 1 < ns.length ∧ highs.getD (i + 1) 0 = highs.getD i 0)
theorem BaL.low {ns lows highs : List Int} {m : Int} (h : BaL ns lows highs m) : ∀ i, i < ns.length → (∃ j, j ≤ i ∧ ns.getD j 0 = lows.getD i 0 + m) ∧ ∀ j, j ≤ i → ns.getD j 0 ≤ lows.getD i 0 + m
  | 0, hi => by
    have := h.t1 0 hi
    refine ⟨⟨0, Nat.le_refl _, by omega⟩, fun j hj => ?_⟩
    obtain rfl : j = 0 := by omega
    have := (h.w1.wi 0 hi).2
    omega
  | i + 1, hi => by
    obtain ⟨⟨j0, a1, a2⟩, a3⟩ := BaL.low h i (by omega)
    have r := h.w1.ris i (by rw [h.l1]; exact hi)
    refine ⟨?_, fun j hj => ?_⟩
    · rcases h.t1 (i + 1) hi with e | ⟨_, e⟩
      · exact ⟨i + 1, Nat.le_refl _, by omega⟩
      · rw [Nat.add_sub_cancel] at e
        exact ⟨j0, by omega, by omega⟩
    · by_cases hji : j = i + 1
      · subst hji
        have := (h.w1.wi (i + 1) hi).2
        omega
      · have := a3 j (by omega)
        omega
end Up

set_option maxHeartbeats 4000000
set_option linter.all false
namespace Up
open Fr1
/-! ### rows of fractions -/
abbrev fz : Int × Int := (0, 1)
def lk0 (ns ws : List Int) (fs : List (Int × Int)) (j : Nat) : Int := ws.getD j 0 * (ns.getD j 0 * (fs.getD j fz).2 - (fs.getD j fz).1)
def PS (ns ws : List Int) (fs : List (Int × Int)) (k : Nat) : Int := sm k (lk0 ns ws fs)
structure SqP (ns ws : List Int) (fs : List (Int × Int)) : Prop where
  len : fs.length = ns.length
  ris : ∀ i, i + 1 < ns.length → (fs.getD i fz).1 * (fs.getD (i + 1) fz).2 ≤ (fs.getD (i + 1) fz).1 * (fs.getD i fz).2
  nn : ∀ k, k ≤ ns.length → 0 ≤ PS ns ws fs k
  tot : PS ns ws fs ns.length = 0
  ch : ∀ i, i + 1 < ns.length → fs.getD i fz ≠ fs.getD (i + 1) fz → PS ns ws fs (i + 1) = 0
/-! ### blocks -/
structure Blk (A B : Nat → Int) (lo hi : Nat) (S W : Int) : Prop where
  lt : lo < hi
  s : S = A hi - A lo
  w : W = B hi - B lo
  pos : 0 < W
  pre : ∀ k, lo ≤ k → k ≤ hi → S * (B k - B lo) ≤ (A k - A lo) * W
theorem le_cancel {a b c : Int} (hc : 0 < c) (h : a * c ≤ b * c) : a ≤ b := Int.le_of_mul_le_mul_right h hc
theorem lt_cancel {a b c : Int} (hc : 0 < c) (h : a * c < b * c) : a < b := by
  by_cases z : a < b
  · exact z
  · have := Int.mul_le_mul_of_nonneg_right (show b ≤ a by omega) (Int.le_of_lt hc)
    omega
theorem Blk.join {A B : Nat → Int} {lo mid hi : Nat} {Sa Wa Sb Wb : Int} (mB : ∀ i j, i ≤ j → B i ≤ B j) (a : Blk A B lo mid Sa Wa) (b : Blk A B mid hi Sb Wb) (h : Sb * Wa ≤ Sa * Wb) : Blk A B lo hi (Sa + Sb) (Wa + Wb) := by
  have pa := a.pos
  have pb := b.pos
  refine ⟨by have := a.lt; have := b.lt; omega, by rw [a.s, b.s]; omega, by rw [a.w, b.w]; omega, by omega, fun k h1 h2 => ?_⟩
  by_cases hk : k ≤ mid
  · -- within the first
    have c1 := a.pre k h1 hk
    have nn : 0 ≤ B k - B lo := by have := mB lo k h1; omega
    generalize A k - A lo = Sp at c1 ⊢
    generalize B k - B lo = Wp at c1 nn ⊢
    have c2 : Sb * Wp ≤ Sp * Wb := by
      refine le_cancel pa ?_
      have e1 : Sa * Wp * Wb ≤ Sp * Wa * Wb := Int.mul_le_mul_of_nonneg_right c1 (Int.le_of_lt pb)
      have e2 : Sb * Wa * Wp ≤ Sa * Wb * Wp := Int.mul_le_mul_of_nonneg_right h nn
      calc Sb * Wp * Wa = Sb * Wa * Wp := by rw [Int.mul_assoc, Int.mul_comm Wp, ← Int.mul_assoc]
        _ ≤ Sa * Wb * Wp := e2
        _ = Sa * Wp * Wb := by rw [Int.mul_assoc, Int.mul_comm Wb, ← Int.mul_assoc]
        _ ≤ Sp * Wa * Wb := e1
        _ = Sp * Wb * Wa := by rw [Int.mul_assoc, Int.mul_comm Wa, ← Int.mul_assoc]
    rw [Int.add_mul, Int.mul_add]
    omega
  · have c1 := b.pre k (by omega) h2
    have nn : 0 ≤ B hi - B k := by have := mB k hi h2; omega
    have ea : A k - A lo = Sa + (A k - A mid) := by rw [a.s]; omega
    have eb : B k - B lo = Wa + (B k - B mid) := by rw [a.w]; omega
    have es : A hi - A k = Sb - (A k - A mid) := by rw [b.s]; omega
    have ew : B hi - B k = Wb - (B k - B mid) := by rw [b.w]; omega
    rw [ea, eb]
    rw [ew] at nn
    clear ea eb es ew
    generalize A k - A mid = Sq at c1 ⊢
    generalize B k - B mid = Wq at c1 nn ⊢
    -- Sa * (Wb - Wq) ≥ (Sb - Sq) * Wa
    have c2 : (Sb - Sq) * Wb ≤ Sb * (Wb - Wq) := by rw [Int.sub_mul, Int.mul_sub]; omega
    have c3 : (Sb - Sq) * Wa ≤ Sa * (Wb - Wq) := by
      refine le_cancel pb ?_
      have e1 : (Sb - Sq) * Wb * Wa ≤ Sb * (Wb - Wq) * Wa := Int.mul_le_mul_of_nonneg_right c2 (Int.le_of_lt pa)
      have e2 : Sb * Wa * (Wb - Wq) ≤ Sa * Wb * (Wb - Wq) := Int.mul_le_mul_of_nonneg_right h nn
      calc (Sb - Sq) * Wa * Wb = (Sb - Sq) * Wb * Wa := by rw [Int.mul_assoc, Int.mul_comm Wa, ← Int.mul_assoc]
        _ ≤ Sb * (Wb - Wq) * Wa := e1
        _ = Sb * Wa * (Wb - Wq) := by rw [Int.mul_assoc, Int.mul_comm (Wb - Wq), ← Int.mul_assoc]
        _ ≤ Sa * Wb * (Wb - Wq) := e2
        _ = Sa * (Wb - Wq) * Wb := by rw [Int.mul_assoc, Int.mul_comm Wb, ← Int.mul_assoc]
    rw [Int.sub_mul, Int.mul_sub] at c3
    rw [Int.add_mul, Int.mul_add, Int.mul_add, Int.add_mul, Int.mul_add, Int.mul_add]
    omega
theorem Blk.one {A B : Nat → Int} {i : Nat} {S W : Int} (hS : A (i + 1) = A i + S) (hW : B (i + 1) = B i + W) (pos : 0 < W) : Blk A B i (i + 1) S W := by
  refine ⟨by omega, by omega, by omega, pos, fun k h1 h2 => ?_⟩
  by_cases e : k = i
  · subst e; rw [Int.sub_self, Int.sub_self, Int.mul_zero, Int.zero_mul]; exact Int.le_refl _
  · obtain rfl : k = i + 1 := by omega
    rw [show B (i + 1) - B i = W by omega, show A (i + 1) - A i = S by omega]
    exact Int.le_refl _
inductive Runs (A B : Nat → Int) : List (Int × Int × Int) → Nat → Prop where
  | nil : Runs A B [] 0
  | snoc {rs : List (Int × Int × Int)} {lo hi : Nat} {S W : Int} (h : Runs A B rs lo) (b : Blk A B lo hi S W) (l : ∀ r, rs.getLast? = some r → r.1 * W < S * r.2.1) : Runs A B (rs ++ [(S, W, ((hi : Int) - (lo : Int)))]) hi
def rowOf (rs : List (Int × Int × Int)) : List (Int × Int) := (rs.map fun r => List.replicate r.2.2.toNat (lowP r.1 r.2.1)).flatten
theorem rowOf_snoc (rs : List (Int × Int × Int)) (r : Int × Int × Int) : rowOf (rs ++ [r]) = rowOf rs ++ List.replicate r.2.2.toNat (lowP r.1 r.2.1) := by
  unfold rowOf
  rw [List.map_append, List.flatten_append]
  simp
theorem Runs.inv {A B : Nat → Int} {rs : List (Int × Int × Int)} {r : Int × Int × Int} {hi : Nat} (h : Runs A B (rs ++ [r]) hi) : ∃ lo, Runs A B rs lo ∧ Blk A B lo hi r.1 r.2.1 ∧ r.2.2 = (hi : Int) - (lo : Int) := by
  generalize e : rs ++ [r] = l at h
  cases h with
  | nil => simp at e
  | @snoc rs' lo _ S W h b l =>
    obtain ⟨e1, e2⟩ := List.append_inj' e rfl
    injection e2 with e2 _
    subst e1 e2
    exact ⟨lo, h, b, rfl⟩
theorem getD_left {xs ys : List (Int × Int)} {i : Nat} (h : i < xs.length) : (xs ++ ys).getD i fz = xs.getD i fz := by
  rw [List.getD_eq_getElem?_getD, List.getElem?_append_left h, ← List.getD_eq_getElem?_getD]
theorem getD_rep {xs : List (Int × Int)} {c i : Nat} {f : Int × Int} (h1 : xs.length ≤ i) (h2 : i < xs.length + c) : (xs ++ List.replicate c f).getD i fz = f := by
  rw [List.getD_eq_getElem?_getD, List.getElem?_append_right h1, List.getElem?_replicate, if_pos (by omega)]
  rfl
structure SqI (ns ws : List Int) (fs : List (Int × Int)) (hi : Nat) : Prop where
  len : fs.length = hi
  ris : ∀ i, i + 1 < hi → (fs.getD i fz).1 * (fs.getD (i + 1) fz).2 ≤ (fs.getD (i + 1) fz).1 * (fs.getD i fz).2
  nn : ∀ k, k ≤ hi → 0 ≤ PS ns ws fs k
  tot : PS ns ws fs hi = 0
  ch : ∀ i, i + 1 < hi → fs.getD i fz ≠ fs.getD (i + 1) fz → PS ns ws fs (i + 1) = 0
def SA (ns ws : List Int) (k : Nat) : Int := sm k fun j => ns.getD j 0 * ws.getD j 0
def SB (ws : List Int) (k : Nat) : Int := sm k fun j => ws.getD j 0
theorem PS_left {ns ws : List Int} {fs gs : List (Int × Int)} {k : Nat} (h : k ≤ fs.length) : PS ns ws (fs ++ gs) k = PS ns ws fs k := by
  unfold PS
  refine sm_congr fun i hi => ?_
  unfold lk0
  rw [getD_left (by omega)]
theorem PS_block {ns ws : List Int} {fs : List (Int × Int)} {c : Nat} {f : Int × Int} {t : Nat} : t ≤ c → PS ns ws (fs ++ List.replicate c f) (fs.length + t) = PS ns ws fs fs.length + (f.2 * (SA ns ws (fs.length + t) - SA ns ws fs.length) - f.1 * (SB ws (fs.length + t) - SB ws fs.length)) := by
  induction t with
  | zero => intro _; rw [Nat.add_zero, PS_left (Nat.le_refl _), Int.sub_self, Int.sub_self, Int.mul_zero, Int.mul_zero]; omega
  | succ t ih =>
    intro ht
    have e1 : PS ns ws (fs ++ List.replicate c f) (fs.length + (t + 1)) = PS ns ws (fs ++ List.replicate c f) (fs.length + t) + lk0 ns ws (fs ++ List.replicate c f) (fs.length + t) := rfl
    have e2 : SA ns ws (fs.length + (t + 1)) = SA ns ws (fs.length + t) + ns.getD (fs.length + t) 0 * ws.getD (fs.length + t) 0 := rfl
    have e3 : SB ws (fs.length + (t + 1)) = SB ws (fs.length + t) + ws.getD (fs.length + t) 0 := rfl
    have e4 : lk0 ns ws (fs ++ List.replicate c f) (fs.length + t) = f.2 * (ns.getD (fs.length + t) 0 * ws.getD (fs.length + t) 0) - f.1 * ws.getD (fs.length + t) 0 := by
      unfold lk0
      rw [getD_rep (by omega) (by omega), Int.mul_sub]
      congr 1
      · rw [Int.mul_comm, Int.mul_assoc, Int.mul_comm f.2, ← Int.mul_assoc, Int.mul_comm]
      · rw [Int.mul_comm]
    rw [e1, ih (by omega), e2, e3, e4, Int.mul_sub, Int.mul_sub, Int.mul_sub, Int.mul_sub, Int.mul_add, Int.mul_add]
    omega
theorem runs_row {ns ws : List Int} {rs : List (Int × Int × Int)} {hi : Nat} (h : Runs (SA ns ws) (SB ws) rs hi) :
    SqI ns ws (rowOf rs) hi ∧ ∀ r, rs.getLast? = some r → 0 < hi ∧ (rowOf rs).getD (hi - 1) fz = lowP r.1 r.2.1 ∧ 0 < r.2.1 := by
  induction h with
  | nil => exact ⟨⟨rfl, fun i hi => absurd hi (Nat.not_lt_zero _), fun k hk => (by obtain rfl : k = 0 := Nat.le_zero.mp hk; exact Int.le_refl _), rfl, fun i hi => absurd hi (Nat.not_lt_zero _)⟩, fun r e => by simp at e⟩
  | @snoc rs lo hi S W h b l ih =>
    obtain ⟨ih, il⟩ := ih
    have hlt := b.lt
    have hc : ((hi : Int) - (lo : Int)).toNat = hi - lo := by omega
    rw [rowOf_snoc]
    show SqI ns ws (rowOf rs ++ List.replicate ((hi : Int) - (lo : Int)).toNat (lowP S W)) hi ∧ _
    rw [hc]
    have L := ih.len
    have cr := lowP_cross (t := S) b.pos
    have qp := lowP_pos (t := S) b.pos
    have blk : ∀ k, lo ≤ k → k ≤ hi → PS ns ws (rowOf rs ++ List.replicate (hi - lo) (lowP S W)) k = (lowP S W).2 * (SA ns ws k - SA ns ws lo) - (lowP S W).1 * (SB ws k - SB ws lo) := fun k h1 h2 => by
      have z := PS_block (ns := ns) (ws := ws) (fs := rowOf rs) (c := hi - lo) (f := lowP S W) (t := k - lo) (by omega)
      rw [L, show lo + (k - lo) = k by omega] at z
      rw [z, ih.tot]
      omega
    have low : ∀ k, k ≤ lo → PS ns ws (rowOf rs ++ List.replicate (hi - lo) (lowP S W)) k = PS ns ws (rowOf rs) k := fun k hk => PS_left (by omega)
    have gl : ∀ i, i < lo → (rowOf rs ++ List.replicate (hi - lo) (lowP S W)).getD i fz = (rowOf rs).getD i fz := fun i hi' => getD_left (by omega)
    have gr : ∀ i, lo ≤ i → i < hi → (rowOf rs ++ List.replicate (hi - lo) (lowP S W)).getD i fz = lowP S W := fun i h1 h2 => getD_rep (by omega) (by omega)
    have bd : ∀ i, i + 1 = lo → (rowOf rs).getD i fz ≠ lowP S W ∧ ((rowOf rs).getD i fz).1 * (lowP S W).2 ≤ (lowP S W).1 * ((rowOf rs).getD i fz).2 := fun i hi' => by
      have : rs ≠ [] := fun e => by subst e; rw [← L] at hi'; simp [rowOf] at hi'
      obtain ⟨r, hr⟩ : ∃ r, rs.getLast? = some r := (by cases e : rs.getLast? with | none => exact absurd (List.getLast?_eq_none_iff.mp e) this | some r => exact ⟨r, rfl⟩)
      obtain ⟨_, e, wp⟩ := il r hr
      rw [show lo - 1 = i by omega] at e
      have ls := l r hr
      rw [e]
      have cr' := lowP_cross (t := r.1) wp
      have qp' := lowP_pos (t := r.1) wp
      have key : (lowP r.1 r.2.1).1 * (lowP S W).2 < (lowP S W).1 * (lowP r.1 r.2.1).2 := by
        refine lt_cancel (Int.mul_pos wp b.pos) ?_
        have m := Int.mul_lt_mul_of_pos_right ls (Int.mul_pos qp' qp)
        calc (lowP r.1 r.2.1).1 * (lowP S W).2 * (r.2.1 * W) = (lowP r.1 r.2.1).1 * r.2.1 * ((lowP S W).2 * W) := by
              rw [Int.mul_assoc, Int.mul_assoc]; congr 1; rw [← Int.mul_assoc, ← Int.mul_assoc, Int.mul_comm (lowP S W).2]
          _ = r.1 * (lowP r.1 r.2.1).2 * ((lowP S W).2 * W) := by rw [cr']
          _ = r.1 * W * ((lowP r.1 r.2.1).2 * (lowP S W).2) := by
              rw [Int.mul_assoc, Int.mul_assoc]; congr 1; rw [← Int.mul_assoc, Int.mul_comm]
          _ < S * r.2.1 * ((lowP r.1 r.2.1).2 * (lowP S W).2) := m
          _ = S * (lowP S W).2 * ((lowP r.1 r.2.1).2 * r.2.1) := by
              rw [Int.mul_assoc, Int.mul_assoc]; congr 1
              rw [Int.mul_comm (lowP r.1 r.2.1).2, ← Int.mul_assoc, Int.mul_comm r.2.1, Int.mul_assoc, Int.mul_comm r.2.1]
          _ = (lowP S W).1 * W * ((lowP r.1 r.2.1).2 * r.2.1) := by rw [cr]
          _ = (lowP S W).1 * (lowP r.1 r.2.1).2 * (r.2.1 * W) := by
              rw [Int.mul_assoc, Int.mul_assoc]; congr 1
              rw [Int.mul_comm W, Int.mul_assoc]
      refine ⟨fun z => ?_, Int.le_of_lt key⟩
      rw [z] at key
      exact Int.lt_irrefl _ key
    refine ⟨⟨?_, fun i hi' => ?_, fun k hk => ?_, ?_, fun i hi' hne => ?_⟩, fun r hr => ?_⟩
    · rw [List.length_append, List.length_replicate, L]; omega
    · by_cases h1 : i + 1 < lo
      · rw [gl i (by omega), gl (i + 1) h1]; exact ih.ris i h1
      · by_cases h2 : i + 1 = lo
        · rw [gl i (by omega), gr (i + 1) (by omega) hi']; exact (bd i h2).2
        · rw [gr i (by omega) (by omega), gr (i + 1) (by omega) hi']; exact Int.le_refl _
    · by_cases h1 : k ≤ lo
      · rw [low k h1]; exact ih.nn k h1
      · rw [blk k (by omega) hk]
        have c1 := b.pre k (by omega) hk
        have : (lowP S W).1 * (SB ws k - SB ws lo) ≤ (lowP S W).2 * (SA ns ws k - SA ns ws lo) := by
          refine le_cancel b.pos ?_
          have m := Int.mul_le_mul_of_nonneg_right c1 (Int.le_of_lt qp)
          calc (lowP S W).1 * (SB ws k - SB ws lo) * W = (lowP S W).1 * W * (SB ws k - SB ws lo) := by rw [Int.mul_assoc, Int.mul_comm (SB ws k - SB ws lo), ← Int.mul_assoc]
            _ = S * (lowP S W).2 * (SB ws k - SB ws lo) := by rw [cr]
            _ = S * (SB ws k - SB ws lo) * (lowP S W).2 := by rw [Int.mul_assoc, Int.mul_comm (lowP S W).2, ← Int.mul_assoc]
            _ ≤ (SA ns ws k - SA ns ws lo) * W * (lowP S W).2 := m
            _ = (lowP S W).2 * (SA ns ws k - SA ns ws lo) * W := by rw [Int.mul_comm, ← Int.mul_assoc]
        omega
    · rw [blk hi (by omega) (Nat.le_refl _), ← b.s, ← b.w, cr, Int.mul_comm]
      omega
    · by_cases h1 : i + 1 < lo
      · rw [gl i (by omega), gl (i + 1) h1] at hne
        rw [low (i + 1) (by omega)]
        exact ih.ch i h1 hne
      · by_cases h2 : i + 1 = lo
        · rw [low (i + 1) (by omega), h2]; exact ih.tot
        · rw [gr i (by omega) (by omega), gr (i + 1) (by omega) hi'] at hne
          exact absurd rfl hne
    · rw [List.getLast?_append] at hr
      have hr' : r = (S, W, (hi : Int) - (lo : Int)) := by simpa using hr.symm
      subst hr'
      exact ⟨by omega, gr (hi - 1) (by omega) (by omega), b.pos⟩
theorem runs_sq {ns ws : List Int} {rs : List (Int × Int × Int)} (h : Runs (SA ns ws) (SB ws) rs ns.length) : SqP ns ws (rowOf rs) := by
  obtain ⟨x, _⟩ := runs_row h
  exact ⟨x.len, x.ris, x.nn, x.tot, x.ch⟩
theorem SB_mono {ws : List Int} (h : ∀ w ∈ ws, 1 ≤ w) : ∀ i j, i ≤ j → SB ws i ≤ SB ws j := fun i j hij => by
  induction hij with
  | refl => exact Int.le_refl _
  | @step j _ ih =>
    have e : SB ws (j + 1) = SB ws j + ws.getD j 0 := rfl
    have : 0 ≤ ws.getD j 0 := by
      by_cases hj : j < ws.length
      · have := h _ (List.mem_of_getElem? (gd_some hj)); omega
      · rw [gd_out (by omega)]; exact Int.le_refl _
    show _ ≤ SB ws (j + 1)
    omega
end Up

set_option maxHeartbeats 4000000
set_option linter.all false
namespace Up
open Fr1
/-! ### heaps of pairs, as functions of the place -/
def par (q : Nat) : Nat := (q - 1) / 2
abbrev PF := Nat → Int × Int
def fset (f : PF) (i : Nat) (y : Int × Int) : PF := fun j => if j = i then y else f j
theorem fset_same (f : PF) (i : Nat) (y : Int × Int) : fset f i y i = y := if_pos rfl
theorem fset_ne {f : PF} {i j : Nat} {y : Int × Int} (h : j ≠ i) : fset f i y j = f j := if_neg h
def Hok (f : PF) (n : Nat) : Prop := ∀ q, 0 < q → q < n → (f q).1 ≤ (f (par q)).1
def Pos' (f : PF) (n : Nat) : Prop := ∀ i, i < n → 0 < (f i).2
def ms (x : Int) (y : Int × Int) : Int := if x ≤ y.1 then y.2 else 0
def mass (f : PF) (n : Nat) (x : Int) : Int := sm n fun i => ms x (f i)
def totl (f : PF) (n : Nat) : Int := sm n fun i => (f i).2
theorem Hok.top {f : PF} {n : Nat} (h : Hok f n) : ∀ k i, i ≤ k → i < n → (f i).1 ≤ (f 0).1
  | 0, i, hk, _ => by obtain rfl : i = 0 := Nat.le_zero.mp hk; exact Int.le_refl _
  | k + 1, i, hk, hi => by
    by_cases e : i = 0
    · subst e; exact Int.le_refl _
    · have h1 := h i (by omega) hi
      have h2 := Hok.top h k (par i) (by unfold par; omega) (by unfold par; omega)
      omega
theorem sm_fset {f : PF} {g : Int × Int → Int} {i : Nat} {y : Int × Int} : ∀ {n : Nat}, i < n → sm n (fun j => g (fset f i y j)) = sm n (fun j => g (f j)) - g (f i) + g y
  | 0, h => absurd h (Nat.not_lt_zero _)
  | n + 1, h => by
    show sm n (fun j => g (fset f i y j)) + g (fset f i y n) = sm n (fun j => g (f j)) + g (f n) - g (f i) + g y
    by_cases e : i = n
    · subst e
      have : sm i (fun j => g (fset f i y j)) = sm i (fun j => g (f j)) := sm_congr fun j hj => by rw [fset_ne (by omega)]
      rw [this, fset_same]
      omega
    · rw [sm_fset (n := n) (by omega), fset_ne (by omega)]
      omega
theorem sm_out {f : PF} {g : Int × Int → Int} {i : Nat} {y : Int × Int} {n : Nat} (h : n ≤ i) : sm n (fun j => g (fset f i y j)) = sm n (fun j => g (f j)) := sm_congr fun j hj => by rw [fset_ne (by omega)]
theorem sm_swap {f : PF} {g : Int × Int → Int} {i k n : Nat} {y : Int × Int} (hi : i < n) (hk : k < n) (hne : i ≠ k) : sm n (fun j => g (fset (fset f i (f k)) k y j)) = sm n (fun j => g (fset f i y j)) := by
  rw [sm_fset hk, sm_fset hi, sm_fset hi, fset_ne (Ne.symm hne)]
  omega
/-! putting in: the place where the new pair is to stand goes up -/
structure PutI (f0 f : PF) (n pl : Nat) (y : Int × Int) : Prop where
  lt : pl < n + 1
  up : ∀ q, 0 < q → q < n + 1 → q ≠ pl → (fset f pl y q).1 ≤ (fset f pl y (par q)).1
  ch : 0 < pl → ∀ c, 0 < c → c < n + 1 → par c = pl → (f c).1 ≤ (f (par pl)).1
  pos : ∀ i, i < n + 1 → 0 < (fset f pl y i).2
  sum : ∀ g : Int × Int → Int, sm (n + 1) (fun j => g (fset f pl y j)) = sm n (fun j => g (f0 j)) + g y
theorem PutI.start {f : PF} {n : Nat} {y : Int × Int} (h : Hok f n) (p : Pos' f n) (hy : 0 < y.2) : PutI f (fset f n y) n n y := by
  have e : fset (fset f n y) n y = fset f n y := by funext j; unfold fset; split <;> rfl
  refine ⟨by omega, fun q h1 h2 h3 => ?_, fun h1 c h2 h3 h4 => ?_, fun i hi => ?_, fun g => ?_⟩
  · rw [e, fset_ne h3, fset_ne (by unfold par; omega)]
    exact h q h1 (by omega)
  · unfold par at h4; omega
  · rw [e]
    by_cases hin : i = n
    · subst hin; rw [fset_same]; exact hy
    · rw [fset_ne hin]; exact p i (by omega)
  · rw [e]
    show sm n _ + g (fset f n y n) = _
    rw [fset_same, sm_out (Nat.le_refl _)]
theorem PutI.step {f0 f : PF} {n pl : Nat} {y : Int × Int} (h : PutI f0 f n pl y) (hp : 0 < pl) (hl : (f (par pl)).1 < y.1) : PutI f0 (fset f pl (f (par pl))) n (par pl) y := by
  have hlt := h.lt
  have hpl : par pl < pl := by unfold par; omega
  have sw : ∀ q, fset (fset f pl (f (par pl))) (par pl) y q = if q = par pl then y else if q = pl then f (par pl) else f q := fun q => rfl
  have old : ∀ q, fset f pl y q = if q = pl then y else f q := fun q => rfl
  refine ⟨by omega, fun q h1 h2 h3 => ?_, fun h1 c h2 h3 h4 => ?_, fun i hi => ?_, fun g => ?_⟩
  · rw [sw q, if_neg h3, sw (par q)]
    by_cases e1 : q = pl
    · subst e1
      rw [if_pos rfl, if_pos rfl]; omega
    · rw [if_neg e1]
      have u := h.up q h1 h2 e1
      rw [old q, if_neg e1, old (par q)] at u
      by_cases e2 : par q = par pl
      · rw [if_pos e2]
        rw [if_neg (by omega), e2] at u
        omega
      · rw [if_neg e2]
        by_cases e3 : par q = pl
        · rw [if_pos e3]
          exact h.ch hp q h1 h2 e3
        · rw [if_neg e3]
          rw [if_neg e3] at u
          exact u
  · have hpp : par (par pl) < par pl := by unfold par at *; omega
    have u := h.up (par pl) h1 (by omega) (by omega)
    rw [old, if_neg (by omega), old, if_neg (by omega)] at u
    rw [fset_ne (show par (par pl) ≠ pl by omega)]
    by_cases e : c = pl
    · subst e; rw [fset_same]; exact u
    · rw [fset_ne e]
      have u2 := h.up c h2 h3 e
      rw [old, if_neg e, old, h4, if_neg (by omega)] at u2
      omega
  · rw [sw i]
    have pa := h.pos pl (by omega)
    rw [old, if_pos rfl] at pa
    split
    · exact pa
    · split
      · have := h.pos (par pl) (by omega)
        rw [old, if_neg (by omega)] at this
        exact this
      · rename_i e1 e2
        have := h.pos i hi
        rw [old, if_neg e2] at this
        exact this
  · rw [sm_swap (by omega) (by omega) (by omega)]
    exact h.sum g
theorem PutI.done {f0 f : PF} {n pl : Nat} {y : Int × Int} (h : PutI f0 f n pl y) (hd : pl = 0 ∨ ¬ ((f (par pl)).1 < y.1)) : Hok (fset f pl y) (n + 1) := fun q h1 h2 => by
  by_cases e : q = pl
  · subst e
    rw [fset_same, fset_ne (by unfold par; omega)]
    rcases hd with z | z <;> omega
  · exact h.up q h1 h2 e
/-! taking the top: the last pair's place goes down -/
structure TakI (f0 f : PF) (n pl : Nat) (y : Int × Int) : Prop where
  lt : pl < n
  up : ∀ q, 0 < q → q < n → par q ≠ pl → (fset f pl y q).1 ≤ (fset f pl y (par q)).1
  ch : 0 < pl → ∀ c, 0 < c → c < n → par c = pl → (f c).1 ≤ (f (par pl)).1
  pos : ∀ i, i < n → 0 < (fset f pl y i).2
  sum : ∀ g : Int × Int → Int, sm n (fun j => g (fset f pl y j)) = sm (n + 1) (fun j => g (f0 j)) - g (f0 0)
theorem TakI.start {f : PF} {n : Nat} (hn : 0 < n) (h : Hok f (n + 1)) (p : Pos' f (n + 1)) : TakI f f n 0 (f n) := by
  refine ⟨hn, fun q h1 h2 h3 => ?_, fun h1 => absurd h1 (Nat.lt_irrefl _), fun i hi => ?_, fun g => ?_⟩
  · rw [fset_ne (by omega), fset_ne h3]
    exact h q h1 (by omega)
  · by_cases e : i = 0
    · subst e; rw [fset_same]; exact p n (by omega)
    · rw [fset_ne e]; exact p i (by omega)
  · rw [sm_fset hn]
    show _ = sm n (fun j => g (f j)) + g (f n) - g (f 0)
    omega
theorem par_kids (pl c : Nat) (h : 0 < c) : par c = pl ↔ (c = 2 * pl + 1 ∨ c = 2 * pl + 2) := by unfold par; omega
structure GrB (f : PF) (n pl b : Nat) : Prop where
  kid : b = 2 * pl + 1 ∨ b = 2 * pl + 2
  gr : ∀ c, 0 < c → c < n → par c = pl → b < n ∧ (f c).1 ≤ (f b).1
theorem TakI.step {f0 f : PF} {n pl b : Nat} {y : Int × Int} (h : TakI f0 f n pl y) (g : GrB f n pl b) (hb : b < n) (hl : y.1 < (f b).1) : TakI f0 (fset f pl (f b)) n b y := by
  have hlt := h.lt
  have pb : par b = pl := (par_kids pl b (by rcases g.kid with e | e <;> omega)).mpr g.kid
  have b0 : 0 < b := by rcases g.kid with e | e <;> omega
  have bpl : pl < b := by rcases g.kid with e | e <;> omega
  have sw : ∀ q, fset (fset f pl (f b)) b y q = if q = b then y else if q = pl then f b else f q := fun q => rfl
  have old : ∀ q, fset f pl y q = if q = pl then y else f q := fun q => rfl
  refine ⟨hb, fun q h1 h2 h3 => ?_, fun h1 c h2 h3 h4 => ?_, fun i hi => ?_, fun g' => ?_⟩
  · rw [sw q, sw (par q), if_neg h3]
    by_cases e1 : q = b
    · subst e1
      rw [if_pos rfl, if_pos pb]; omega
    · rw [if_neg e1]
      by_cases e2 : q = pl
      · subst e2
        have npq : par q ≠ q := by unfold par; omega
        rw [if_pos rfl, if_neg npq]
        exact h.ch h1 b b0 hb pb
      · rw [if_neg e2]
        by_cases e3 : par q = pl
        · rw [if_pos e3]
          exact (g.gr q h1 h2 e3).2
        · rw [if_neg e3]
          have u := h.up q h1 h2 e3
          rw [old, if_neg e2, old, if_neg e3] at u
          exact u
  · rw [pb, fset_same]
    have e1 : c ≠ pl := by
      rcases (par_kids b c h2).mp h4 with z | z <;> omega
    rw [fset_ne e1]
    have u := h.up c h2 h3 (by rw [h4]; omega)
    rw [old, if_neg e1, old, h4, if_neg (by omega)] at u
    exact u
  · rw [sw i]
    have pa := h.pos pl hlt
    rw [old, if_pos rfl] at pa
    split
    · exact pa
    · split
      · have := h.pos b hb
        rw [old, if_neg (by omega)] at this
        exact this
      · rename_i e1 e2
        have := h.pos i hi
        rw [old, if_neg e2] at this
        exact this
  · rw [sm_swap hlt hb (by omega)]
    exact h.sum g'
theorem TakI.done {f0 f : PF} {n pl b : Nat} {y : Int × Int} (h : TakI f0 f n pl y) (g : GrB f n pl b) (hd : n ≤ b ∨ ¬ (y.1 < (f b).1)) : Hok (fset f pl y) n := fun q h1 h2 => by
  by_cases e : par q = pl
  · obtain ⟨g1, g2⟩ := g.gr q h1 h2 e
    have nq : q ≠ pl := by rcases (par_kids pl q h1).mp e with z | z <;> omega
    rw [e, fset_same, fset_ne nq]
    rcases hd with z | z <;> omega
  · exact h.up q h1 h2 e
theorem mass_top {f : PF} {n : Nat} (h : Hok f n) (p : Pos' f n) (hn : 0 < n) (x : Int) : (x ≤ (f 0).1 → (f 0).2 ≤ mass f n x) ∧ (¬ x ≤ (f 0).1 → mass f n x = 0) := by
  constructor
  · intro hx
    have e : mass f n x = (mass f n x - ms x (f 0)) + ms x (f 0) := by omega
    have h1 : ms x (f 0) = (f 0).2 := by unfold ms; rw [if_pos hx]
    have h2 : 0 ≤ mass f n x - ms x (f 0) := by
      have z := sm_fset (f := f) (g := ms x) (i := 0) (y := ((f 0).1, 0)) hn
      have z2 : ms x ((f 0).1, 0) = 0 := by unfold ms; split <;> rfl
      have z3 : sm n (fun _ => (0 : Int)) ≤ sm n (fun j => ms x (fset f 0 ((f 0).1, 0) j)) := sm_le fun i hi => by
        by_cases e : i = 0
        · subst e; rw [fset_same, z2]; exact Int.le_refl _
        · rw [fset_ne e]; unfold ms; have := p i hi; split <;> omega
      rw [sm_zero] at z3
      unfold mass
      omega
    omega
  · intro hx
    have : mass f n x = sm n (fun _ => (0 : Int)) := sm_congr fun i hi => by
      unfold ms
      have := h.top i i (Nat.le_refl _) hi
      rw [if_neg (by omega)]
    rw [this, sm_zero]
/-! ### the slopes -/
def mx0 (x : Int) : Int := if x < 0 then 0 else x
def ee (x n w : Int) : Int := if x ≤ n then w else -w
def LL (ns ws : List Int) : Nat → Int → Int
  | 0, _ => 0
  | i + 1, x => mx0 (LL ns ws i x + ee x (ns.getD i 0) (ws.getD i 0))
theorem LL_nn (ns ws : List Int) : ∀ i x, 0 ≤ LL ns ws i x
  | 0, _ => Int.le_refl _
  | i + 1, x => by show 0 ≤ mx0 _; unfold mx0; split <;> omega
theorem LL_ge (ns ws : List Int) (i : Nat) (x : Int) : LL ns ws i x + ee x (ns.getD i 0) (ws.getD i 0) ≤ LL ns ws (i + 1) x := by
  show _ ≤ mx0 _; unfold mx0; split <;> omega
theorem LL_pos {ns ws : List Int} {i : Nat} {x : Int} (h : 0 < LL ns ws (i + 1) x) : LL ns ws (i + 1) x = LL ns ws i x + ee x (ns.getD i 0) (ws.getD i 0) := by
  have e : LL ns ws (i + 1) x = mx0 (LL ns ws i x + ee x (ns.getD i 0) (ws.getD i 0)) := rfl
  rw [e] at h ⊢
  unfold mx0 at h ⊢
  split at h
  · omega
  · split <;> omega
def Ends (ns ws es : List Int) : Prop := es.length = ns.length ∧ ∀ i, i < ns.length → ∀ x, x ≤ es.getD i 0 ↔ 0 < LL ns ws (i + 1) x
/-! ### the sums of pulls -/
section
variable (ns ws row : List Int)
def gp (i : Nat) : Int := ee (row.getD i 0) (ns.getD i 0) (ws.getD i 0)
def lp (i : Nat) : Int := if row.getD i 0 < ns.getD i 0 then ws.getD i 0 else -(ws.getD i 0)
def AA : Nat → Int
  | 0 => gp ns ws row 0
  | i + 1 => (if row.getD i 0 < row.getD (i + 1) 0 then 0 else AA i) + gp ns ws row (i + 1)
def BB : Nat → Nat → Int
  | 0, _ => 0
  | k + 1, i => if row.getD i 0 < row.getD (i + 1) 0 then 0 else BB k (i + 1) - lp ns ws row (i + 1)
def bhd (i : Nat) : Int := BB ns ws row (row.length - 1 - i) i
def SS (i : Nat) : Int := mn (AA ns ws row i) (bhd ns ws row i)
def pl (i : Nat) : Int := SS ns ws row i - (if i = 0 then 0 else SS ns ws row (i - 1))
end
section
variable {ns ws es : List Int}
theorem bhd_step {row : List Int} {i : Nat} (h : i + 1 < row.length) : bhd ns ws row i = if row.getD i 0 < row.getD (i + 1) 0 then 0 else bhd ns ws row (i + 1) - lp ns ws row (i + 1) := by
  unfold bhd
  obtain ⟨k, hk⟩ : ∃ k, row.length - 1 - i = k + 1 := ⟨row.length - 1 - i - 1, by omega⟩
  rw [hk, show row.length - 1 - (i + 1) = k by omega]
  rfl
theorem bhd_last {row : List Int} {i : Nat} (h : i + 1 = row.length) : bhd ns ws row i = 0 := by
  unfold bhd
  rw [show row.length - 1 - i = 0 by omega]
  rfl
theorem lp_ee {row : List Int} (i : Nat) : lp ns ws row i = ee (row.getD i 0 + 1) (ns.getD i 0) (ws.getD i 0) := by
  unfold lp ee
  by_cases h : row.getD i 0 < ns.getD i 0
  · rw [if_pos h, if_pos (by omega)]
  · rw [if_neg h, if_neg (by omega)]
theorem lo_step {i : Nat} (h : i + 1 < es.length) : (loL es).getD i 0 ≤ (loL es).getD (i + 1) 0 ∧ ((loL es).getD i 0 < (loL es).getD (i + 1) 0 → (loL es).getD i 0 = es.getD i 0) ∧ (loL es).getD i 0 ≤ es.getD i 0 := by
  have h1 := lo_rise es i (by rw [loL_length]; exact h)
  obtain ⟨⟨j, a1, a2, a3⟩, a4⟩ := lo_at (ns := es) (i := i) (by omega)
  refine ⟨h1, fun hl => ?_, a4 i (Nat.le_refl _) (by omega)⟩
  by_cases e : j = i
  · rw [← a3, e]
  · have := (lo_at (ns := es) (i := i + 1) h).2 j (by omega) a2
    omega
theorem lo_end {i : Nat} (h : i + 1 = es.length) : (loL es).getD i 0 = es.getD i 0 := by
  obtain ⟨⟨j, a1, a2, a3⟩, a4⟩ := lo_at (ns := es) (i := i) (by omega)
  rw [← a3, show j = i by omega]
variable (E : Ends ns ws es)
include E
theorem AA_eq : ∀ i, i < ns.length → AA ns ws (loL es) i = LL ns ws (i + 1) ((loL es).getD i 0) ∧ 0 < AA ns ws (loL es) i
  | 0, hi => by
    have hl := E.1
    have p : 0 < LL ns ws 1 ((loL es).getD 0 0) := (E.2 0 hi _).mp ((lo_at (ns := es) (i := 0) (by omega)).2 0 (Nat.le_refl _) (by omega))
    have e := LL_pos p
    have e0 : AA ns ws (loL es) 0 = LL ns ws 1 ((loL es).getD 0 0) := by
      rw [e]
      show gp ns ws (loL es) 0 = 0 + _
      unfold gp
      omega
    exact ⟨e0, by rw [e0]; exact p⟩
  | i + 1, hi => by
    have hl := E.1
    obtain ⟨ih1, ih2⟩ := AA_eq i (by omega)
    obtain ⟨s1, s2, s3⟩ := lo_step (es := es) (i := i) (by omega)
    have p : 0 < LL ns ws (i + 2) ((loL es).getD (i + 1) 0) := (E.2 (i + 1) hi _).mp ((lo_at (ns := es) (i := i + 1) (by omega)).2 (i + 1) (Nat.le_refl _) (by omega))
    have e := LL_pos p
    have e0 : AA ns ws (loL es) (i + 1) = LL ns ws (i + 2) ((loL es).getD (i + 1) 0) := by
      rw [e]
      show (if (loL es).getD i 0 < (loL es).getD (i + 1) 0 then 0 else AA ns ws (loL es) i) + gp ns ws (loL es) (i + 1) = _
      by_cases hlt : (loL es).getD i 0 < (loL es).getD (i + 1) 0
      · rw [if_pos hlt]
        have z : ¬ 0 < LL ns ws (i + 1) ((loL es).getD (i + 1) 0) := fun w => by
          have := (E.2 i (by omega) _).mpr w
          have := s2 hlt
          omega
        have := LL_nn ns ws (i + 1) ((loL es).getD (i + 1) 0)
        unfold gp
        omega
      · rw [if_neg hlt, ih1, show (loL es).getD i 0 = (loL es).getD (i + 1) 0 by omega]
        rfl
    exact ⟨e0, by rw [e0]; exact p⟩
theorem BB_ge : ∀ k i, i < ns.length → ns.length - 1 - i = k → LL ns ws (i + 1) ((loL es).getD i 0 + 1) ≤ bhd ns ws (loL es) i
  | 0, i, hi, hk => by
    have hl := E.1
    have ll := loL_length es
    rw [bhd_last (by omega)]
    have z : ¬ 0 < LL ns ws (i + 1) ((loL es).getD i 0 + 1) := fun w => by
      have := (E.2 i hi _).mpr w
      have := lo_end (es := es) (i := i) (by omega)
      omega
    omega
  | k + 1, i, hi, hk => by
    have hl := E.1
    have ll := loL_length es
    obtain ⟨s1, s2, s3⟩ := lo_step (es := es) (i := i) (by omega)
    rw [bhd_step (by omega)]
    by_cases hlt : (loL es).getD i 0 < (loL es).getD (i + 1) 0
    · rw [if_pos hlt]
      have z : ¬ 0 < LL ns ws (i + 1) ((loL es).getD i 0 + 1) := fun w => by
        have := (E.2 i hi _).mpr w
        have := s2 hlt
        omega
      omega
    · rw [if_neg hlt]
      have ih := BB_ge k (i + 1) (by omega) (by omega)
      have e : (loL es).getD i 0 = (loL es).getD (i + 1) 0 := by omega
      have g := LL_ge ns ws (i + 1) ((loL es).getD (i + 1) 0 + 1)
      rw [lp_ee, e]
      omega
theorem SS_facts (hw : ∀ i, i < ns.length → 1 ≤ ws.getD i 0) {i : Nat} (hi : i < ns.length) : 0 ≤ SS ns ws (loL es) i ∧ (i + 1 < ns.length → (loL es).getD i 0 < (loL es).getD (i + 1) 0 → SS ns ws (loL es) i = 0) ∧ (i + 1 = ns.length → SS ns ws (loL es) i = 0) ∧
    lp ns ws (loL es) i ≤ pl ns ws (loL es) i ∧ pl ns ws (loL es) i ≤ gp ns ws (loL es) i := by
  have hl := E.1
  have ll := loL_length es
  obtain ⟨a1, a2⟩ := AA_eq E i hi
  have b1 := BB_ge E _ i hi rfl
  have b2 := LL_nn ns ws (i + 1) ((loL es).getD i 0 + 1)
  have b3 := LL_ge ns ws i ((loL es).getD i 0 + 1)
  have b4 := LL_nn ns ws i ((loL es).getD i 0 + 1)
  rw [← lp_ee] at b3
  have lg : lp ns ws (loL es) i ≤ gp ns ws (loL es) i := by
    unfold lp gp ee
    have := hw i hi
    split <;> split <;> omega
  refine ⟨by unfold SS mn; split <;> omega, fun h1 h2 => ?_, fun h1 => ?_, ?_⟩
  · have e := bhd_step (ns := ns) (ws := ws) (row := loL es) (i := i) (by omega)
    rw [if_pos h2] at e
    unfold SS mn
    rw [e]
    split <;> omega
  · have e := bhd_last (ns := ns) (ws := ws) (row := loL es) (i := i) (by omega)
    unfold SS mn
    rw [e]
    split <;> omega
  · unfold pl
    by_cases h0 : i = 0
    · subst h0
      rw [if_pos rfl]
      have e : AA ns ws (loL es) 0 = gp ns ws (loL es) 0 := rfl
      unfold SS mn
      rw [e]
      split <;> omega
    · rw [if_neg h0]
      obtain ⟨k, rfl⟩ : ∃ k, i = k + 1 := ⟨i - 1, by omega⟩
      rw [Nat.add_sub_cancel]
      obtain ⟨c1, c2⟩ := AA_eq E k (by omega)
      have eA : AA ns ws (loL es) (k + 1) = (if (loL es).getD k 0 < (loL es).getD (k + 1) 0 then 0 else AA ns ws (loL es) k) + gp ns ws (loL es) (k + 1) := rfl
      have eB := bhd_step (ns := ns) (ws := ws) (row := loL es) (i := k) (by omega)
      by_cases hlt : (loL es).getD k 0 < (loL es).getD (k + 1) 0
      · rw [if_pos hlt] at eA eB
        unfold SS mn
        rw [eA, eB]
        split <;> (try split) <;> omega
      · rw [if_neg hlt] at eA eB
        unfold SS mn
        rw [eA]
        split <;> split <;> omega
theorem pl_sum (ns' : Nat) : ∀ k, sm (k + 1) (pl ns ws (loL es)) = SS ns ws (loL es) k
  | 0 => by
    show 0 + (SS ns ws (loL es) 0 - _) = _
    rw [if_pos rfl]; omega
  | k + 1 => by
    show sm (k + 1) _ + (SS ns ws (loL es) (k + 1) - _) = _
    rw [pl_sum ns' k, if_neg (by omega), Nat.add_sub_cancel]; omega
theorem summed_ok (hw : ∀ i, i < ns.length → 1 ≤ ws.getD i 0) : SmC ns.length (fun i => ns.getD i 0) (fun i => ws.getD i 0) (fun i => (loL es).getD i 0) (pl ns ws (loL es)) := by
  have hl := E.1
  have ll := loL_length es
  have F := fun i hi => SS_facts (i := i) E hw hi
  have ris : Ris ns.length (fun i => (loL es).getD i 0) := fun i hi => lo_rise es i (by omega)
  have nn : ∀ k, k ≤ ns.length → 0 ≤ sm k (pl ns ws (loL es)) := fun k hk => by
    cases k with
    | zero => exact Int.le_refl _
    | succ k => rw [pl_sum E 0 k]; exact (F k (by omega)).1
  have all : sm ns.length (pl ns ws (loL es)) = 0 := by
    by_cases h0 : ns.length = 0
    · rw [h0]; rfl
    · obtain ⟨k, hk⟩ : ∃ k, ns.length = k + 1 := ⟨ns.length - 1, by omega⟩
      rw [hk, pl_sum E 0 k]
      exact (F k (by omega)).2.2.1 hk.symm
  refine ⟨ris, fun i hi => ?_, nn, all, ?_⟩
  · obtain ⟨_, _, _, f1, f2⟩ := F i hi
    have w1 := hw i hi
    unfold lp at f1
    unfold gp ee at f2
    split at f1 <;> split at f2 <;> omega
  · have e1 : sm ns.length (fun i => pl ns ws (loL es) i * ns.getD i 0) = sm ns.length (fun i => pl ns ws (loL es) i * (ns.getD i 0 - (loL es).getD i 0)) + sm ns.length (fun i => pl ns ws (loL es) i * (loL es).getD i 0) := by
      rw [← sm_add]
      refine sm_congr fun i _ => ?_
      rw [← Int.mul_add, Int.sub_add_cancel]
    have e2 : sm ns.length (fun i => pl ns ws (loL es) i * (loL es).getD i 0) = 0 := by
      by_cases h0 : ns.length = 0
      · rw [h0]; rfl
      · obtain ⟨k, hk⟩ : ∃ k, ns.length = k + 1 := ⟨ns.length - 1, by omega⟩
        rw [hk, sm_abel, ← hk, all, Int.zero_mul, Int.zero_add]
        have : sm k (fun i => sm (i + 1) (pl ns ws (loL es)) * ((loL es).getD i 0 - (loL es).getD (i + 1) 0)) = sm k (fun _ => 0) := sm_congr fun i hi => by
          rw [pl_sum E 0 i]
          by_cases hlt : (loL es).getD i 0 < (loL es).getD (i + 1) 0
          · rw [(F i (by omega)).2.1 (by omega) hlt, Int.zero_mul]
          · have := (lo_step (es := es) (i := i) (by omega)).1
            rw [show (loL es).getD i 0 - (loL es).getD (i + 1) 0 = 0 by omega, Int.mul_zero]
        rw [this, sm_zero]
    show sm ns.length (fun i => pl ns ws (loL es) i * ns.getD i 0) = _
    rw [e1, e2, Int.add_zero]
    refine sm_congr fun i hi => ?_
    obtain ⟨_, _, _, f1, f2⟩ := F i hi
    unfold ab
    by_cases c1 : ns.getD i 0 < (loL es).getD i 0
    · have : pl ns ws (loL es) i = -(ws.getD i 0) := by
        unfold lp at f1
        unfold gp ee at f2
        rw [if_neg (by omega)] at f1 f2
        omega
      rw [this, if_pos (by omega), Int.neg_mul, ← Int.mul_neg]
    · rw [if_neg (by omega)]
      by_cases c2 : ns.getD i 0 = (loL es).getD i 0
      · rw [c2, Int.sub_self, Int.mul_zero, Int.mul_zero]
      · have : pl ns ws (loL es) i = ws.getD i 0 := by
          unfold lp at f1
          unfold gp ee at f2
          rw [if_pos (by omega)] at f1 f2
          omega
        rw [this]
end
end Up

set_option maxHeartbeats 4000000
set_option linter.all false
namespace Up
open Fr1
/-! ### rows of fractions, by their worth -/
def rv (fs : List (Int × Int)) (i : Nat) : Rat := vl (fs.getD i fz)
def qa (ns : List Int) (i : Nat) : Rat := (ns.getD i 0 : Rat)
def FP (fs : List (Int × Int)) : Prop := ∀ f ∈ fs, 0 < f.2 ∧ Int.gcd f.1 f.2 = 1
theorem fd_some {fs : List (Int × Int)} {i : Nat} (h : i < fs.length) : fs[i]? = some (fs.getD i fz) := by rw [List.getD_eq_getElem?_getD, List.getElem?_eq_getElem h]; rfl
theorem FP.at {fs : List (Int × Int)} (h : FP fs) {i : Nat} (hi : i < fs.length) : 0 < (fs.getD i fz).2 ∧ Int.gcd (fs.getD i fz).1 (fs.getD i fz).2 = 1 := h _ (List.mem_of_getElem? (fd_some hi))
theorem vl_lt' {f g : Int × Int} (hf : 0 < f.2) (hg : 0 < g.2) : vl f < vl g ↔ f.1 * g.2 < g.1 * f.2 := vl_lt hf hg
theorem vl_mul {f : Int × Int} (hf : 0 < f.2) : vl f * (f.2 : Rat) = (f.1 : Rat) := Rat.div_mul_cancel (cast_ne hf)
theorem lk_cast {n w : Int} {f : Int × Int} (hf : 0 < f.2) : (f.2 : Rat) * ((w : Rat) * ((n : Rat) - vl f)) = ((w * (n * f.2 - f.1) : Int) : Rat) := by
  rw [Rat.intCast_mul, Rat.intCast_sub, Rat.intCast_mul, ← vl_mul hf]
  grind
theorem sq_key {ns ws : List Int} {fs : List (Int × Int)} (h : SqP ns ws fs) (hp : FP fs) : ∀ k, k < ns.length → ((fs.getD k fz).2 : Rat) * smq (k + 1) (lk (qa ns) (qa ws) (rv fs)) = ((PS ns ws fs (k + 1) : Int) : Rat)
  | 0, hk => by
    have p0 := (hp.at (i := 0) (by rw [h.len]; exact hk)).1
    have e := lk_cast (n := ns.getD 0 0) (w := ws.getD 0 0) p0
    have e1 : PS ns ws fs (0 + 1) = ws.getD 0 0 * (ns.getD 0 0 * (fs.getD 0 fz).2 - (fs.getD 0 fz).1) := by
      show 0 + lk0 ns ws fs 0 = _
      rw [Int.zero_add]; rfl
    rw [e1, ← e]
    show _ * (0 + lk (qa ns) (qa ws) (rv fs) 0) = _
    rw [Rat.zero_add]; rfl
  | k + 1, hk => by
    have ih := sq_key h hp k (by omega)
    have p0 := (hp.at (i := k) (by rw [h.len]; omega)).1
    have p1 := (hp.at (i := k + 1) (by rw [h.len]; omega)).1
    have e := lk_cast (n := ns.getD (k + 1) 0) (w := ws.getD (k + 1) 0) p1
    have e1 : PS ns ws fs (k + 1 + 1) = PS ns ws fs (k + 1) + ws.getD (k + 1) 0 * (ns.getD (k + 1) 0 * (fs.getD (k + 1) fz).2 - (fs.getD (k + 1) fz).1) := rfl
    have e2 : smq (k + 1 + 1) (lk (qa ns) (qa ws) (rv fs)) = smq (k + 1) (lk (qa ns) (qa ws) (rv fs)) + (ws.getD (k + 1) 0 : Rat) * ((ns.getD (k + 1) 0 : Rat) - vl (fs.getD (k + 1) fz)) := rfl
    rw [e1, e2, Rat.intCast_add, Rat.mul_add, e]
    congr 1
    by_cases z : fs.getD k fz = fs.getD (k + 1) fz
    · rw [← z]; exact ih
    · have c := h.ch k hk z
      rw [c] at ih ⊢
      have i0 : smq (k + 1) (lk (qa ns) (qa ws) (rv fs)) = 0 := by
        rcases Rat.mul_eq_zero.mp (ih.trans (by rfl)) with y | y
        · exact absurd y (cast_ne p0)
        · exact y
      rw [i0, Rat.mul_zero]; rfl
theorem SqP.cert {ns ws : List Int} {fs : List (Int × Int)} (h : SqP ns ws fs) (hp : FP fs) : SqC ns.length (qa ns) (qa ws) (rv fs) := by
  have z : ∀ k, k < ns.length → PS ns ws fs (k + 1) = 0 → smq (k + 1) (lk (qa ns) (qa ws) (rv fs)) = 0 := fun k hk e => by
    have ih := sq_key h hp k hk
    rw [e] at ih
    rcases Rat.mul_eq_zero.mp (ih.trans (by rfl)) with y | y
    · exact absurd y (cast_ne (hp.at (i := k) (by rw [h.len]; omega)).1)
    · exact y
  refine ⟨fun i hi => ?_, fun k hk => ?_, ?_, fun i hi hu => ?_⟩
  · have p0 := (hp.at (i := i) (by rw [h.len]; omega)).1
    have p1 := (hp.at (i := i + 1) (by rw [h.len]; omega)).1
    refine Rat.not_lt.mp fun y => ?_
    have y' := (vl_lt' p1 p0).mp y
    have := h.ris i hi
    omega
  · cases k with
    | zero => exact Rat.le_refl
    | succ k =>
      have ih := sq_key h hp k (by omega)
      have p0 := cast_pos (hp.at (i := k) (by rw [h.len]; omega)).1
      have nn : (0 : Rat) ≤ ((PS ns ws fs (k + 1) : Int) : Rat) := Rat.intCast_nonneg.mpr (h.nn (k + 1) hk)
      rw [← ih] at nn
      refine Rat.not_lt.mp fun y => ?_
      have := (Rat.mul_lt_mul_left p0).mpr y
      rw [Rat.mul_zero] at this
      grind
  · cases e : ns.length with
    | zero => rfl
    | succ n =>
      have t := h.tot
      rw [e] at t
      exact z n (by omega) t
  · refine z i (by omega) (h.ch i hi fun y => ?_)
    have hu' : vl (fs.getD i fz) < vl (fs.getD (i + 1) fz) := hu
    rw [y] at hu'
    exact absurd hu' (Rat.not_lt.mpr Rat.le_refl)
theorem lk_congr {n : Nat} {a w r a' w' r' : Nat → Rat} (ha : ∀ i, i < n → a i = a' i) (hw : ∀ i, i < n → w i = w' i) (hr : ∀ i, i < n → r i = r' i) : ∀ k, k ≤ n → smq k (lk a w r) = smq k (lk a' w' r') := fun k hk => smq_congr fun i hi => by
  show w i * (a i - r i) = w' i * (a' i - r' i)
  rw [ha i (by omega), hw i (by omega), hr i (by omega)]
theorem SqC.congr {n : Nat} {a w r a' w' r' : Nat → Rat} (h : SqC n a w r) (ha : ∀ i, i < n → a i = a' i) (hw : ∀ i, i < n → w i = w' i) (hr : ∀ i, i < n → r i = r' i) : SqC n a' w' r' := by
  have e := lk_congr ha hw hr
  refine ⟨fun i hi => ?_, fun k hk => ?_, ?_, fun i hi hu => ?_⟩
  · rw [← hr i (by omega), ← hr (i + 1) hi]; exact h.ris i hi
  · rw [← e k hk]; exact h.nn k hk
  · rw [← e n (Nat.le_refl _)]; exact h.all
  · rw [← e (i + 1) (by omega)]
    rw [← hr i (by omega), ← hr (i + 1) hi] at hu
    exact h.up i hi hu
theorem fs_ext {fs gs : List (Int × Int)} (h : fs.length = gs.length) (e : ∀ i, i < fs.length → fs.getD i fz = gs.getD i fz) : fs = gs := by
  refine List.ext_getElem? fun i => ?_
  by_cases hi : i < fs.length
  · rw [fd_some hi, fd_some (by omega), e i hi]
  · rw [List.getElem?_eq_none (by omega), List.getElem?_eq_none (by omega)]
theorem SqP.one {ns ws : List Int} {fs gs : List (Int × Int)} (hl : ws.length = ns.length) (hw : ∀ w ∈ ws, 1 ≤ w) (h : SqP ns ws fs) (hf : FP fs) (hg : FP gs) (hn : gs.length = ns.length) (c : SqC ns.length (qa ns) (qa ws) (rv gs)) : fs = gs := by
  have u := SqC.uniq (fun i hi => cast_pos (q := ws.getD i 0) (by have := hw _ (List.mem_of_getElem? (gd_some (ns := ws) (i := i) (by omega))); omega)) (h.cert hf) c
  refine fs_ext (by rw [h.len, hn]) fun i hi => ?_
  have a1 := hf.at hi
  have a2 := hg.at (i := i) (by rw [hn, ← h.len]; exact hi)
  exact vl_inj a1.1 a2.1 a1.2 a2.2 (u i (by rw [← h.len]; exact hi))
/-! ### the cost by squares -/
def cq (n : Nat) (a w r : Nat → Rat) : Rat := smq n fun i => w i * ((a i - r i) * (a i - r i))
theorem div_is {a b c : Rat} (hb : b ≠ 0) (h : a = c * b) : a / b = c := by
  have h1 := Rat.div_mul_cancel (a := a) hb
  have : (a / b - c) * b = 0 := by grind
  rcases Rat.mul_eq_zero.mp this with e | e
  · grind
  · exact absurd e hb
theorem acc_ok {T : Int × Int} {n w : Int} {f : Int × Int} (hT : 0 < T.2) (hf : 0 < f.2) : 0 < (acc T n w f.1 f.2).2 ∧ Int.gcd (acc T n w f.1 f.2).1 (acc T n w f.1 f.2).2 = 1 ∧ vl (acc T n w f.1 f.2) = vl T + (w : Rat) * (((n : Rat) - vl f) * ((n : Rat) - vl f)) := by
  have hb : 0 < T.2 * (f.2 * f.2) := Int.mul_pos hT (Int.mul_pos hf hf)
  refine ⟨lowP_pos hb, lowP_gcd hb, ?_⟩
  unfold acc
  rw [vl_low hb]
  refine div_is (cast_ne hb) ?_
  have e1 := vl_mul hT
  have e2 := vl_mul hf
  simp only [Rat.intCast_add, Rat.intCast_mul, Rat.intCast_sub]
  rw [← e1, ← e2]
  grind
theorem accL_ok {ns ws : List Int} {fs : List (Int × Int)} (h1 : ws.length = ns.length) (h2 : fs.length = ns.length) (hf : FP fs) : ∀ k, k ≤ ns.length → 0 < (accL ((z3 ns ws fs).take k)).2 ∧ Int.gcd (accL ((z3 ns ws fs).take k)).1 (accL ((z3 ns ws fs).take k)).2 = 1 ∧ vl (accL ((z3 ns ws fs).take k)) = cq k (qa ns) (qa ws) (rv fs)
  | 0, _ => ⟨by show 0 < ((0, 1) : Int × Int).2; decide, by show Int.gcd (0 : Int) 1 = 1; decide, by
    show vl (0, 1) = 0
    exact (vl_zero (by decide)).mpr rfl⟩
  | k + 1, hk => by
    obtain ⟨i1, i2, i3⟩ := accL_ok h1 h2 hf k (by omega)
    have z := z3_at (gd_some (ns := ns) (i := k) (by omega)) (gd_some (ns := ws) (i := k) (by omega)) (fd_some (fs := fs) (i := k) (by omega))
    rw [take_snoc z, accL_snoc]
    obtain ⟨j1, j2, j3⟩ := acc_ok (n := ns.getD k 0) (w := ws.getD k 0) i1 (hf.at (i := k) (by omega)).1
    refine ⟨j1, j2, ?_⟩
    rw [j3, i3]
    rfl
theorem cost_ok {ns ws : List Int} {fs : List (Int × Int)} (h1 : ws.length = ns.length) (h2 : fs.length = ns.length) (hf : FP fs) : 0 < (accL (z3 ns ws fs)).2 ∧ Int.gcd (accL (z3 ns ws fs)).1 (accL (z3 ns ws fs)).2 = 1 ∧ vl (accL (z3 ns ws fs)) = cq ns.length (qa ns) (qa ws) (rv fs) := by
  have := accL_ok h1 h2 hf ns.length (Nat.le_refl _)
  rw [← z3_length (ns := ns) (ws := ws) (fs := fs) (by omega) (by omega), take_all, z3_length (by omega) (by omega)] at this
  exact this
theorem cq_congr {n : Nat} {a w r a' w' r' : Nat → Rat} (ha : ∀ i, i < n → a i = a' i) (hw : ∀ i, i < n → w i = w' i) (hr : ∀ i, i < n → r i = r' i) : cq n a w r = cq n a' w' r' := smq_congr fun i hi => by rw [ha i hi, hw i hi, hr i hi]
theorem cq_turn (n : Nat) (a w r : Nat → Rat) : cq n (fun i => -a (n - 1 - i)) (fun i => w (n - 1 - i)) (fun i => -r (n - 1 - i)) = cq n a w r := by
  unfold cq
  rw [← smq_back (fun i => w i * ((a i - r i) * (a i - r i)))]
  exact smq_congr fun i _ => by grind
theorem cq_move (n : Nat) (a w r : Nat → Rat) (k : Rat) : cq n (fun i => a i + k) w (fun i => r i + k) = cq n a w r := smq_congr fun i _ => by grind
theorem cq_great (n : Nat) (a w r : Nat → Rat) : cq n (fun i => 3 * a i) w (fun i => 3 * r i) = 9 * cq n a w r := by
  unfold cq
  rw [← smq_mul]
  exact smq_congr fun i _ => by grind
theorem cq_rest (n : Nat) (a w : Nat → Rat) : cq n a w a = 0 := by
  unfold cq
  rw [← smq_zero n]
  exact smq_congr fun i _ => by grind
end Up

set_option maxHeartbeats 4000000
set_option linter.all false
namespace Up
open Fr1
abbrev gd (ns : List Int) (i : Nat) : Int := ns.getD i 0
def tnL (ns : List Int) : List Int := (ns.map fun x => -x).reverse
def tnF (fs : List (Int × Int)) : List (Int × Int) := fs.reverse.map fun f => (-f.1, f.2)
theorem tnL_length (ns : List Int) : (tnL ns).length = ns.length := by unfold tnL; rw [List.length_reverse, List.length_map]
theorem tnF_length (fs : List (Int × Int)) : (tnF fs).length = fs.length := by unfold tnF; rw [List.length_map, List.length_reverse]
theorem tnL_at {ns : List Int} {i : Nat} (h : i < ns.length) : (tnL ns).getD i 0 = -ns.getD (ns.length - 1 - i) 0 := by
  unfold tnL
  rw [gd_rev (by rw [List.length_map]; exact h), List.length_map, gd_map (fun x => -x) (by omega)]
theorem fd_map {fs : List (Int × Int)} {i : Nat} (g : Int × Int → Int × Int) (h : i < fs.length) : (fs.map g).getD i fz = g (fs.getD i fz) := by
  rw [List.getD_eq_getElem?_getD, List.getElem?_map, fd_some h]; rfl
theorem fd_rev {fs : List (Int × Int)} {i : Nat} (h : i < fs.length) : fs.reverse.getD i fz = fs.getD (fs.length - 1 - i) fz := by
  rw [List.getD_eq_getElem?_getD, List.getElem?_reverse h, ← List.getD_eq_getElem?_getD]
theorem tnF_at {fs : List (Int × Int)} {i : Nat} (h : i < fs.length) : (tnF fs).getD i fz = (-(fs.getD (fs.length - 1 - i) fz).1, (fs.getD (fs.length - 1 - i) fz).2) := by
  unfold tnF
  rw [fd_map _ (by rw [List.length_reverse]; exact h), fd_rev h]
theorem vl_negf (p q : Int) : vl (-p, q) = -vl (p, q) := by
  unfold vl
  show ((-p : Int) : Rat) / (q : Rat) = -((p : Rat) / (q : Rat))
  rw [Rat.intCast_neg, Rat.div_def, Rat.div_def, Rat.neg_mul]
theorem FP.tn {fs : List (Int × Int)} (h : FP fs) : FP (tnF fs) := fun f hf => by
  unfold tnF at hf
  obtain ⟨g, hg, rfl⟩ := List.mem_map.mp hf
  have := h g (List.mem_reverse.mp hg)
  exact ⟨this.1, by show Int.gcd (-g.1) g.2 = 1; rw [Int.neg_gcd]; exact this.2⟩
theorem FP.low {fs : List (Int × Int)} (t : Int × Int → Int) (h : FP fs) : FP (fs.map fun f => lowP (t f) f.2) := fun f hf => by
  obtain ⟨g, hg, rfl⟩ := List.mem_map.mp hf
  have := h g hg
  exact ⟨lowP_pos this.1, lowP_gcd this.1⟩
/-! ### the row by squares: turned, moved, made greater, heavier, sorted -/
section
variable {ns ws : List Int} {fs gs : List (Int × Int)}
theorem c_turn (h : SqP ns ws fs) (hf : FP fs) (hl : ws.length = ns.length) : SqC (tnL ns).length (qa (tnL ns)) (qa ws.reverse) (rv (tnF fs)) ∧ cq (tnL ns).length (qa (tnL ns)) (qa ws.reverse) (rv (tnF fs)) = cq ns.length (qa ns) (qa ws) (rv fs) := by
  rw [tnL_length]
  have e1 : ∀ i, i < ns.length → -qa ns (ns.length - 1 - i) = qa (tnL ns) i := fun i hi => by
    unfold qa; rw [tnL_at hi, Rat.intCast_neg]
  have e2 : ∀ i, i < ns.length → qa ws (ns.length - 1 - i) = qa ws.reverse i := fun i hi => by
    unfold qa; rw [gd_rev (by omega), hl]
  have e3 : ∀ i, i < ns.length → -rv fs (ns.length - 1 - i) = rv (tnF fs) i := fun i hi => by
    unfold rv; rw [tnF_at (by rw [h.len]; exact hi), vl_negf, h.len]
  refine ⟨(h.cert hf).turn.congr e1 e2 e3, ?_⟩
  exact (cq_congr e1 e2 e3).symm.trans (cq_turn _ _ _ _)
theorem sq_turn (hl : ws.length = ns.length) (hw : ∀ w ∈ ws, 1 ≤ w) (h : SqP ns ws fs) (hf : FP fs) (h' : SqP (tnL ns) ws.reverse gs) (hg : FP gs) : gs = tnF fs :=
  SqP.one (by rw [List.length_reverse, tnL_length, hl]) (fun w m => hw w (List.mem_reverse.mp m)) h' hg hf.tn (by rw [tnF_length, tnL_length, h.len]) (c_turn h hf hl).1
theorem vl_mv {f : Int × Int} (hf : 0 < f.2) (k : Int) : vl (lowP (f.1 + k * f.2) f.2) = vl f + (k : Rat) := by
  rw [vl_low hf]
  refine div_is (cast_ne hf) ?_
  rw [Rat.intCast_add, Rat.intCast_mul, ← vl_mul hf]
  grind
theorem vl_gr {f : Int × Int} (hf : 0 < f.2) (k : Int) : vl (lowP (k * f.1) f.2) = (k : Rat) * vl f := by
  rw [vl_low hf]
  refine div_is (cast_ne hf) ?_
  rw [Rat.intCast_mul, ← vl_mul hf]
  grind
def mvF (k : Int) (fs : List (Int × Int)) : List (Int × Int) := fs.map fun f => lowP (f.1 + k * f.2) f.2
def grF (fs : List (Int × Int)) : List (Int × Int) := fs.map fun f => lowP (3 * f.1) f.2
def mvL (k : Int) (ns : List Int) : List Int := ns.map fun x => x + k
def grL (ns : List Int) : List Int := ns.map fun x => 3 * x
theorem c_move (k : Int) (h : SqP ns ws fs) (hf : FP fs) : SqC (mvL k ns).length (qa (mvL k ns)) (qa ws) (rv (mvF k fs)) ∧ cq (mvL k ns).length (qa (mvL k ns)) (qa ws) (rv (mvF k fs)) = cq ns.length (qa ns) (qa ws) (rv fs) := by
  have el : (mvL k ns).length = ns.length := by unfold mvL; rw [List.length_map]
  rw [el]
  have e1 : ∀ i, i < ns.length → qa ns i + (k : Rat) = qa (mvL k ns) i := fun i hi => by
    unfold qa mvL; rw [gd_map (fun x => x + k) hi, Rat.intCast_add]
  have e3 : ∀ i, i < ns.length → rv fs i + (k : Rat) = rv (mvF k fs) i := fun i hi => by
    unfold rv mvF; rw [fd_map (fun f => lowP (f.1 + k * f.2) f.2) (by rw [h.len]; exact hi), vl_mv (hf.at (by rw [h.len]; exact hi)).1]
  refine ⟨((h.cert hf).move k).congr e1 (fun _ _ => rfl) e3, ?_⟩
  exact (cq_congr (w := qa ws) e1 (fun _ _ => rfl) e3).symm.trans (cq_move _ _ _ _ _)
theorem sq_move (k : Int) (hl : ws.length = ns.length) (hw : ∀ w ∈ ws, 1 ≤ w) (h : SqP ns ws fs) (hf : FP fs) (h' : SqP (mvL k ns) ws gs) (hg : FP gs) : gs = mvF k fs :=
  SqP.one (by unfold mvL; rw [List.length_map, hl]) hw h' hg (hf.low fun f => f.1 + k * f.2) (by unfold mvL mvF; rw [List.length_map, List.length_map, h.len]) (c_move k h hf).1
theorem c_great (h : SqP ns ws fs) (hf : FP fs) : SqC (grL ns).length (qa (grL ns)) (qa ws) (rv (grF fs)) ∧ cq (grL ns).length (qa (grL ns)) (qa ws) (rv (grF fs)) = 9 * cq ns.length (qa ns) (qa ws) (rv fs) := by
  have el : (grL ns).length = ns.length := by unfold grL; rw [List.length_map]
  rw [el]
  have e1 : ∀ i, i < ns.length → 3 * qa ns i = qa (grL ns) i := fun i hi => by
    unfold qa grL; rw [gd_map (fun x => 3 * x) hi, Rat.intCast_mul]; rfl
  have e3 : ∀ i, i < ns.length → 3 * rv fs i = rv (grF fs) i := fun i hi => by
    unfold rv grF; rw [fd_map (fun f => lowP (3 * f.1) f.2) (by rw [h.len]; exact hi), vl_gr (hf.at (by rw [h.len]; exact hi)).1]; rfl
  refine ⟨((h.cert hf).great (c := 3) (by decide)).congr e1 (fun _ _ => rfl) e3, ?_⟩
  exact (cq_congr (w := qa ws) e1 (fun _ _ => rfl) e3).symm.trans (cq_great _ _ _ _)
theorem sq_great (hl : ws.length = ns.length) (hw : ∀ w ∈ ws, 1 ≤ w) (h : SqP ns ws fs) (hf : FP fs) (h' : SqP (grL ns) ws gs) (hg : FP gs) : gs = grF fs :=
  SqP.one (by unfold grL; rw [List.length_map, hl]) hw h' hg (hf.low fun f => 3 * f.1) (by unfold grL grF; rw [List.length_map, List.length_map, h.len]) (c_great h hf).1
theorem sq_heavy (hl : ws.length = ns.length) (hw : ∀ w ∈ ws, 1 ≤ w) (h : SqP ns ws fs) (hf : FP fs) (h' : SqP ns (grL ws) gs) (hg : FP gs) : gs = fs := by
  refine SqP.one (by unfold grL; rw [List.length_map, hl]) (fun w m => ?_) h' hg hf h.len ?_
  · unfold grL at m
    obtain ⟨x, hx, rfl⟩ := List.mem_map.mp m
    have := hw x hx
    omega
  · refine ((h.cert hf).heavy (c := 3) (by decide)).congr (fun _ _ => rfl) (fun i hi => ?_) (fun _ _ => rfl)
    unfold qa grL; rw [gd_map (fun x => 3 * x) (by omega), Rat.intCast_mul]; rfl
theorem sq_rest (hl : ws.length = ns.length) (hw : ∀ w ∈ ws, 1 ≤ w) (hr : Rise ns) (h : SqP ns ws fs) (hf : FP fs) : cq ns.length (qa ns) (qa ws) (rv fs) = 0 := by
  have c : SqC ns.length (qa ns) (qa ws) (qa ns) := SqC.rest fun i hi => Rat.intCast_le_intCast.mpr (hr i hi)
  have u := SqC.uniq (fun i hi => cast_pos (q := ws.getD i 0) (by have := hw _ (List.mem_of_getElem? (gd_some (ns := ws) (i := i) (by omega))); omega)) (h.cert hf) c
  rw [← cq_rest ns.length (qa ns) (qa ws)]
  exact cq_congr (fun _ _ => rfl) (fun _ _ => rfl) u
end
/-! ### by the greatest change, by sum -/
theorem EvC.congr {n : Nat} {a r a' : Nat → Int} {f s : Nat} {c : Int} (h : EvC n a r f s c) (ha : ∀ i, i < n → a i = a' i) : EvC n a' r f s c := by
  refine ⟨h.ris, ⟨fun i hi => by rw [← ha i hi]; exact h.mx.le i hi, ?_⟩, ?_⟩
  · rcases h.mx.at' with e | ⟨i, hi, e⟩
    · exact .inl e
    · exact .inr ⟨i, hi, by rw [← ha i hi]; exact e⟩
  · rcases h.pl with e | ⟨e1, e2, e3⟩
    · exact .inl e
    · exact .inr ⟨e1, e2, by rw [← ha f (by omega), ← ha s e2]; exact e3⟩
theorem SmC.congr {n : Nat} {a w r p a' w' : Nat → Int} (h : SmC n a w r p) (ha : ∀ i, i < n → a i = a' i) (hw : ∀ i, i < n → w i = w' i) : SmC n a' w' r p := by
  refine ⟨h.ris, fun i hi => by rw [← hw i hi]; exact h.bd i hi, h.nn, h.all, ?_⟩
  have e1 : sm n (fun i => p i * a' i) = sm n (fun i => p i * a i) := sm_congr fun i hi => by rw [ha i hi]
  have e2 : sm n (fun i => w' i * ab (a' i) (r i)) = sm n (fun i => w i * ab (a i) (r i)) := sm_congr fun i hi => by rw [ha i hi, hw i hi]
  rw [e1, e2]
  exact h.cost
theorem EvP.cert {ns row : List Int} {i j : Int} (h : EvP ns row i j) : EvC ns.length (gd ns) (gd row) i.toNat j.toNat (maxL (dl ns row)) := by
  have L := h.len
  refine ⟨fun k hk => h.ris k (by omega), ⟨fun k hk => maxL_ge (dl_mem L hk), ?_⟩, ?_⟩
  · by_cases e : ns.length = 0
    · refine .inl ⟨e, ?_⟩
      have : dl ns row = [] := List.eq_nil_of_length_eq_zero (by rw [dl_length (by omega)]; exact e)
      rw [this]; rfl
    · refine .inr ?_
      rcases (maxL_from (dl ns row) 0).2.2 with z | z
      · refine ⟨0, by omega, ?_⟩
        have a1 : ab (gd ns 0) (gd row 0) ≤ maxL (dl ns row) := maxL_ge (dl_mem L (by omega))
        have a2 : 0 ≤ ab (gd ns 0) (gd row 0) := dif_nn _ _
        have a3 : maxL (dl ns row) = 0 := z
        omega
      · obtain ⟨k, hk, e⟩ := mem_dl L z
        exact ⟨k, hk, e.symm⟩
  · by_cases e : ns.length = 0
    · exact .inl e
    · have h1 := h.f0
      have h2 := h.fs
      have h3 := h.sl
      exact .inr ⟨by omega, by omega, h.sh⟩
structure Cst (ns ws : List Int) (g s : Int) (f : Int × Int) : Prop where
  ev : ∃ row i j, EvP ns row i j ∧ g = maxL (dl ns row)
  su : ∃ r p, SmC ns.length (gd ns) (gd ws) r p ∧ s = sm ns.length (fun i => gd ws i * ab (gd ns i) (r i))
  sq : ∃ fs, SqP ns ws fs ∧ FP fs ∧ f = accL (z3 ns ws fs)
section
variable {ns ws : List Int} {g s g' s' : Int} {f f' : Int × Int}
theorem Cst.fp (hl : ws.length = ns.length) (h : Cst ns ws g s f) : 0 < f.2 ∧ Int.gcd f.1 f.2 = 1 := by
  obtain ⟨fs, h1, h2, rfl⟩ := h.sq
  have := cost_ok hl h1.len h2
  exact ⟨this.1, this.2.1⟩
theorem Cst.turn (hl : ws.length = ns.length) (hw : ∀ w ∈ ws, 1 ≤ w) (h : Cst ns ws g s f) (h' : Cst (tnL ns) ws.reverse g' s' f') : g' = g ∧ s' = s ∧ f' = f := by
  have el := tnL_length ns
  refine ⟨?_, ?_, ?_⟩
  · obtain ⟨row, i, j, e, rfl⟩ := h.ev
    obtain ⟨row', i', j', e', rfl⟩ := h'.ev
    have c' := e'.cert
    rw [el] at c'
    exact even_turned e.cert (c'.congr fun i hi => tnL_at hi)
  · obtain ⟨r, p, e, rfl⟩ := h.su
    obtain ⟨r', p', e', rfl⟩ := h'.su
    rw [el] at e' ⊢
    have ew : ∀ i, i < ns.length → gd ws.reverse i = gd ws (ns.length - 1 - i) := fun i hi => by unfold gd; rw [gd_rev (by omega), hl]
    have ea : ∀ i, i < ns.length → gd (tnL ns) i = -gd ns (ns.length - 1 - i) := fun i hi => tnL_at hi
    rw [← sum_turned e (e'.congr ea ew)]
    exact sm_congr fun i hi => by rw [ew i hi, ea i hi]
  · obtain ⟨fs, h1, h2, rfl⟩ := h.sq
    obtain ⟨gs, h3, h4, rfl⟩ := h'.sq
    obtain rfl := sq_turn hl hw h1 h2 h3 h4
    have a := cost_ok hl h1.len h2
    have b := cost_ok (ws := ws.reverse) (by rw [List.length_reverse, el, hl]) h3.len h4
    exact vl_inj b.1 a.1 b.2.1 a.2.1 (by rw [b.2.2, a.2.2]; exact (c_turn h1 h2 hl).2)
theorem Cst.move (k : Int) (hl : ws.length = ns.length) (hw : ∀ w ∈ ws, 1 ≤ w) (h : Cst ns ws g s f) (h' : Cst (mvL k ns) ws g' s' f') : g' = g ∧ s' = s ∧ f' = f := by
  have el : (mvL k ns).length = ns.length := by unfold mvL; rw [List.length_map]
  have ea : ∀ i, i < ns.length → gd (mvL k ns) i = gd ns i + k := fun i hi => gd_map (fun x => x + k) hi
  refine ⟨?_, ?_, ?_⟩
  · obtain ⟨row, i, j, e, rfl⟩ := h.ev
    obtain ⟨row', i', j', e', rfl⟩ := h'.ev
    have c' := e'.cert
    rw [el] at c'
    exact even_moved k e.cert (c'.congr ea)
  · obtain ⟨r, p, e, rfl⟩ := h.su
    obtain ⟨r', p', e', rfl⟩ := h'.su
    rw [el] at e' ⊢
    rw [← sum_moved k e (e'.congr ea fun _ _ => rfl)]
    exact sm_congr fun i hi => by rw [ea i hi]
  · obtain ⟨fs, h1, h2, rfl⟩ := h.sq
    obtain ⟨gs, h3, h4, rfl⟩ := h'.sq
    obtain rfl := sq_move k hl hw h1 h2 h3 h4
    have a := cost_ok hl h1.len h2
    have b := cost_ok (ws := ws) (by rw [el, hl]) h3.len h4
    exact vl_inj b.1 a.1 b.2.1 a.2.1 (by rw [b.2.2, a.2.2]; exact (c_move k h1 h2).2)
theorem Cst.great (hl : ws.length = ns.length) (hw : ∀ w ∈ ws, 1 ≤ w) (h : Cst ns ws g s f) (h' : Cst (grL ns) ws g' s' f') : s' = 3 * s ∧ f' = lowP (9 * f.1) f.2 := by
  have el : (grL ns).length = ns.length := by unfold grL; rw [List.length_map]
  have ea : ∀ i, i < ns.length → gd (grL ns) i = 3 * gd ns i := fun i hi => gd_map (fun x => 3 * x) hi
  refine ⟨?_, ?_⟩
  · obtain ⟨r, p, e, rfl⟩ := h.su
    obtain ⟨r', p', e', rfl⟩ := h'.su
    rw [el] at e' ⊢
    rw [← sum_tri e (e'.congr ea fun _ _ => rfl)]
    exact sm_congr fun i hi => by rw [ea i hi]
  · obtain ⟨fs, h1, h2, rfl⟩ := h.sq
    obtain ⟨gs, h3, h4, rfl⟩ := h'.sq
    obtain rfl := sq_great hl hw h1 h2 h3 h4
    have a := cost_ok hl h1.len h2
    have b := cost_ok (ws := ws) (by rw [el, hl]) h3.len h4
    refine vl_inj b.1 (lowP_pos a.1) b.2.1 (lowP_gcd a.1) ?_
    rw [b.2.2, vl_gr a.1, a.2.2, (c_great h1 h2).2]
    rfl
theorem Cst.rest (hl : ws.length = ns.length) (hw : ∀ w ∈ ws, 1 ≤ w) (hr : Rise ns) (h : Cst ns ws g s f) : g = 0 ∧ s = 0 ∧ f = (0, 1) := by
  have ra : Ris ns.length (gd ns) := fun i hi => hr i hi
  refine ⟨?_, ?_, ?_⟩
  · obtain ⟨row, i, j, e, rfl⟩ := h.ev
    exact even_sorted ra e.cert
  · obtain ⟨r, p, e, rfl⟩ := h.su
    exact sum_sorted ra (fun i hi => hw _ (List.mem_of_getElem? (gd_some (ns := ws) (i := i) (by omega)))) e
  · obtain ⟨fs, h1, h2, rfl⟩ := h.sq
    have a := cost_ok hl h1.len h2
    refine vl_inj a.1 (by decide) a.2.1 (by decide) ?_
    rw [a.2.2, sq_rest hl hw hr h1 h2, (vl_zero (by decide)).mpr rfl]
end
end Up

set_option Elab.async false
set_option linter.all false
set_option maxRecDepth 100000
set_option maxHeartbeats 4000000
namespace K1
open PySem L2 Fr1 Up
structure Bn (mg : Str → Option Value) : Prop where
  abs' : mg "abs" = none
  len' : mg "len" = none
  sum' : mg "sum" = none
  sorted' : mg "sorted" = none
  all' : mg "all" = none
  isinstance' : mg "isinstance" = none
  max' : mg "max" = none
  min' : mg "min" = none
  list' : mg "list" = none
  int' : mg "int" = none
  bool' : mg "bool" = none
  tuple' : mg "tuple" = none
  zip' : mg "zip" = none
  enumerate' : mg "enumerate" = none
  range' : mg "range" = none
  any' : mg "any" = none
  reversed' : mg "reversed" = none
/-! ### small facts -/
theorem ints_at {ns : List Int} {i : Nat} {x : V} (h : (ns.map V.int)[i]? = some x) : ∃ z, ns[i]? = some z ∧ x = .int z := by
  rw [List.getElem?_map] at h
  cases e : ns[i]? with
  | none => rw [e] at h; cases h
  | some z => rw [e] at h; exact ⟨z, rfl, (Option.some.inj h).symm⟩
theorem at_ints {ns : List Int} {i : Nat} {z : Int} (h : ns[i]? = some z) : (ns.map V.int)[i]? = some (.int z) := by rw [List.getElem?_map, h]; rfl
theorem refs_at {rs : List Addr} {i : Nat} {x : V} (h : (rs.map V.ref)[i]? = some x) : ∃ z, rs[i]? = some z ∧ x = .ref z := by
  rw [List.getElem?_map] at h
  cases e : rs[i]? with
  | none => rw [e] at h; cases h
  | some z => rw [e] at h; exact ⟨z, rfl, (Option.some.inj h).symm⟩
theorem at_refs {rs : List Addr} {i : Nat} {z : Addr} (h : rs[i]? = some z) : (rs.map V.ref)[i]? = some (.ref z) := by rw [List.getElem?_map, h]; rfl
theorem le63 {n : Nat} (h : n ≤ 1000) : n ≤ sizeLine := Nat.le_of_lt (small1000 (by omega))
theorem get_of {α : Type} {xs : List α} {i : Nat} (h : i < xs.length) : ∃ x, xs[i]? = some x := ⟨xs[i], List.getElem?_eq_getElem h⟩
def FrAt (H : Hp) (rs : List Addr) (fs : List (Int × Int)) : Prop := rs.length = fs.length ∧ ∀ (i : Nat) r f, rs[i]? = some r → fs[i]? = some f → H r = some (.tup [.int f.1, .int f.2])
theorem FrAt.same {H H' : Hp} {rs : List Addr} {fs : List (Int × Int)} (h : FrAt H rs fs) (s : Same H H') : FrAt H' rs fs := ⟨h.1, fun i r f e1 e2 => s _ _ (h.2 i r f e1 e2)⟩
/-! ### what each def promises -/
def spGcd : Sp := fun vs H Q _ => ∃ a b : Int, vs = [.int a, .int b] ∧ Q (.int (Int.gcd a b : Int)) H
def spWhole : Sp := fun vs H Q _ => ∃ i : Int, vs = [.int i] ∧ Q (.bl true) H
def spFrac : Sp := fun vs H Q _ => ∃ (a : Addr) (p r : Int), vs = [.ref a] ∧ H a = some (.tup [.int p, .int r]) ∧ 1 ≤ r ∧ Int.gcd p r = 1 ∧ Q (.bl true) H
def spListW : Sp := fun vs H Q _ => ∃ (a : Addr) (ns : List Int), vs = [.ref a] ∧ H a = some (.lst (ns.map V.int)) ∧ ns.length ≤ 1000 ∧ ∀ H', Same H H' → Q (.bl true) H'
def spListF : Sp := fun vs H Q _ => ∃ (a : Addr) (rs : List Addr) (fs : List (Int × Int)), vs = [.ref a] ∧ H a = some (.lst (rs.map V.ref)) ∧ FrAt H rs fs ∧ fs.length ≤ 1000 ∧ (∀ f ∈ fs, 1 ≤ f.2 ∧ Int.gcd f.1 f.2 = 1) ∧ ∀ H', Same H H' → Q (.bl true) H'
def spChk1 : Sp := fun vs H Q _ => ∃ (a : Addr) (ns : List Int), vs = [.ref a] ∧ H a = some (.lst (ns.map V.int)) ∧ ns.length ≤ 1000 ∧ ∀ H', Same H H' → Q .non H'
def spChk2 : Sp := fun vs H Q _ => ∃ (a b : Addr) (ns ms : List Int), vs = [.ref a, .ref b] ∧ H a = some (.lst (ns.map V.int)) ∧ H b = some (.lst (ms.map V.int)) ∧ ns.length ≤ 1000 ∧ ms.length = ns.length ∧ ∀ H', Same H H' → Q .non H'
def spChkF : Sp := fun vs H Q _ => ∃ (a b : Addr) (ns : List Int) (rs : List Addr) (fs : List (Int × Int)), vs = [.ref a, .ref b] ∧ H a = some (.lst (ns.map V.int)) ∧ H b = some (.lst (rs.map V.ref)) ∧ FrAt H rs fs ∧ ns.length ≤ 1000 ∧ fs.length = ns.length ∧ (∀ f ∈ fs, 1 ≤ f.2 ∧ Int.gcd f.1 f.2 = 1) ∧ ∀ H', Same H H' → Q .non H'
def spChkW : Sp := fun vs H Q _ => ∃ (a b : Addr) (ns ws : List Int), vs = [.ref a, .ref b] ∧ H a = some (.lst (ns.map V.int)) ∧ H b = some (.lst (ws.map V.int)) ∧ ns.length ≤ 1000 ∧ ws.length = ns.length ∧ (∀ w ∈ ws, 1 ≤ w) ∧ ∀ H', Same H H' → Q .non H'
def spDiff : Sp := fun vs H Q _ => ∃ (a b : Addr) (ns ms : List Int), vs = [.ref a, .ref b] ∧ H a = some (.lst (ns.map V.int)) ∧ H b = some (.lst (ms.map V.int)) ∧ ns.length ≤ 1000 ∧ ms.length = ns.length ∧ ∀ p H', Same H H' → H' p = some (.lst ((dl ns ms).map V.int)) → Q (.ref p) H'
def spGreat : Sp := fun vs H Q _ => ∃ (a b : Addr) (ns ms : List Int), vs = [.ref a, .ref b] ∧ H a = some (.lst (ns.map V.int)) ∧ H b = some (.lst (ms.map V.int)) ∧ ns.length ≤ 1000 ∧ ms.length = ns.length ∧ ∀ H', Same H H' → Q (.int (maxL (dl ns ms))) H'
def spSummed : Sp := fun vs H Q _ => ∃ (a b c : Addr) (ns ms ws : List Int), vs = [.ref a, .ref b, .ref c] ∧ H a = some (.lst (ns.map V.int)) ∧ H b = some (.lst (ms.map V.int)) ∧ H c = some (.lst (ws.map V.int)) ∧ ns.length ≤ 1000 ∧ ms.length = ns.length ∧ ws.length = ns.length ∧
  (∀ w ∈ ws, 1 ≤ w ∧ w ≤ 1125899906842623) ∧ ∀ H', Same H H' → Q (.int (wl ws (dl ns ms)).sum) H'
/-! ### uprow.fractions -/
/-! ### uprow.checks -/
theorem rep_snoc {α : Type} (x : α) (i : Nat) : List.replicate i x ++ [x] = List.replicate (i + 1) x := by rw [List.replicate_succ']
theorem rep_all (n : Nat) : ((List.replicate n true).all fun b => b) = true := by
  rw [List.all_eq_true]
  intro x hx
  exact (List.eq_of_mem_replicate hx)
/-! ### uprow.costs -/
def Bt (n : Int) : Prop := Builtin.Int.intBits n ≤ 1048576
theorem Bt.small {n : Int} (h1 : -(2 ^ 120) < n) (h2 : n < 2 ^ 120) : Bt n := by
  have h : Builtin.Int.intBits n ≤ 120 := intBits_le_iff.mpr (by omega)
  unfold Bt
  omega
theorem Bt.le {m n : Int} (h : m.natAbs ≤ n.natAbs) (hn : Bt n) : Bt m := intBits_le_of_natAbs h hn
def spNumbers (K : PySem.W.Frag) : Sp := fun vs H Q _ => ∃ (a : Addr) (ns : List Int), vs = [.ref a] ∧ SqL K H a (ns.map V.int) ∧ ns.length ≤ 63 ∧ (∀ n ∈ ns, Bt n) ∧
  ∀ p H' (ms : List Int), Same H H' → H p = none → H' p = some (.lst (ms.map V.int)) → ms.length = ns.length → (∀ m ∈ ms, Bt m) → Q (.ref p) H'
def spWeights (K : PySem.W.Frag) : Sp := fun vs H Q _ => ∃ (a : Addr) (ns : List Int), vs = [.ref a] ∧ SqL K H a (ns.map V.int) ∧ ns.length ≤ 63 ∧
  ∀ p H' (ws : List Int), Same H H' → H p = none → H' p = some (.lst (ws.map V.int)) → ws.length = ns.length → (∀ w ∈ ws, 1 ≤ w ∧ w ≤ 1000000000) → Q (.ref p) H'
theorem pow30 : (10 : Int) ^ (30 : Int).toNat = 1000000000000000000000000000000 := by decide
theorem pow9 : (10 : Int) ^ (9 : Int).toNat = 1000000000 := by decide
theorem idx3 (t : Int) : t % 3 = 0 ∨ t % 3 = 1 ∨ t % 3 = 2 := by omega
theorem most_at (t : Int) : ∃ m, atI [V.int 7, V.int 100, V.int 0] (t % 3) = some (.int m) ∧ (m = 7 ∨ m = 100 ∨ m = 0) := by
  rcases idx3 t with e | e | e <;> rw [e]
  · exact ⟨7, rfl, .inl rfl⟩
  · exact ⟨100, rfl, .inr (.inl rfl)⟩
  · exact ⟨0, rfl, .inr (.inr rfl)⟩
theorem weight_at {t a b : Int} (ha : 0 ≤ a ∧ a < 5) (hb : 0 ≤ b ∧ b < 1000000000) : ∃ m, atI [V.int 1, V.int (1 + a), V.int (1 + b)] (t % 3) = some (.int m) ∧ 1 ≤ m ∧ m ≤ 1000000000 := by
  rcases idx3 t with e | e | e <;> rw [e]
  · exact ⟨1, rfl, by omega, by omega⟩
  · exact ⟨1 + a, rfl, by omega, by omega⟩
  · exact ⟨1 + b, rfl, by omega, by omega⟩
theorem map_snoc {α β : Type} (g : α → β) {xs : List α} {i : Nat} {x : α} (h : xs[i]? = some x) : (xs.take (i + 1)).map g = (xs.take i).map g ++ [g x] := by
  rw [take_snoc h, List.map_append]; rfl
theorem bt_first {m c : Int} (hm : m = 7 ∨ m = 100 ∨ m = 0) (hc : Bt c) : Bt (if 0 < m then c % m - m / 2 else c) := by
  split
  · rename_i h
    have h1 := Int.emod_nonneg c (show m ≠ 0 by omega)
    have h2 := Int.emod_lt_of_pos c h
    refine Bt.small ?_ ?_ <;> omega
  · exact hc
theorem bt_second (c : Int) : Bt (c % 1000000000000000000000000000000 * (1 - c / 1000000000000000000000000000000 % 2 * 2)) := by
  have h1 := Int.emod_nonneg c (show (1000000000000000000000000000000 : Int) ≠ 0 by decide)
  have h2 := Int.emod_lt_of_pos c (show (0 : Int) < 1000000000000000000000000000000 by decide)
  generalize c % 1000000000000000000000000000000 = x at h1 h2
  have : c / 1000000000000000000000000000000 % 2 = 0 ∨ c / 1000000000000000000000000000000 % 2 = 1 := by omega
  rcases this with e | e <;> rw [e]
  · refine Bt.small ?_ ?_ <;> omega
  · refine Bt.small ?_ ?_ <;> omega
theorem seq_with {t u : TS} {D : Ends} {σ : St} {H : Hp} (C : St → Hp → Prop) (h1 : ∀ σ' H', C σ' H' → u D σ' H') (h2 : (∀ σ' H', C σ' H' → u D σ' H') → t { D with nx := u D } σ H) : tSeq t u D σ H := h2 h1
theorem one_two (y : Int) : -(2 ^ 64) < 1 - y % 2 * 2 ∧ 1 - y % 2 * 2 < 2 ^ 64 := by omega
def spLaw (K : PySem.W.Frag) : Sp := fun vs H Q _ => ∃ (a : Addr) (ns : List Int), vs = [.ref a] ∧ SqL K H a (ns.map V.int) ∧ ns.length ≤ 63 ∧ (∀ n ∈ ns, Bt n) ∧ ∀ H', Q (.bl true) H'
theorem EqL.same {K : PySem.W.Frag} {H : Hp} {n : Nat} {a b : Addr} {xs : List V} (ha : SqL K H a xs) (hb : SqL K H b xs) (h : ∀ x ∈ xs, flatV x = true ∨ ∃ a, x = .ref a) : EqL K H n (.ref a) (.ref b) true :=
  ⟨a, b, xs, xs, fun _ => true, rfl, rfl, ha, hb, rfl, fun j x y e1 e2 => by
    rw [e1] at e2
    cases e2
    exact EqR.of_same (h x (List.mem_of_getElem? e1)), (all_true _).symm⟩
theorem EqT.same {K : PySem.W.Frag} {H : Hp} {n : Nat} {a b : Addr} {xs : List V} (ha : SqT K H a xs) (hb : SqT K H b xs) (h : ∀ x ∈ xs, flatV x = true ∨ ∃ a, x = .ref a) : EqT K H n (.ref a) (.ref b) true :=
  ⟨a, b, xs, xs, fun _ => true, rfl, rfl, ha, hb, rfl, fun j x y e1 e2 => by
    rw [e1] at e2
    cases e2
    exact EqR.of_same (h x (List.mem_of_getElem? e1)), (all_true _).symm⟩
theorem EqL.three {K : PySem.W.Frag} {H : Hp} {n : Nat} {a b l1 l2 l3 m1 m2 m3 : Addr} (ha : SqL K H a [.ref l1, .ref l2, .ref l3]) (hb : SqL K H b [.ref m1, .ref m2, .ref m3]) (h1 : EqR K H n (.ref l1) (.ref m1) true) (h2 : EqR K H n (.ref l2) (.ref m2) true) (h3 : EqR K H n (.ref l3) (.ref m3) true) :
    EqL K H n (.ref a) (.ref b) true :=
  ⟨a, b, _, _, fun _ => true, rfl, rfl, ha, hb, rfl, (by
    intro j x y e1 e2
    match j, e1, e2 with
    | 0, e1, e2 => cases e1; cases e2; exact h1
    | 1, e1, e2 => cases e1; cases e2; exact h2
    | 2, e1, e2 => cases e1; cases e2; exact h3
    | j + 3, e1, e2 => cases e1), (all_true _).symm⟩
theorem FrAt.snoc {H : Hp} {rs : List Addr} {fs : List (Int × Int)} {t : Addr} {x : Int × Int} (h : FrAt H rs fs) (ht : H t = none) : FrAt (upd H t (.tup [.int x.1, .int x.2])) (rs ++ [t]) (fs ++ [x]) := by
  refine ⟨by rw [List.length_append, List.length_append, h.1]; rfl, fun i r f e1 e2 => ?_⟩
  by_cases hi : i < rs.length
  · rw [List.getElem?_append_left hi] at e1
    rw [List.getElem?_append_left (by rw [← h.1]; exact hi)] at e2
    exact (same_new ht _) _ _ (h.2 i r f e1 e2)
  · have hi' : rs.length ≤ i := Nat.le_of_not_lt hi
    rw [List.getElem?_append_right hi'] at e1
    rw [List.getElem?_append_right (by rw [← h.1]; exact hi'), ← h.1] at e2
    have z : i - rs.length = 0 := by
      have := (List.getElem?_eq_some_iff.mp e1).1
      rw [List.length_singleton] at this
      omega
    rw [z] at e1 e2
    cases e1
    cases e2
    exact upd_same
/-! ### round 2 -/
structure CA where
  Answer : Addr
  Evened : Addr
  Summed : Addr
  Squared : Addr
  Band : Addr
  Barred : Addr
structure NaEvened (K : PySem.W.Frag) (C : Addr) : Prop where
  r : NoAttr K C "row"
  f : NoAttr K C "first"
  s : NoAttr K C "second"
structure NaSummed (K : PySem.W.Frag) (C : Addr) : Prop where
  r : NoAttr K C "row"
  p : NoAttr K C "pulls"
structure NaSquared (K : PySem.W.Frag) (C : Addr) : Prop where
  r : NoAttr K C "row"
structure NaBand (K : PySem.W.Frag) (C : Addr) : Prop where
  l : NoAttr K C "lows"
  h : NoAttr K C "highs"
structure NaBarred (K : PySem.W.Frag) (C : Addr) : Prop where
  f : NoAttr K C "first"
  s : NoAttr K C "second"
theorem dec_len {ns ms : List Int} : (decide (V.int (((ms.map V.int).length : Nat) : Int) = V.int (((ns.map V.int).length : Nat) : Int)) = true) ↔ ms.length = ns.length := by
  rw [decide_eq_true_iff, List.length_map, List.length_map]
  constructor
  · intro h; injection h with h; omega
  · intro h; rw [h]
theorem dec_lenF {ns : List Int} {rs : List Addr} : (decide (V.int (((rs.map V.ref).length : Nat) : Int) = V.int (((ns.map V.int).length : Nat) : Int)) = true) ↔ rs.length = ns.length := by
  rw [decide_eq_true_iff, List.length_map, List.length_map]
  constructor
  · intro h; injection h with h; omega
  · intro h; rw [h]
def spRowW : Sp := fun vs H Q _ => ∃ (a b : Addr) (ns ms : List Int), vs = [.ref a, .ref b] ∧ H a = some (.lst (ns.map V.int)) ∧ H b = some (.lst (ms.map V.int)) ∧ ns.length ≤ 1000 ∧ ms.length ≤ 1000 ∧ ∀ bb H', (bb = true ↔ ms.length = ns.length) → Same H H' → Q (.bl bb) H'
def spRowF : Sp := fun vs H Q _ => ∃ (a b : Addr) (ns : List Int) (rs : List Addr) (fs : List (Int × Int)), vs = [.ref a, .ref b] ∧ H a = some (.lst (ns.map V.int)) ∧ H b = some (.lst (rs.map V.ref)) ∧ FrAt H rs fs ∧ ns.length ≤ 1000 ∧ fs.length ≤ 1000 ∧ (∀ f ∈ fs, 1 ≤ f.2 ∧ Int.gcd f.1 f.2 = 1) ∧
  ∀ bb H', (bb = true ↔ fs.length = ns.length) → Same H H' → Q (.bl bb) H'
def spWts : Sp := fun vs H Q _ => ∃ (a b : Addr) (ns ws : List Int), vs = [.ref a, .ref b] ∧ H a = some (.lst (ns.map V.int)) ∧ H b = some (.lst (ws.map V.int)) ∧ ns.length ≤ 1000 ∧ ws.length = ns.length ∧ (∀ w ∈ ws, 1 ≤ w) ∧ ∀ H', Same H H' → Q (.bl true) H'
end K1

set_option Elab.async false
set_option linter.all false
set_option maxRecDepth 100000
set_option maxHeartbeats 4000000
namespace K1
open PySem L2 Fr1 Up
/-! ### promises: rows that rise -/
def spUp : Sp := fun vs H Q _ => ∃ (a : Addr) (ns : List Int), vs = [.ref a] ∧ H a = some (.lst (ns.map V.int)) ∧ ns.length ≤ 1000 ∧ ∀ p H', Same H H' → H p = none → H' p = some (.lst ((upL ns).map V.int)) → Q (.ref p) H'
def spLo : Sp := fun vs H Q _ => ∃ (a : Addr) (ns : List Int), vs = [.ref a] ∧ H a = some (.lst (ns.map V.int)) ∧ ns.length ≤ 1000 ∧ ∀ p H', Same H H' → H p = none → H' p = some (.lst ((loL ns).map V.int)) → Q (.ref p) H'
def spFall : Sp := fun vs H Q _ => ∃ (a : Addr) (ns : List Int), vs = [.ref a] ∧ H a = some (.lst (ns.map V.int)) ∧ ns.length ≤ 1000 ∧ ∀ (t p : Nat) (d : Int) (r : Addr) H', Fall ns t p d → Same H H' → H' r = some (.tup [.int t, .int p, .int d]) → Q (.ref r) H'
def spLeast : Sp := fun vs H Q _ => ∃ (a : Addr) (ns : List Int) (m : Int), vs = [.ref a, .int m] ∧ H a = some (.lst (ns.map V.int)) ∧ ns.length ≤ 1000 ∧ ∀ p H', Same H H' → H p = none → H' p = some (.lst (((upL ns).map fun x => x - m).map V.int)) → Q (.ref p) H'
/-! ### answers, as they stand -/
structure EvAt (c : CA) (H : Hp) (x r : Addr) (row : List Int) (i j : Int) : Prop where
  ob : ∃ dx fs, H x = some (.ins c.Evened dx fs) ∧ fs.lookup ("row" : Str) = some (.ref r) ∧ fs.lookup ("first" : Str) = some (.int i) ∧ fs.lookup ("second" : Str) = some (.int j) ∧ fs.lookup ("shows" : Str) = none
  rl : H r = some (.lst (row.map V.int))
theorem EvAt.same {c : CA} {H H' : Hp} {x r : Addr} {row : List Int} {i j : Int} (h : EvAt c H x r row i j) (s : Same H H') : EvAt c H' x r row i j := by
  obtain ⟨⟨dx, fs, e, l⟩, rl⟩ := h
  exact ⟨⟨dx, fs, s _ _ e, l⟩, s _ _ rl⟩
def Kept (H H' : Hp) (x : Addr) : Prop := ∀ b o, H b = some o → b ≠ x → H' b = some o
def spEvInit (c : CA) : Sp := fun vs H Q _ => ∃ (x r dx : Addr) (row : List Int) (i j : Int), vs = [.ref x, .ref r, .int i, .int j] ∧ H x = some (.ins c.Evened dx []) ∧ H r = some (.lst (row.map V.int)) ∧ ∀ l H', H l = none → EvAt c H' x l row i j → Kept H H' x → Q .non H'
def spEvened (c : CA) : Sp := fun vs H Q _ => ∃ (a : Addr) (ns : List Int), vs = [.ref a] ∧ H a = some (.lst (ns.map V.int)) ∧ ns.length ≤ 1000 ∧ ∀ x r row i j H', EvAt c H' x r row i j → Same H H' → H x = none → H r = none → EvP ns row i j → Q (.ref x) H'
structure BaAt (c : CA) (H : Hp) (x l h : Addr) (lows highs : List Int) : Prop where
  ob : ∃ dx fs, H x = some (.ins c.Band dx fs) ∧ fs.lookup ("lows" : Str) = some (.ref l) ∧ fs.lookup ("highs" : Str) = some (.ref h) ∧ fs.lookup ("shows" : Str) = none
  ll : H l = some (.lst (lows.map V.int))
  hl : H h = some (.lst (highs.map V.int))
theorem BaAt.same {c : CA} {H H' : Hp} {x l h : Addr} {lows highs : List Int} (z : BaAt c H x l h lows highs) (s : Same H H') : BaAt c H' x l h lows highs := by
  obtain ⟨⟨dx, fs, e, k⟩, ll, hl⟩ := z
  exact ⟨⟨dx, fs, s _ _ e, k⟩, s _ _ ll, s _ _ hl⟩
structure BrAt (c : CA) (H : Hp) (x : Addr) (i j : Int) : Prop where
  ob : ∃ dx fs, H x = some (.ins c.Barred dx fs) ∧ fs.lookup ("first" : Str) = some (.int i) ∧ fs.lookup ("second" : Str) = some (.int j) ∧ fs.lookup ("shows" : Str) = none
theorem BrAt.same {c : CA} {H H' : Hp} {x : Addr} {i j : Int} (z : BrAt c H x i j) (s : Same H H') : BrAt c H' x i j := by
  obtain ⟨dx, fs, e, k⟩ := z.ob
  exact ⟨dx, fs, s _ _ e, k⟩
/-! ### facts -/
theorem _root_.L2.Same.upd {H H' : Hp} (s : Same H H') {p : Addr} (h : H p = none) (o : HO) : Same H (upd H' p o) := fun b u q => by rw [upd_ne (ne_of_none q h)]; exact s b u q
theorem range_snoc {α : Type} (p : Nat → α) (i : Nat) : (List.range (i + 1)).map p = (List.range i).map p ++ [p i] := by rw [List.range_succ, List.map_append]; rfl
theorem at_gd {ns : List Int} {i : Nat} (h : i < ns.length) : (ns.map V.int)[i]? = some (.int (ns.getD i 0)) := at_ints (gd_some h)
theorem atI_gd {ns : List Int} {k : Int} {i : Nat} (e : k = i) (h : i < ns.length) : atI (ns.map V.int) k = some (.int (ns.getD i 0)) := by subst e; exact atI_nat (at_gd h)
theorem le1000 {n : Nat} (h : n ≤ 1000) : n ≤ sizeLine := Nat.le_of_lt (small1000 h)
theorem len_map_le {ns : List Int} (h : ns.length ≤ 1000) : (ns.map V.int).length ≤ sizeLine := by rw [List.length_map]; exact le1000 h
theorem Kept.same {H H1 H' : Hp} {x : Addr} (k : Kept H1 H' x) (s : Same H H1) (hx : H x = none) : Same H H' := fun b o e => k b o (s b o e) (ne_of_none e hx)
theorem same_own {H : Hp} {x dx C : Addr} (hx : H x = none) (hdx : H dx = none) : Same H (upd (upd H dx (.own x)) x (.ins C dx [])) := (same_new hdx _).upd hx _
theorem iteDT {c A B : Prop} [Decidable c] (h : c) (x : A) : if decide c = true then A else B := by rw [if_pos (decide_eq_true h)]; exact x
theorem iteDF {c A B : Prop} [Decidable c] (h : ¬ c) (x : B) : if decide c = true then A else B := by rw [if_neg (by rw [decide_eq_false h]; decide)]; exact x
theorem iteD {c A B : Prop} [Decidable c] (x : c → A) (y : ¬ c → B) : if decide c = true then A else B := by
  by_cases h : c
  · exact iteDT h (x h)
  · exact iteDF h (y h)
theorem iteNT {c A B : Prop} [Decidable c] (h : ¬ c) (x : A) : if (!decide c) = true then A else B := by rw [if_pos (by rw [decide_eq_false h]; rfl)]; exact x
theorem iteNF {c A B : Prop} [Decidable c] (h : c) (x : B) : if (!decide c) = true then A else B := by rw [if_neg (by rw [decide_eq_true h]; decide)]; exact x
/-! ### the laws' own helpers -/
def LsAt (H : Hp) (os : List Addr) (nss : List (List Int)) : Prop := os.length = nss.length ∧ ∀ (i : Nat) o ns, os[i]? = some o → nss[i]? = some ns → H o = some (.lst (ns.map V.int))
theorem LsAt.same {H H' : Hp} {os : List Addr} {nss : List (List Int)} (h : LsAt H os nss) (s : Same H H') : LsAt H' os nss := ⟨h.1, fun i r f e1 e2 => s _ _ (h.2 i r f e1 e2)⟩
end K1

set_option Elab.async false
set_option linter.all false
set_option maxRecDepth 100000
set_option maxHeartbeats 4000000
namespace K1
open PySem L2 Fr1 Up
/-! ### the law of bands -/
theorem EqL.two {K : PySem.W.Frag} {H : Hp} {n : Nat} {a b l1 l2 m1 m2 : Addr} (ha : SqL K H a [.ref l1, .ref l2]) (hb : SqL K H b [.ref m1, .ref m2]) (h1 : EqR K H n (.ref l1) (.ref m1) true) (h2 : EqR K H n (.ref l2) (.ref m2) true) :
    EqL K H n (.ref a) (.ref b) true :=
  ⟨a, b, _, _, fun _ => true, rfl, rfl, ha, hb, rfl, (by
    intro j x y e1 e2
    match j, e1, e2 with
    | 0, e1, e2 => cases e1; cases e2; exact h1
    | 1, e1, e2 => cases e1; cases e2; exact h2
    | j + 2, e1, e2 => cases e1), (all_true _).symm⟩
end K1

set_option Elab.async false
set_option linter.all false
set_option maxRecDepth 100000
set_option maxHeartbeats 4000000
namespace K1
open PySem L2 Fr1 Up
theorem atI_0 {xs : List V} {v : V} (h : xs[0]? = some v) : atI xs 0 = some v := atI_nat (j := 0) h
theorem atI_1 {xs : List V} {v : V} (h : xs[1]? = some v) : atI xs 1 = some v := atI_nat (j := 1) h
def spLess : Sp := fun vs H Q _ => ∃ (a c : Addr) (a0 a1 c0 c1 : Int) (xa xc : List V), vs = [.ref a, .ref c] ∧ H a = some (.tup xa) ∧ H c = some (.tup xc) ∧ xa[0]? = some (.int a0) ∧ xa[1]? = some (.int a1) ∧ xc[0]? = some (.int c0) ∧ xc[1]? = some (.int c1) ∧
  0 < a1 ∧ a1 < 2 ^ 60 ∧ 0 < c1 ∧ c1 < 2 ^ 60 ∧ Q (.bl (decide (a0 * c1 < c0 * a1))) H
def FOk (fs : List (Int × Int)) : Prop := ∀ f ∈ fs, 1 ≤ f.2 ∧ f.2 < 2 ^ 60 ∧ Int.gcd f.1 f.2 = 1
def WOk (ws : List Int) : Prop := ∀ w ∈ ws, 1 ≤ w ∧ w < 2 ^ 50
theorem FOk.at {fs : List (Int × Int)} (h : FOk fs) {i : Nat} (hi : i < fs.length) : 1 ≤ (fs.getD i fz).2 ∧ (fs.getD i fz).2 < 2 ^ 60 ∧ Int.gcd (fs.getD i fz).1 (fs.getD i fz).2 = 1 := by
  rw [List.getD_eq_getElem?_getD, List.getElem?_eq_getElem hi]
  exact h _ (List.getElem_mem hi)
structure LkP (ns ws : List Int) (fs : List (Int × Int)) : Prop where
  nn : ∀ k, k ≤ ns.length → 0 ≤ PS ns ws fs k
  tot : PS ns ws fs ns.length = 0
  ch : ∀ i, i + 1 < ns.length → fs.getD i fz ≠ fs.getD (i + 1) fz → PS ns ws fs (i + 1) = 0
structure SqAt (c : CA) (H : Hp) (x r : Addr) (rs : List Addr) (fs : List (Int × Int)) : Prop where
  ob : ∃ dx fl, H x = some (.ins c.Squared dx fl) ∧ fl.lookup ("row" : Str) = some (.ref r) ∧ fl.lookup ("shows" : Str) = none
  rl : H r = some (.lst (rs.map V.ref))
  fr : FrAt H rs fs
theorem SqAt.same {c : CA} {H H' : Hp} {x r : Addr} {rs : List Addr} {fs : List (Int × Int)} (h : SqAt c H x r rs fs) (s : Same H H') : SqAt c H' x r rs fs := by
  obtain ⟨⟨dx, fl, e, l⟩, rl, fr⟩ := h
  exact ⟨⟨dx, fl, s _ _ e, l⟩, s _ _ rl, fr.same s⟩
def spSqInit (c : CA) : Sp := fun vs H Q _ => ∃ (x r dx : Addr) (rs : List Addr) (fs : List (Int × Int)), vs = [.ref x, .ref r] ∧ H x = some (.ins c.Squared dx []) ∧ H r = some (.lst (rs.map V.ref)) ∧ FrAt H rs fs ∧ ∀ l H', H l = none → SqAt c H' x l rs fs → Kept H H' x → Q .non H'
def TrAt (H : Hp) (rr : List Addr) (rs : List (Int × Int × Int)) : Prop := rr.length = rs.length ∧ ∀ (i : Nat) r t, rr[i]? = some r → rs[i]? = some t → H r = some (.tup [.int t.1, .int t.2.1, .int t.2.2])
theorem TrAt.same {H H' : Hp} {rr : List Addr} {rs : List (Int × Int × Int)} (h : TrAt H rr rs) (s : Same H H') : TrAt H' rr rs := ⟨h.1, fun i r f e1 e2 => s _ _ (h.2 i r f e1 e2)⟩
theorem TrAt.upd {H : Hp} {rr : List Addr} {rs : List (Int × Int × Int)} (h : TrAt H rr rs) {p : Addr} {xs : List V} (hp : H p = some (.lst xs)) (o : HO) : TrAt (upd H p o) rr rs := ⟨h.1, fun i r f e1 e2 => by
  have z := h.2 i r f e1 e2
  rw [upd_ne (ne_of z hp (by intro w; cases w))]
  exact z⟩
theorem TrAt.snoc {H : Hp} {rr : List Addr} {rs : List (Int × Int × Int)} (h : TrAt H rr rs) {u : Addr} {t : Int × Int × Int} (hu : H u = some (.tup [.int t.1, .int t.2.1, .int t.2.2])) : TrAt H (rr ++ [u]) (rs ++ [t]) := by
  refine ⟨by rw [List.length_append, List.length_append, h.1]; rfl, fun i r f e1 e2 => ?_⟩
  by_cases hi : i < rr.length
  · rw [List.getElem?_append_left hi] at e1
    rw [List.getElem?_append_left (by rw [← h.1]; exact hi)] at e2
    exact h.2 i r f e1 e2
  · have hi' : rr.length ≤ i := Nat.le_of_not_lt hi
    rw [List.getElem?_append_right hi'] at e1
    rw [List.getElem?_append_right (by rw [← h.1]; exact hi'), ← h.1] at e2
    have z : i - rr.length = 0 := by
      have := (List.getElem?_eq_some_iff.mp e1).1
      rw [List.length_singleton] at this
      omega
    rw [z] at e1 e2
    cases e1
    cases e2
    exact hu
theorem TrAt.init {H : Hp} {rr : List Addr} {rs : List (Int × Int × Int)} {u : Addr} {t : Int × Int × Int} (h : TrAt H (rr ++ [u]) (rs ++ [t])) : TrAt H rr rs ∧ H u = some (.tup [.int t.1, .int t.2.1, .int t.2.2]) := by
  have hl : rr.length = rs.length := by have := h.1; rw [List.length_append, List.length_append] at this; simpa using this
  refine ⟨⟨hl, fun i r f e1 e2 => ?_⟩, ?_⟩
  · have i1 := (List.getElem?_eq_some_iff.mp e1).1
    exact h.2 i r f (by rw [List.getElem?_append_left i1]; exact e1) (by rw [List.getElem?_append_left (by omega)]; exact e2)
  · exact h.2 rr.length u t (by rw [List.getElem?_append_right (Nat.le_refl _), Nat.sub_self]; rfl) (by rw [hl, List.getElem?_append_right (Nat.le_refl _), Nat.sub_self]; rfl)
def spJoin : Sp := fun vs H Q _ => ∃ (a b : Addr) (s t : Int × Int × Int), vs = [.ref a, .ref b] ∧ H a = some (.tup [.int s.1, .int s.2.1, .int s.2.2]) ∧ H b = some (.tup [.int t.1, .int t.2.1, .int t.2.2]) ∧ ∀ p, H p = none → Q (.ref p) (upd H p (.tup [.int (s.1 + t.1), .int (s.2.1 + t.2.1), .int (s.2.2 + t.2.2)]))
def spRuns : Sp := fun vs H Q _ => ∃ (a b : Addr) (ns ws : List Int), vs = [.ref a, .ref b] ∧ H a = some (.lst (ns.map V.int)) ∧ H b = some (.lst (ws.map V.int)) ∧ ns.length ≤ 1000 ∧ ws.length = ns.length ∧ WOk ws ∧
  ∀ p rr rs H', Same H H' → H p = none → H' p = some (.lst (rr.map V.ref)) → TrAt H' rr rs → Runs (SA ns ws) (SB ws) rs ns.length → Q (.ref p) H'
theorem SB_bound {ws : List Int} (h : WOk ws) : ∀ k, SB ws k ≤ (k : Int) * 2 ^ 50
  | 0 => by show (0 : Int) ≤ _; omega
  | k + 1 => by
    have ih := SB_bound h k
    have e : SB ws (k + 1) = SB ws k + ws.getD k 0 := rfl
    have : ws.getD k 0 < 2 ^ 50 := by
      by_cases hk : k < ws.length
      · exact (h _ (List.mem_of_getElem? (gd_some hk))).2
      · rw [gd_out (by omega)]; decide
    rw [e, Int.natCast_add, Int.add_mul]
    omega
theorem WOk.one {ws : List Int} (h : WOk ws) : ∀ w ∈ ws, 1 ≤ w := fun w hw => (h w hw).1
theorem Blk.small {ws : List Int} {A : Nat → Int} {lo hi : Nat} {S W : Int} (h : WOk ws) (b : Blk A (SB ws) lo hi S W) (hh : hi ≤ 1000) : 0 < W ∧ W < 2 ^ 60 := by
  refine ⟨b.pos, ?_⟩
  have h1 := SB_bound h hi
  have h2 := SB_mono h.one 0 lo (Nat.zero_le _)
  have h3 : SB ws 0 = 0 := rfl
  have := b.w
  have h4 : (hi : Int) * 2 ^ 50 ≤ 1000 * 2 ^ 50 := Int.mul_le_mul_of_nonneg_right (by omega) (by decide)
  have h5 : (1000 : Int) * 2 ^ 50 < 2 ^ 60 := by decide
  omega
/-! ### the law's reading -/
def TT (ns ws : List Int) (fs : List (Int × Int)) (i : Nat) : Int × Int := if i = 0 then (0, 1) else lowP (PS ns ws fs i) (fs.getD (i - 1) fz).2
structure SqS (ns ws : List Int) (fs : List (Int × Int)) (i : Nat) : Prop where
  ris : ∀ j, j + 1 < i → (fs.getD j fz).1 * (fs.getD (j + 1) fz).2 ≤ (fs.getD (j + 1) fz).1 * (fs.getD j fz).2
  nn : ∀ k, k ≤ i → 0 ≤ PS ns ws fs k
  ch : ∀ j, j + 1 < i → fs.getD j fz ≠ fs.getD (j + 1) fz → PS ns ws fs (j + 1) = 0
theorem SqS.zero (ns ws : List Int) (fs : List (Int × Int)) : SqS ns ws fs 0 := ⟨fun j h => absurd h (Nat.not_lt_zero _), fun k hk => by rw [Nat.le_zero.mp hk]; exact Int.le_refl _, fun j h => absurd h (Nat.not_lt_zero _)⟩
def PrAt (H : Hp) (os : List Addr) (prs : List (List Int × List Int)) : Prop := os.length = prs.length ∧ ∀ (i : Nat) o p, os[i]? = some o → prs[i]? = some p → ∃ a b, H o = some (.tup [.ref a, .ref b]) ∧ H a = some (.lst (p.1.map V.int)) ∧ H b = some (.lst (p.2.map V.int))
theorem PrAt.same {H H' : Hp} {os : List Addr} {prs : List (List Int × List Int)} (h : PrAt H os prs) (s : Same H H') : PrAt H' os prs := ⟨h.1, fun i o p e1 e2 => by
  obtain ⟨a, b, h1, h2, h3⟩ := h.2 i o p e1 e2
  exact ⟨a, b, s _ _ h1, s _ _ h2, s _ _ h3⟩⟩
end K1
namespace K1
open PySem L2 Fr1 Up
theorem rep_ref (n : Nat) (f : Addr) : (List.replicate n [V.ref f]).flatten = (List.replicate n f).map V.ref := by
  induction n with
  | zero => rfl
  | succ n ih => rw [List.replicate_succ, List.replicate_succ, List.flatten_cons, ih]; rfl
theorem FrAt.reps {H : Hp} {ts : List Addr} {fs : List (Int × Int)} {n : Nat} {f p : Addr} {g : Int × Int} {xs : List V} {o : HO} (h : FrAt H ts fs) (hp : H p = some (.lst xs)) (hf : H f = some (.tup [.int g.1, .int g.2])) : FrAt (upd H p o) (ts ++ List.replicate n f) (fs ++ List.replicate n g) := by
  have k : ∀ u g', H u = some (.tup [.int g'.1, .int g'.2]) → (upd H p o) u = some (.tup [.int (g' : Int × Int).1, .int g'.2]) := fun u g' z => by rw [upd_ne (ne_of z hp (by intro w; cases w))]; exact z
  refine ⟨by rw [List.length_append, List.length_append, h.1, List.length_replicate, List.length_replicate], fun i r t e1 e2 => ?_⟩
  by_cases hi : i < ts.length
  · rw [List.getElem?_append_left hi] at e1
    rw [List.getElem?_append_left (by rw [← h.1]; exact hi)] at e2
    exact k r t (h.2 i r t e1 e2)
  · rw [List.getElem?_append_right (by omega), List.getElem?_replicate] at e1
    rw [List.getElem?_append_right (by rw [← h.1]; omega), List.getElem?_replicate] at e2
    split at e1
    · cases e1
      split at e2
      · cases e2
        exact k _ _ hf
      · cases e2
    · cases e1
theorem runs_take {A B : Nat → Int} {rs : List (Int × Int × Int)} {hi : Nat} (h : Runs A B rs hi) : (∀ i t, rs[i]? = some t → ∃ lo, (rowOf (rs.take i)).length + t.2.2.toNat ≤ hi ∧ 0 ≤ t.2.2 ∧ t.2.2 ≤ (hi : Int) ∧ ∃ hi', hi' ≤ hi ∧ Blk A B lo hi' t.1 t.2.1) ∧ (rowOf rs).length = hi := by
  induction h with
  | nil => exact ⟨fun i t e => by simp at e, rfl⟩
  | @snoc rs lo hi S W h b l ih =>
    have hlt := b.lt
    obtain ⟨i1, i2⟩ := ih
    refine ⟨fun i t e => ?_, ?_⟩
    · by_cases hi' : i < rs.length
      · rw [List.getElem?_append_left hi'] at e
        obtain ⟨lo', g1, g2, g3, hi2, g4, g5⟩ := i1 i t e
        rw [List.take_append_of_le_length (by omega)]
        exact ⟨lo', by omega, g2, by omega, hi2, by omega, g5⟩
      · rw [List.getElem?_append_right (by omega)] at e
        have z : i - rs.length = 0 := by
          have := (List.getElem?_eq_some_iff.mp e).1
          rw [List.length_singleton] at this
          omega
        rw [z] at e
        cases e
        have ei : i = rs.length := by omega
        subst ei
        rw [List.take_left', i2]
        · exact ⟨lo, by show lo + ((hi : Int) - (lo : Int)).toNat ≤ hi; omega, by show 0 ≤ (hi : Int) - (lo : Int); omega, by show (hi : Int) - (lo : Int) ≤ hi; omega, hi, Nat.le_refl _, b⟩
        · rfl
    · rw [rowOf_snoc, List.length_append, i2, List.length_replicate]
      show lo + ((hi : Int) - (lo : Int)).toNat = hi
      omega
theorem runs_bound {ns ws : List Int} {rs : List (Int × Int × Int)} {m : Nat} (h : Runs (SA ns ws) (SB ws) rs m) : (∀ i t, rs[i]? = some t → (rowOf (rs.take i)).length + t.2.2.toNat ≤ m) ∧ (WOk ws → m ≤ 1000 → ∀ t ∈ rs, 0 < t.2.1 ∧ t.2.1 < 2 ^ 60 ∧ 0 ≤ t.2.2 ∧ t.2.2 ≤ 1000) := by
  obtain ⟨h1, _⟩ := runs_take h
  refine ⟨fun i t e => ?_, fun hw hm t ht => ?_⟩
  · obtain ⟨lo, g, _⟩ := h1 i t e
    exact g
  · obtain ⟨i, hi, e⟩ := List.mem_iff_getElem.mp ht
    obtain ⟨lo, _, g2, g3, hi', g4, g5⟩ := h1 i t (by rw [List.getElem?_eq_getElem hi, e])
    obtain ⟨w1, w2⟩ := Blk.small hw g5 (by omega)
    exact ⟨w1, w2, g2, by omega⟩
end K1
namespace K1
open PySem L2 Fr1 Up
theorem SqS.step {ns ws : List Int} {fs : List (Int × Int)} {i : Nat} (h : SqS ns ws fs i) (h1 : 0 < i → (fs.getD (i - 1) fz).1 * (fs.getD i fz).2 ≤ (fs.getD i fz).1 * (fs.getD (i - 1) fz).2) (h2 : i = 0 ∨ fs.getD (i - 1) fz = fs.getD i fz ∨ PS ns ws fs i = 0) (h3 : 0 ≤ PS ns ws fs (i + 1)) : SqS ns ws fs (i + 1) := by
  refine ⟨fun j hj => ?_, fun k hk => ?_, fun j hj hd => ?_⟩
  · by_cases e : j + 1 = i
    · subst e
      have := h1 (by omega)
      rw [Nat.add_sub_cancel] at this
      exact this
    · exact h.ris j (by omega)
  · by_cases e : k = i + 1
    · rw [e]; exact h3
    · exact h.nn k (by omega)
  · by_cases e : j + 1 = i
    · subst e
      rw [Nat.add_sub_cancel] at h2
      rcases h2 with z | z | z
      · omega
      · exact absurd z hd
      · exact z
    · exact h.ch j (by omega) hd
end K1

set_option Elab.async false
set_option linter.all false
set_option maxRecDepth 100000
set_option maxHeartbeats 4000000
namespace K1
open PySem L2 Fr1 Up
/-! ### heaps -/
def HpAt (H : Hp) (hs : List Addr) (n : Nat) (f : PF) : Prop := hs.length = n ∧ ∀ i, i < n → ∃ r, hs[i]? = some r ∧ H r = some (.tup [.int (f i).1, .int (f i).2])
theorem HpAt.same {H H' : Hp} {hs : List Addr} {n : Nat} {f : PF} (h : HpAt H hs n f) (s : Same H H') : HpAt H' hs n f := ⟨h.1, fun i hi => by
  obtain ⟨r, e, z⟩ := h.2 i hi
  exact ⟨r, e, s _ _ z⟩⟩
theorem HpAt.kept {H H' : Hp} {hs : List Addr} {n : Nat} {f : PF} {p : Addr} {xs : List V} (h : HpAt H hs n f) (hp : H p = some (.lst xs)) (k : Kept H H' p) : HpAt H' hs n f := ⟨h.1, fun i hi => by
  obtain ⟨r, e, z⟩ := h.2 i hi
  exact ⟨r, e, k _ _ z (ne_of z hp (by intro w; cases w))⟩⟩
theorem kept_upd {H : Hp} {p : Addr} {o : HO} : Kept H (upd H p o) p := fun b u e hb => by rw [upd_ne hb]; exact e
theorem Kept.trans {H H1 H2 : Hp} {p : Addr} (a : Kept H H1 p) (b : Kept H1 H2 p) : Kept H H2 p := fun c o e hc => b c o (a c o e hc) hc
theorem Kept.ofSame {H H1 : Hp} {p : Addr} (s : Same H H1) : Kept H H1 p := fun c o e _ => s c o e
theorem HpAt.set {H : Hp} {hs : List Addr} {n : Nat} {f : PF} {i : Nat} {r : Addr} {y : Int × Int} (h : HpAt H hs n f) (hi : i < n) (hr : H r = some (.tup [.int y.1, .int y.2])) : HpAt H (hs.set i r) n (fset f i y) := by
  refine ⟨by rw [List.length_set]; exact h.1, fun j hj => ?_⟩
  by_cases e : j = i
  · subst e
    exact ⟨r, by rw [List.getElem?_set_self (by rw [h.1]; exact hi)], by rw [fset_same]; exact hr⟩
  · obtain ⟨u, e1, z⟩ := h.2 j hj
    exact ⟨u, by rw [List.getElem?_set_ne (Ne.symm e)]; exact e1, by rw [fset_ne e]; exact z⟩
theorem HpAt.snoc {H : Hp} {hs : List Addr} {n : Nat} {f : PF} {r : Addr} {y : Int × Int} (h : HpAt H hs n f) (hr : H r = some (.tup [.int y.1, .int y.2])) : HpAt H (hs ++ [r]) (n + 1) (fset f n y) := by
  refine ⟨by rw [List.length_append, h.1]; rfl, fun j hj => ?_⟩
  by_cases e : j = n
  · subst e
    exact ⟨r, by rw [List.getElem?_append_right (by rw [h.1]; exact Nat.le_refl _), h.1, Nat.sub_self]; rfl, by rw [fset_same]; exact hr⟩
  · obtain ⟨u, e1, z⟩ := h.2 j (by omega)
    exact ⟨u, by rw [List.getElem?_append_left (by rw [h.1]; omega)]; exact e1, by rw [fset_ne e]; exact z⟩
theorem HpAt.init {H : Hp} {hs : List Addr} {n : Nat} {f : PF} (h : HpAt H hs (n + 1) f) : ∃ hs' u, hs = hs' ++ [u] ∧ HpAt H hs' n f ∧ H u = some (.tup [.int (f n).1, .int (f n).2]) := by
  rcases List.eq_nil_or_concat hs with e | ⟨hs', u, e⟩
  · have := h.1
    rw [e] at this
    simp at this
  rw [List.concat_eq_append] at e
  subst e
  have hl : hs'.length = n := by have := h.1; rw [List.length_append] at this; simpa using this
  refine ⟨hs', u, rfl, ⟨hl, fun i hi => ?_⟩, ?_⟩
  · obtain ⟨r, e1, z⟩ := h.2 i (by omega)
    rw [List.getElem?_append_left (by omega)] at e1
    exact ⟨r, e1, z⟩
  · obtain ⟨r, e1, z⟩ := h.2 n (by omega)
    rw [List.getElem?_append_right (by omega), hl, Nat.sub_self] at e1
    cases e1
    exact z
theorem ixN_nat {n j : Nat} (h : j < n) : ixN n (j : Int) = some j := by
  unfold ixN
  rw [if_pos (by omega), if_pos (by omega)]
  simp
theorem set_map {hs : List Addr} {i : Nat} {r : Addr} : (hs.map V.ref).set i (.ref r) = (hs.set i r).map V.ref := by rw [List.map_set]
theorem par_int {p : Nat} (h : 0 < p) : ((p : Int) - 1) / 2 = ((par p : Nat) : Int) := by unfold par; omega
def spPut : Sp := fun vs H Q _ => ∃ (h : Addr) (hs : List Addr) (n : Nat) (f : PF) (v s : Int), vs = [.ref h, .int v, .int s] ∧ H h = some (.lst (hs.map V.ref)) ∧ HpAt H hs n f ∧ n ≤ 900 ∧ Hok f n ∧ Pos' f n ∧ 0 < s ∧
  ∀ hs' f' H', Kept H H' h → H' h = some (.lst (hs'.map V.ref)) → HpAt H' hs' (n + 1) f' → Hok f' (n + 1) → Pos' f' (n + 1) → (∀ g : Int × Int → Int, sm (n + 1) (fun j => g (f' j)) = sm n (fun j => g (f j)) + g (v, s)) → Q .non H'
def spGrB : Sp := fun vs H Q _ => ∃ (h : Addr) (hs : List Addr) (n : Nat) (f : PF) (p : Nat), vs = [.ref h, .int p] ∧ H h = some (.lst (hs.map V.ref)) ∧ HpAt H hs n f ∧ ∀ b : Nat, GrB f n p b → Q (.int b) H
def spTake : Sp := fun vs H Q _ => ∃ (h : Addr) (hs : List Addr) (n : Nat) (f : PF), vs = [.ref h] ∧ H h = some (.lst (hs.map V.ref)) ∧ HpAt H hs (n + 1) f ∧ Hok f (n + 1) ∧ Pos' f (n + 1) ∧
  ∀ hs' f' H', Kept H H' h → H' h = some (.lst (hs'.map V.ref)) → HpAt H' hs' n f' → Hok f' n → Pos' f' n → (∀ g : Int × Int → Int, sm n (fun j => g (f' j)) = sm (n + 1) (fun j => g (f j)) - g (f 0)) → Q .non H'
def spShares : Sp := fun vs H Q _ => ∃ (h : Addr) (hs : List Addr) (n : Nat) (f : PF) (a : Int), vs = [.ref h, .int a] ∧ H h = some (.lst (hs.map V.ref)) ∧ HpAt H hs n f ∧ 0 < n ∧ Hok f n ∧ Pos' f n ∧ 0 ≤ a ∧ a < totl f n ∧
  ∀ hs' n' f' H', Kept H H' h → H' h = some (.lst (hs'.map V.ref)) → HpAt H' hs' n' f' → 0 < n' → n' ≤ n → Hok f' n' → Pos' f' n' → (∀ x, mass f' n' x = mx0 (mass f n x - a)) → totl f' n' = totl f n - a → Q .non H'
def spEnds : Sp := fun vs H Q _ => ∃ (a b : Addr) (ns ws : List Int), vs = [.ref a, .ref b] ∧ H a = some (.lst (ns.map V.int)) ∧ H b = some (.lst (ws.map V.int)) ∧ ns.length ≤ 800 ∧ ws.length = ns.length ∧ WOk ws ∧ ∀ p es H', Same H H' → H p = none → H' p = some (.lst (es.map V.int)) → Ends ns ws es → Q (.ref p) H'
def spGP : Sp := fun vs H Q _ => ∃ n x w : Int, vs = [.int n, .int x, .int w] ∧ Q (.int (ee x n w)) H
def spLP : Sp := fun vs H Q _ => ∃ n x w : Int, vs = [.int n, .int x, .int w] ∧ Q (.int (if x < n then w else -w)) H
def spSums (g : List Int → List Int → List Int → Nat → Int) : Sp := fun vs H Q _ => ∃ (a r b : Addr) (ns row ws : List Int), vs = [.ref a, .ref r, .ref b] ∧ H a = some (.lst (ns.map V.int)) ∧ H r = some (.lst (row.map V.int)) ∧ H b = some (.lst (ws.map V.int)) ∧ ns.length ≤ 1000 ∧ row.length = ns.length ∧ ws.length = ns.length ∧
  ∀ p H', Same H H' → H p = none → H' p = some (.lst (((List.range ns.length).map (g ns ws row)).map V.int)) → Q (.ref p) H'
/-! ### Summed -/
def SuP (ns ws row pulls : List Int) : Prop := row.length = ns.length ∧ pulls.length = ns.length ∧ SmC ns.length (fun i => ns.getD i 0) (fun i => ws.getD i 0) (fun i => row.getD i 0) (fun i => pulls.getD i 0)
structure SuAt (c : CA) (H : Hp) (x r p : Addr) (row pulls : List Int) : Prop where
  ob : ∃ dx fs, H x = some (.ins c.Summed dx fs) ∧ fs.lookup ("row" : Str) = some (.ref r) ∧ fs.lookup ("pulls" : Str) = some (.ref p) ∧ fs.lookup ("shows" : Str) = none
  rl : H r = some (.lst (row.map V.int))
  pl : H p = some (.lst (pulls.map V.int))
theorem SuAt.same {c : CA} {H H' : Hp} {x r p : Addr} {row pulls : List Int} (z : SuAt c H x r p row pulls) (s : Same H H') : SuAt c H' x r p row pulls := by
  obtain ⟨⟨dx, fs, e, k⟩, ll, hl⟩ := z
  exact ⟨⟨dx, fs, s _ _ e, k⟩, s _ _ ll, s _ _ hl⟩
def spSuInit (c : CA) : Sp := fun vs H Q _ => ∃ (x r p dx : Addr) (row pulls : List Int), vs = [.ref x, .ref r, .ref p] ∧ H x = some (.ins c.Summed dx []) ∧ H r = some (.lst (row.map V.int)) ∧ H p = some (.lst (pulls.map V.int)) ∧
  ∀ r' p' H', H r' = none → H p' = none → r' ≠ p' → SuAt c H' x r' p' row pulls → Kept H H' x → Q .non H'
def spSumP (c : CA) : Sp := fun vs H Q _ => ∃ (a b : Addr) (ns ws : List Int), vs = [.ref a, .ref b] ∧ H a = some (.lst (ns.map V.int)) ∧ H b = some (.lst (ws.map V.int)) ∧ ns.length ≤ 800 ∧ ws.length = ns.length ∧ WOk ws ∧
  ∀ x r p row pulls H', SuAt c H' x r p row pulls → Same H H' → H x = none → H r = none → H p = none → r ≠ p → SuP ns ws row pulls → Q (.ref x) H'
theorem WOk.at {ws : List Int} (h : WOk ws) {i : Nat} (hi : i < ws.length) : 1 ≤ ws.getD i 0 ∧ ws.getD i 0 < 2 ^ 50 := h _ (List.mem_of_getElem? (gd_some hi))
theorem sum_sm (xs : List Int) : xs.sum = sm xs.length (fun i => xs.getD i 0) := by
  have : ∀ k, k ≤ xs.length → (xs.take k).sum = sm k (fun i => xs.getD i 0) := fun k => by
    induction k with
    | zero => intro _; rfl
    | succ k ih => intro hk; rw [take_snoc (gd_some (ns := xs) (i := k) (by omega)), sum_snoc, ih (by omega)]; rfl
  have z := this xs.length (Nat.le_refl _)
  rw [List.take_length] at z
  exact z
theorem dif_ab (n r : Int) : dif n r = ab n r := rfl
theorem cost_sm {ns ws row : List Int} (h1 : row.length = ns.length) (h2 : ws.length = ns.length) : (wl ws (dl ns row)).sum = sm ns.length (fun i => ws.getD i 0 * ab (ns.getD i 0) (row.getD i 0)) := by
  have hd : (dl ns row).length = ns.length := dl_length h1.symm
  have hw : (wl ws (dl ns row)).length = ns.length := by rw [wl_length (by omega)]; exact h2
  rw [sum_sm, hw]
  refine sm_congr fun i hi => ?_
  rw [gd_of (wl_at (gd_some (ns := ws) (i := i) (by omega)) (dl_at (gd_some hi) (gd_some (ns := row) (i := i) (by omega)))), dif_ab]
end K1
namespace K1
open PySem L2 Fr1 Up
theorem gd_range {n i : Nat} {g : Nat → Int} (h : i < n) : ((List.range n).map g).getD i 0 = g i := by
  rw [List.getD_eq_getElem?_getD, List.getElem?_map, List.getElem?_range h]; rfl
theorem _root_.Up.SmC.pulls {n : Nat} {a w r g : Nat → Int} (h : SmC n a w r g) : SmC n a w r (fun i => ((List.range n).map g).getD i 0) := by
  have e : ∀ k, k ≤ n → sm k (fun i => ((List.range n).map g).getD i 0) = sm k g := fun k hk => sm_congr fun i hi => gd_range (by omega)
  refine ⟨h.ris, fun i hi => ?_, fun k hk => ?_, ?_, ?_⟩
  · have := h.bd i hi
    rw [gd_range hi]
    exact this
  · rw [e k hk]; exact h.nn k hk
  · rw [e n (Nat.le_refl _)]; exact h.all
  · rw [← h.cost]
    exact sm_congr fun i hi => by rw [gd_range hi]
end K1
namespace K1
open PySem L2 Fr1 Up
end K1

set_option Elab.async false
set_option linter.all false
set_option maxRecDepth 100000
set_option maxHeartbeats 4000000
namespace K1
open PySem L2 Fr1 Up
abbrev bits (n : Int) : Nat := Builtin.Int.intBits n
/-! ### the same, for great parts below -/
def BotOk (b : Int) : Prop := b < 2 ^ 128 ∨ bits b ≤ 9000
theorem BotOk.bits {b : Int} (hb : 0 < b) (h : BotOk b) : bits b ≤ 9000 := by
  rcases h with h | h
  · have : K1.bits b ≤ 128 := intBits_le_iff.mpr (by omega)
    omega
  · exact h
theorem bits_le {a b : Int} {k : Nat} (h0 : 0 ≤ a) (h : a ≤ b) (hb : bits b ≤ k) : bits a ≤ k := intBits_le_of_natAbs (by omega) hb
theorem gcdL {x t b : Int} (hb : 0 < b) (h : bits b ≤ 9000) : CDivL x (Int.gcd t b : Int) := ⟨gcd_pos hb, bits_le (Int.le_of_lt (gcd_pos hb)) (gcd_le hb) h⟩
def spLowW : Sp := fun vs H Q _ => ∃ t b : Int, vs = [.int t, .int b] ∧ 0 < b ∧ (b < 2 ^ 128 ∨ bits b ≤ 9000) ∧ ∀ p, H p = none → Q (.ref p) (upd H p (.tup [.int (lowP t b).1, .int (lowP t b).2]))
def spPlusW : Sp := fun vs H Q _ => ∃ (a c : Addr) (a0 a1 c0 c1 : Int), vs = [.ref a, .ref c] ∧ H a = some (.tup [.int a0, .int a1]) ∧ H c = some (.tup [.int c0, .int c1]) ∧ 0 < a1 ∧ bits a1 ≤ 9000 ∧ 0 < c1 ∧ bits c1 ≤ 9000 ∧ bits a0 ≤ 4000000 ∧ bits c0 ≤ 4000000 ∧ Int.gcd a0 a1 = 1 ∧ Int.gcd c0 c1 = 1 ∧
  ∀ p, H p = none → Q (.ref p) (upd H p (.tup [.int (lowP (a0 * c1 + c0 * a1) (a1 * c1)).1, .int (lowP (a0 * c1 + c0 * a1) (a1 * c1)).2]))
def TurnW (n w p r : Int) : Prop := 1 ≤ r ∧ r < 2 ^ 40 ∧ 1 ≤ w ∧ w ≤ 1000000000 ∧ bits n ≤ 1100000 ∧ bits p ≤ 1100000
theorem TurnW.mul {n w p r : Int} (h : TurnW n w p r) : IntMulOk (w * (n * r - p)) (n * r - p) ∧ bits (w * (n * r - p) * (n * r - p)) ≤ 3000000 ∧ bits r ≤ 40 := by
  obtain ⟨r1, r2, w1, w2, hn, hp⟩ := h
  have br : bits r ≤ 40 := intBits_le_iff.mpr (by omega)
  have bw : bits w ≤ 30 := intBits_le_iff.mpr (by omega)
  have b1 := intBits_mul_le hn br
  have b2 := intBits_sub_le b1 hp
  have e : max (1100000 + 40) 1100000 + 1 = 1100041 := by decide
  rw [e] at b2
  have b3 := intBits_mul_le bw b2
  have b4 := intBits_mul_le b3 b2
  exact ⟨IntMulOk.of_le b3 b2 (by decide), Nat.le_trans b4 (by decide), br⟩
def spWSqW : Sp := fun vs H Q _ => ∃ (a : Addr) (n w p r : Int), vs = [.int n, .ref a, .int w] ∧ H a = some (.tup [.int p, .int r]) ∧ TurnW n w p r ∧
  ∀ t, H t = none → Q (.ref t) (upd H t (.tup [.int (lowP (w * (n * r - p) * (n * r - p)) (r * r)).1, .int (lowP (w * (n * r - p) * (n * r - p)) (r * r)).2]))
def spSquaresW : Sp := fun vs H Q _ => ∃ (a b c : Addr) (ns ws : List Int) (rs : List Addr) (fs : List (Int × Int)), vs = [.ref a, .ref b, .ref c] ∧ H a = some (.lst (ns.map V.int)) ∧ H b = some (.lst (rs.map V.ref)) ∧ H c = some (.lst (ws.map V.int)) ∧ FrAt H rs fs ∧ ns.length ≤ 100 ∧
  fs.length = ns.length ∧ ws.length = ns.length ∧ (∀ f ∈ fs, 1 ≤ f.2 ∧ Int.gcd f.1 f.2 = 1) ∧ (∀ z ∈ z3 ns ws fs, TurnW z.1 z.2.1 z.2.2.1 z.2.2.2) ∧ (∀ w ∈ ws, 1 ≤ w) ∧
  ∀ p H', Same H H' → H p = none → H' p = some (.tup [.int (accL (z3 ns ws fs)).1, .int (accL (z3 ns ws fs)).2]) → Q (.ref p) H'
structure AccOk (T : Int × Int) (k : Nat) : Prop where
  pos : 0 < T.2
  gcd : Int.gcd T.1 T.2 = 1
  b2 : bits T.2 ≤ 80 * k + 1
  b1 : bits T.1 ≤ 3000000 + 100 * k
theorem AccOk.zero : AccOk (0, 1) 0 := ⟨by decide, by decide, by decide, by decide⟩
theorem AccOk.acc {T : Int × Int} {k : Nat} (h : AccOk T k) {n w p r : Int} (t : TurnW n w p r) : AccOk (acc T n w p r) (k + 1) := by
  obtain ⟨_, y, br⟩ := t.mul
  have r0 : 0 < r := by have := t.1; omega
  have rr : 0 < r * r := Int.mul_pos r0 r0
  have hb : 0 < T.2 * (r * r) := Int.mul_pos h.pos rr
  have brr := intBits_mul_le br br
  have c2 := intBits_mul_le h.b2 brr
  have c1 := intBits_add_le (intBits_mul_le h.b1 brr) (intBits_mul_le y h.b2)
  refine ⟨lowP_pos hb, lowP_gcd hb, ?_, ?_⟩
  · refine bits_le (Int.le_of_lt (lowP_pos hb)) (lowP_le hb) (Nat.le_trans c2 ?_)
    omega
  · refine intBits_le_of_natAbs (lowP_abs hb) (Nat.le_trans c1 ?_)
    omega
theorem accL_W {ns ws : List Int} {fs : List (Int × Int)} (h1 : ws.length = ns.length) (h2 : fs.length = ns.length) (hz : ∀ z ∈ z3 ns ws fs, TurnW z.1 z.2.1 z.2.2.1 z.2.2.2) : ∀ k, k ≤ ns.length → AccOk (accL ((z3 ns ws fs).take k)) k
  | 0, _ => AccOk.zero
  | k + 1, hk => by
    have ih := accL_W h1 h2 hz k (by omega)
    have z := z3_at (gd_some (ns := ns) (i := k) (by omega)) (gd_some (ns := ws) (i := k) (by omega)) (fd_some (fs := fs) (i := k) (by omega))
    rw [take_snoc z, accL_snoc]
    exact ih.acc (hz _ (List.mem_of_getElem? z))
theorem accL_Wall {ns ws : List Int} {fs : List (Int × Int)} (h1 : ws.length = ns.length) (h2 : fs.length = ns.length) (hz : ∀ z ∈ z3 ns ws fs, TurnW z.1 z.2.1 z.2.2.1 z.2.2.2) : AccOk (accL (z3 ns ws fs)) ns.length := by
  have := accL_W h1 h2 hz ns.length (Nat.le_refl _)
  rw [← z3_length (ns := ns) (ws := ws) (fs := fs) (by omega) (by omega), take_all, z3_length (by omega) (by omega)] at this
  exact this
def spSquaredW (c : CA) : Sp := fun vs H Q _ => ∃ (a b : Addr) (ns ws : List Int), vs = [.ref a, .ref b] ∧ H a = some (.lst (ns.map V.int)) ∧ H b = some (.lst (ws.map V.int)) ∧ ns.length ≤ 1000 ∧ ws.length = ns.length ∧ WOk ws ∧
  ∀ x r rs tr H', SqAt c H' x r rs (rowOf tr) → Same H H' → H x = none → H r = none → Runs (SA ns ws) (SB ws) tr ns.length → FOk (rowOf tr) → Q (.ref x) H'
theorem SA_bits {ns ws : List Int} {B : Nat} (hn : ∀ n ∈ ns, bits n ≤ B) (hw : ∀ w ∈ ws, bits w ≤ 50) (hB : 0 < B) : ∀ k, bits (SA ns ws k) ≤ B + 50 + k
  | 0 => by
    have : bits (SA ns ws 0) = 0 := rfl
    omega
  | k + 1 => by
    have ih := SA_bits hn hw hB k
    have e : SA ns ws (k + 1) = SA ns ws k + ns.getD k 0 * ws.getD k 0 := rfl
    have a1 : bits (ns.getD k 0) ≤ B := by
      by_cases h : k < ns.length
      · exact hn _ (List.mem_of_getElem? (gd_some h))
      · rw [gd_out (by omega)]
        have : bits 0 = 0 := rfl
        omega
    have a2 : bits (ws.getD k 0) ≤ 50 := by
      by_cases h : k < ws.length
      · exact hw _ (List.mem_of_getElem? (gd_some h))
      · rw [gd_out (by omega)]
        have : bits 0 = 0 := rfl
        omega
    rw [e]
    refine Nat.le_trans (intBits_add_le ih (intBits_mul_le a1 a2)) ?_
    rw [Nat.max_def]
    split <;> omega
theorem mem_rowOf {rs : List (Int × Int × Int)} {f : Int × Int} (h : f ∈ rowOf rs) : ∃ (i : Nat) (t : Int × Int × Int), rs[i]? = some t ∧ f = lowP t.1 t.2.1 := by
  unfold rowOf at h
  obtain ⟨l, hl, hf⟩ := List.mem_flatten.mp h
  obtain ⟨t, ht, rfl⟩ := List.mem_map.mp hl
  obtain ⟨i, hi, e⟩ := List.mem_iff_getElem.mp ht
  exact ⟨i, t, by rw [List.getElem?_eq_getElem hi, e], List.eq_of_mem_replicate hf⟩
theorem SB_le {ws : List Int} {M : Int} (h0 : 0 ≤ M) (h : ∀ w ∈ ws, w ≤ M) : ∀ k, SB ws k ≤ (k : Int) * M
  | 0 => by show (0 : Int) ≤ ((0 : Nat) : Int) * M; simp
  | k + 1 => by
    have ih := SB_le h0 h k
    have e : SB ws (k + 1) = SB ws k + ws.getD k 0 := rfl
    have : ws.getD k 0 ≤ M := by
      by_cases hk : k < ws.length
      · exact h _ (List.mem_of_getElem? (gd_some hk))
      · rw [gd_out (by omega)]; exact h0
    have e2 : (((k + 1 : Nat) : Int)) * M = (k : Int) * M + M := by rw [show ((k + 1 : Nat) : Int) = (k : Int) + 1 by omega, Int.add_mul, Int.one_mul]
    rw [e, e2]
    omega
theorem runs_fb {ns ws : List Int} {tr : List (Int × Int × Int)} {m : Nat} {B : Nat} (h : Runs (SA ns ws) (SB ws) tr m) (hn : ∀ n ∈ ns, bits n ≤ B) (hB : 0 < B) (hw : ∀ w ∈ ws, 1 ≤ w ∧ w ≤ 1000000000) (hm : m ≤ 100) : ∀ f ∈ rowOf tr, f.2 < 2 ^ 40 ∧ bits f.1 ≤ B + 151 := fun f hf => by
  obtain ⟨i, t, e, rfl⟩ := mem_rowOf hf
  obtain ⟨lo, _, _, _, hi, g4, g5⟩ := (runs_take h).1 i t e
  have w1 := lowP_le (t := t.1) g5.pos
  have mB := SB_mono (ws := ws) (fun w hw' => (hw w hw').1)
  have z0 : 0 ≤ SB ws lo := mB 0 lo (Nat.zero_le _)
  have z1 := mB hi m g4
  have z2 := SB_le (M := 1000000000) (by decide) (fun w hw' => (hw w hw').2) m
  have ew := g5.w
  have bw : ∀ w ∈ ws, bits w ≤ 50 := fun w hw' => intBits_le_iff.mpr (by have := hw w hw'; omega)
  refine ⟨by omega, ?_⟩
  have es := g5.s
  have s1 := SA_bits hn bw hB hi
  have s2 := SA_bits hn bw hB lo
  have lt := g5.lt
  have s3 := intBits_sub_le s1 s2
  rw [← es] at s3
  refine intBits_le_of_natAbs (lowP_abs g5.pos) (Nat.le_trans s3 ?_)
  omega
theorem _root_.Up.SqP.fp {ns ws : List Int} {fs : List (Int × Int)} (h : FOk fs) : FP fs := fun f hf => ⟨by have := (h f hf).1; omega, (h f hf).2.2⟩
def spCosts : Sp := fun vs H Q _ => ∃ (a b : Addr) (ns ws : List Int), vs = [.ref a, .ref b] ∧ H a = some (.lst (ns.map V.int)) ∧ H b = some (.lst (ws.map V.int)) ∧ ns.length ≤ 63 ∧ ws.length = ns.length ∧ (∀ n ∈ ns, bits n ≤ 1090000) ∧ (∀ w ∈ ws, 1 ≤ w ∧ w ≤ 1000000000) ∧
  ∀ p t g s f H', Same H H' → H p = none → H' p = some (.lst [.int g, .int s, .ref t]) → H' t = some (.tup [.int f.1, .int f.2]) → Cst ns ws g s f → bits f.2 ≤ 9000 → Q (.ref p) H'
theorem EqL.tups {K : PySem.W.Frag} {H : Hp} {a b : Addr} {rs ts : List Addr} {fs gs : List (Int × Int)} (ha : SqL K H a (rs.map V.ref)) (hb : SqL K H b (ts.map V.ref)) (h1 : FrAt H rs fs) (h2 : FrAt H ts gs) (e : fs = gs) : EqL K H 1 (.ref a) (.ref b) true := by
  subst e
  refine ⟨a, b, _, _, fun _ => true, rfl, rfl, ha, hb, by rw [List.length_map, List.length_map, h1.1, h2.1], fun j x y e1 e2 => ?_, (all_true _).symm⟩
  obtain ⟨r, hr, rfl⟩ := refs_at e1
  obtain ⟨t, ht, rfl⟩ := refs_at e2
  have hj : j < fs.length := by rw [← h1.1]; exact (List.getElem?_eq_some_iff.mp hr).1
  obtain ⟨f, hf⟩ := get_of hj
  by_cases e : r = t
  · subst e; exact .same r
  · have z := EqR.tup (K := K) (n := 0) (fun _ => true) e (SqT.of (h1.2 j r f hr hf)) (SqT.of (h2.2 j t f ht hf)) rfl fun i x y e1 e2 => by
      rw [e1] at e2
      cases e2
      match i, e1 with
      | 0, e1 => cases e1; exact EqR.of_same (.inl rfl)
      | 1, e1 => cases e1; exact EqR.of_same (.inl rfl)
      | i + 2, e1 => cases e1
    rw [all_true] at z
    exact z
theorem EqR.pair {K : PySem.W.Frag} {H : Hp} {t u : Addr} {x y : Int} (h1 : SqT K H t [.int x, .int y]) (h2 : SqT K H u [.int x, .int y]) : EqR K H 1 (.ref t) (.ref u) true := by
  by_cases e : t = u
  · subst e; exact .same t
  · have z := EqR.tup (K := K) (n := 0) (fun _ => true) e h1 h2 rfl fun i x y e1 e2 => by
      rw [e1] at e2
      cases e2
      match i, e1 with
      | 0, e1 => cases e1; exact EqR.of_same (.inl rfl)
      | 1, e1 => cases e1; exact EqR.of_same (.inl rfl)
      | i + 2, e1 => cases e1
    rw [all_true] at z
    exact z
theorem EqL.cost {K : PySem.W.Frag} {H : Hp} {a b t u : Addr} {g s x y : Int} (ha : SqL K H a [.int g, .int s, .ref t]) (hb : SqL K H b [.int g, .int s, .ref u]) (h1 : SqT K H t [.int x, .int y]) (h2 : SqT K H u [.int x, .int y]) : EqL K H 1 (.ref a) (.ref b) true :=
  ⟨a, b, _, _, fun _ => true, rfl, rfl, ha, hb, rfl, (by
    intro j x y e1 e2
    match j, e1, e2 with
    | 0, e1, e2 => cases e1; cases e2; exact EqR.of_same (.inl rfl)
    | 1, e1, e2 => cases e1; cases e2; exact EqR.of_same (.inl rfl)
    | 2, e1, e2 => cases e1; cases e2; exact EqR.pair h1 h2
    | j + 3, e1, e2 => cases e1), (all_true _).symm⟩
theorem EqT.pair {K : PySem.W.Frag} {H : Hp} {t u : Addr} {x y : Int} (h1 : SqT K H t [.int x, .int y]) (h2 : SqT K H u [.int x, .int y]) : EqT K H 1 (.ref t) (.ref u) true := EqT.same h1 h2 fun z hz => by
  rcases List.mem_cons.mp hz with rfl | hz
  · exact .inl rfl
  · rw [List.mem_singleton.mp hz]; exact .inl rfl
end K1

set_option Elab.async false
set_option linter.all false
set_option maxRecDepth 100000
set_option maxHeartbeats 4000000
namespace K1
open PySem L2 Fr1 Up
theorem bits_neg {x : Int} {k : Nat} (h : bits x ≤ k) : bits (-x) ≤ k := intBits_le_of_natAbs (by rw [Int.natAbs_neg]; exact Nat.le_refl _) h
theorem tn_bits {ns : List Int} {k : Nat} (h : ∀ n ∈ ns, bits n ≤ k) : ∀ n ∈ tnL ns, bits n ≤ k := fun n hn => by
  unfold tnL at hn
  obtain ⟨x, hx, rfl⟩ := List.mem_map.mp (List.mem_reverse.mp hn)
  exact bits_neg (h x hx)
theorem mv_bits {ns : List Int} {k m : Nat} {c : Int} (h : ∀ n ∈ ns, bits n ≤ k) (hc : bits c ≤ m) (hkm : k ≤ m) : ∀ n ∈ mvL c ns, bits n ≤ m + 1 := fun n hn => by
  unfold mvL at hn
  obtain ⟨x, hx, rfl⟩ := List.mem_map.mp hn
  refine Nat.le_trans (intBits_add_le (h x hx) hc) ?_
  rw [Nat.max_def]
  split <;> omega
theorem gr_bits {ns : List Int} {k : Nat} (h : ∀ n ∈ ns, bits n ≤ k) : ∀ n ∈ grL ns, bits n ≤ 2 + k := fun n hn => by
  unfold grL at hn
  obtain ⟨x, hx, rfl⟩ := List.mem_map.mp hn
  exact intBits_mul_le (show bits 3 ≤ 2 by decide) (h x hx)
theorem sum_bits {k : Nat} (hk : 0 < k) : ∀ (ns : List Int), (∀ n ∈ ns, bits n ≤ k) → bits ns.sum ≤ k + ns.length
  | [], _ => by
    have : bits ([] : List Int).sum = 0 := rfl
    omega
  | x :: xs, h => by
    have ih := sum_bits hk xs fun n hn => h n (List.mem_cons_of_mem _ hn)
    rw [List.sum_cons, List.length_cons]
    refine Nat.le_trans (intBits_add_le (h x List.mem_cons_self) ih) ?_
    rw [Nat.max_def]
    split <;> omega
theorem pw_rise {ns : List Int} (h : ns.Pairwise (· ≤ ·)) : Rise ns := fun i hi => by
  have := List.pairwise_iff_getElem.mp h i (i + 1) (by omega) hi (by omega)
  rw [← gd_of (List.getElem?_eq_getElem (l := ns) (i := i) (by omega)), ← gd_of (List.getElem?_eq_getElem (l := ns) (i := i + 1) hi)] at this
  exact this
theorem FrAt.rev {H : Hp} {rs : List Addr} {fs : List (Int × Int)} (h : FrAt H rs fs) : FrAt H rs.reverse fs.reverse := by
  refine ⟨by rw [List.length_reverse, List.length_reverse, h.1], fun i r f e1 e2 => ?_⟩
  have i1 := (List.getElem?_eq_some_iff.mp e1).1
  rw [List.length_reverse] at i1
  rw [List.getElem?_reverse i1] at e1
  rw [List.getElem?_reverse (by rw [← h.1]; exact i1), ← h.1] at e2
  exact h.2 _ r f e1 e2
theorem FrAt.nil (H : Hp) : FrAt H [] [] := ⟨rfl, fun i r f e => by simp at e⟩
theorem mem_gr {ws : List Int} {w : Int} (h : w ∈ grL ws) : ∃ x ∈ ws, w = 3 * x := by
  unfold grL at h
  obtain ⟨x, hx, e⟩ := List.mem_map.mp h
  exact ⟨x, hx, e.symm⟩
end K1

set_option Elab.async false
set_option linter.all false
set_option maxRecDepth 100000
set_option maxHeartbeats 8000000
namespace K1
open PySem L2 Fr1 Up
def top (i : Nat) : Stmt := PySem.Challenge.pw_uprow_k06_turned.main.body.getD i (.Pass ⟨0, 0, 0, 0⟩)
abbrev s_common_divisor : Stmt := top 7
theorem sc_common_divisor : FnScope ["one", "other", "divisor", "rest", "left"] ["one", "other"] (defScope s_common_divisor) := ⟨rfl, rfl, rfl, by decide +kernel, rfl, by decide +kernel, by decide +kernel⟩
abbrev s_lowest : Stmt := top 8
theorem sc_lowest : FnScope ["top", "bottom", "divisor"] ["top", "bottom"] (defScope s_lowest) := ⟨rfl, rfl, rfl, by decide +kernel, rfl, by decide +kernel, by decide +kernel⟩
abbrev s_plus : Stmt := top 9
theorem sc_plus : FnScope ["one", "other", "shared", "own_part", "top", "still_shared"] ["one", "other"] (defScope s_plus) := ⟨rfl, rfl, rfl, by decide +kernel, rfl, by decide +kernel, by decide +kernel⟩
abbrev s_is_less : Stmt := top 10
theorem sc_is_less : FnScope ["one", "other"] ["one", "other"] (defScope s_is_less) := ⟨rfl, rfl, rfl, by decide +kernel, rfl, by decide +kernel, by decide +kernel⟩
abbrev s_is_whole : Stmt := top 12
theorem sc_is_whole : FnScope ["value"] ["value"] (defScope s_is_whole) := ⟨rfl, rfl, rfl, by decide +kernel, rfl, by decide +kernel, by decide +kernel⟩
abbrev s_is_fraction : Stmt := top 13
theorem sc_is_fraction : FnScope ["value"] ["value"] (defScope s_is_fraction) := ⟨rfl, rfl, rfl, by decide +kernel, rfl, by decide +kernel, by decide +kernel⟩
abbrev s_is_list_of_wholes : Stmt := top 14
theorem sc_is_list_of_wholes : FnScope ["values"] ["values"] (defScope s_is_list_of_wholes) := ⟨rfl, rfl, rfl, by decide +kernel, rfl, by decide +kernel, by decide +kernel⟩
abbrev s_is_list_of_fractions : Stmt := top 15
theorem sc_is_list_of_fractions : FnScope ["values"] ["values"] (defScope s_is_list_of_fractions) := ⟨rfl, rfl, rfl, by decide +kernel, rfl, by decide +kernel, by decide +kernel⟩
abbrev s_is_whole_row : Stmt := top 16
theorem sc_is_whole_row : FnScope ["numbers", "row"] ["numbers", "row"] (defScope s_is_whole_row) := ⟨rfl, rfl, rfl, by decide +kernel, rfl, by decide +kernel, by decide +kernel⟩
abbrev s_is_fraction_row : Stmt := top 17
theorem sc_is_fraction_row : FnScope ["numbers", "row"] ["numbers", "row"] (defScope s_is_fraction_row) := ⟨rfl, rfl, rfl, by decide +kernel, rfl, by decide +kernel, by decide +kernel⟩
abbrev s_are_weights : Stmt := top 18
theorem sc_are_weights : FnScope ["numbers", "weights"] ["numbers", "weights"] (defScope s_are_weights) := ⟨rfl, rfl, rfl, by decide +kernel, rfl, by decide +kernel, by decide +kernel⟩
abbrev s_check_numbers : Stmt := top 19
theorem sc_check_numbers : FnScope ["numbers"] ["numbers"] (defScope s_check_numbers) := ⟨rfl, rfl, rfl, by decide +kernel, rfl, by decide +kernel, by decide +kernel⟩
abbrev s_check_whole_row : Stmt := top 20
theorem sc_check_whole_row : FnScope ["numbers", "row"] ["numbers", "row"] (defScope s_check_whole_row) := ⟨rfl, rfl, rfl, by decide +kernel, rfl, by decide +kernel, by decide +kernel⟩
abbrev s_check_fraction_row : Stmt := top 21
theorem sc_check_fraction_row : FnScope ["numbers", "row"] ["numbers", "row"] (defScope s_check_fraction_row) := ⟨rfl, rfl, rfl, by decide +kernel, rfl, by decide +kernel, by decide +kernel⟩
abbrev s_check_weights : Stmt := top 22
theorem sc_check_weights : FnScope ["numbers", "weights"] ["numbers", "weights"] (defScope s_check_weights) := ⟨rfl, rfl, rfl, by decide +kernel, rfl, by decide +kernel, by decide +kernel⟩
abbrev s_differences : Stmt := top 24
theorem sc_differences : FnScope ["numbers", "row"] ["numbers", "row"] (defScope s_differences) := ⟨rfl, rfl, rfl, by decide +kernel, rfl, by decide +kernel, by decide +kernel⟩
abbrev s_greatest : Stmt := top 25
theorem sc_greatest : FnScope ["numbers", "row"] ["numbers", "row"] (defScope s_greatest) := ⟨rfl, rfl, rfl, by decide +kernel, rfl, by decide +kernel, by decide +kernel⟩
abbrev s_summed_up : Stmt := top 26
theorem sc_summed_up : FnScope ["numbers", "row", "weights"] ["numbers", "row", "weights"] (defScope s_summed_up) := ⟨rfl, rfl, rfl, by decide +kernel, rfl, by decide +kernel, by decide +kernel⟩
abbrev s_weighted_square : Stmt := top 27
theorem sc_weighted_square : FnScope ["number", "fraction", "weight", "top"] ["number", "fraction", "weight"] (defScope s_weighted_square) := ⟨rfl, rfl, rfl, by decide +kernel, rfl, by decide +kernel, by decide +kernel⟩
abbrev s_squares : Stmt := top 28
theorem sc_squares : FnScope ["numbers", "row", "weights", "total", "place", "number"] ["numbers", "row", "weights"] (defScope s_squares) := ⟨rfl, rfl, rfl, by decide +kernel, rfl, by decide +kernel, by decide +kernel⟩
abbrev s_upper_row : Stmt := top 30
theorem sc_upper_row : FnScope ["numbers", "row", "number"] ["numbers"] (defScope s_upper_row) := ⟨rfl, rfl, rfl, by decide +kernel, rfl, by decide +kernel, by decide +kernel⟩
abbrev s_lower_row : Stmt := top 31
theorem sc_lower_row : FnScope ["numbers", "row", "number"] ["numbers"] (defScope s_lower_row) := ⟨rfl, rfl, rfl, by decide +kernel, rfl, by decide +kernel, by decide +kernel⟩
abbrev s_deepest_fall : Stmt := top 32
theorem sc_deepest_fall : FnScope ["numbers", "deepest", "top", "place", "number", "depth"] ["numbers"] (defScope s_deepest_fall) := ⟨rfl, rfl, rfl, by decide +kernel, rfl, by decide +kernel, by decide +kernel⟩
abbrev s_least_stands : Stmt := top 33
theorem sc_least_stands : FnScope ["numbers", "most"] ["numbers", "most"] (defScope s_least_stands) := ⟨rfl, rfl, rfl, by decide +kernel, rfl, by decide +kernel, by decide +kernel⟩
abbrev s_Evened___init__ : Stmt := inClass (top 36) 0
theorem sc_Evened___init__ : FnScope ["self", "row", "first", "second"] ["self", "row", "first", "second"] (defScope s_Evened___init__) := ⟨rfl, rfl, rfl, by decide +kernel, rfl, by decide +kernel, by decide +kernel⟩
abbrev s_Summed___init__ : Stmt := inClass (top 37) 0
theorem sc_Summed___init__ : FnScope ["self", "row", "pulls"] ["self", "row", "pulls"] (defScope s_Summed___init__) := ⟨rfl, rfl, rfl, by decide +kernel, rfl, by decide +kernel, by decide +kernel⟩
abbrev s_Squared___init__ : Stmt := inClass (top 38) 0
theorem sc_Squared___init__ : FnScope ["self", "row"] ["self", "row"] (defScope s_Squared___init__) := ⟨rfl, rfl, rfl, by decide +kernel, rfl, by decide +kernel, by decide +kernel⟩
abbrev s_put_in : Stmt := top 40
theorem sc_put_in : FnScope ["heap", "value", "share", "place"] ["heap", "value", "share"] (defScope s_put_in) := ⟨rfl, rfl, rfl, by decide +kernel, rfl, by decide +kernel, by decide +kernel⟩
abbrev s_greater_below : Stmt := top 41
theorem sc_greater_below : FnScope ["heap", "place", "left"] ["heap", "place"] (defScope s_greater_below) := ⟨rfl, rfl, rfl, by decide +kernel, rfl, by decide +kernel, by decide +kernel⟩
abbrev s_take_top : Stmt := top 42
theorem sc_take_top : FnScope ["heap", "last", "place", "below"] ["heap"] (defScope s_take_top) := ⟨rfl, rfl, rfl, by decide +kernel, rfl, by decide +kernel, by decide +kernel⟩
abbrev s_take_shares : Stmt := top 43
theorem sc_take_shares : FnScope ["heap", "amount", "left"] ["heap", "amount"] (defScope s_take_shares) := ⟨rfl, rfl, rfl, by decide +kernel, rfl, by decide +kernel, by decide +kernel⟩
abbrev s_evened : Stmt := top 45
theorem sc_evened : FnScope ["numbers", "fall", "cost"] ["numbers"] (defScope s_evened) := ⟨rfl, rfl, rfl, by decide +kernel, rfl, by decide +kernel, by decide +kernel⟩
abbrev s_cheapest_ends : Stmt := top 46
theorem sc_cheapest_ends : FnScope ["numbers", "weights", "heap", "ends", "number", "weight"] ["numbers", "weights"] (defScope s_cheapest_ends) := ⟨rfl, rfl, rfl, by decide +kernel, rfl, by decide +kernel, by decide +kernel⟩
abbrev s_greatest_pull : Stmt := top 47
theorem sc_greatest_pull : FnScope ["number", "stand", "weight"] ["number", "stand", "weight"] (defScope s_greatest_pull) := ⟨rfl, rfl, rfl, by decide +kernel, rfl, by decide +kernel, by decide +kernel⟩
abbrev s_least_pull : Stmt := top 48
theorem sc_least_pull : FnScope ["number", "stand", "weight"] ["number", "stand", "weight"] (defScope s_least_pull) := ⟨rfl, rfl, rfl, by decide +kernel, rfl, by decide +kernel, by decide +kernel⟩
abbrev s_sums_from_ahead : Stmt := top 49
theorem sc_sums_from_ahead : FnScope ["numbers", "row", "weights", "sums", "total", "place", "stand"] ["numbers", "row", "weights"] (defScope s_sums_from_ahead) := ⟨rfl, rfl, rfl, by decide +kernel, rfl, by decide +kernel, by decide +kernel⟩
abbrev s_sums_from_behind : Stmt := top 50
theorem sc_sums_from_behind : FnScope ["numbers", "row", "weights", "sums", "total", "place"] ["numbers", "row", "weights"] (defScope s_sums_from_behind) := ⟨rfl, rfl, rfl, by decide +kernel, rfl, by decide +kernel, by decide +kernel⟩
abbrev s_pulls_of : Stmt := top 51
theorem sc_pulls_of : FnScope ["numbers", "row", "weights", "pulls", "reached", "ahead", "behind", "one", "other"] ["numbers", "row", "weights"] (defScope s_pulls_of) := ⟨rfl, rfl, rfl, by decide +kernel, rfl, by decide +kernel, by decide +kernel⟩
abbrev s_summed : Stmt := top 52
theorem sc_summed : FnScope ["numbers", "weights", "row"] ["numbers", "weights"] (defScope s_summed) := ⟨rfl, rfl, rfl, by decide +kernel, rfl, by decide +kernel, by decide +kernel⟩
abbrev s_joined : Stmt := top 53
theorem sc_joined : FnScope ["one", "other"] ["one", "other"] (defScope s_joined) := ⟨rfl, rfl, rfl, by decide +kernel, rfl, by decide +kernel, by decide +kernel⟩
abbrev s_level_runs : Stmt := top 54
theorem sc_level_runs : FnScope ["numbers", "weights", "runs", "number", "weight", "run"] ["numbers", "weights"] (defScope s_level_runs) := ⟨rfl, rfl, rfl, by decide +kernel, rfl, by decide +kernel, by decide +kernel⟩
abbrev s_squared : Stmt := top 55
theorem sc_squared : FnScope ["numbers", "weights", "row", "run"] ["numbers", "weights"] (defScope s_squared) := ⟨rfl, rfl, rfl, by decide +kernel, rfl, by decide +kernel, by decide +kernel⟩
abbrev s__law_numbers : Stmt := top 57
theorem sc__law_numbers : FnScope ["_law_script", "_law_most", "_law_numbers_here"] ["_law_script"] (defScope s__law_numbers) := ⟨rfl, rfl, rfl, by decide +kernel, rfl, by decide +kernel, by decide +kernel⟩
abbrev s__law_weights : Stmt := top 58
theorem sc__law_weights : FnScope ["_law_script", "_law_kind", "_law_rests"] ["_law_script"] (defScope s__law_weights) := ⟨rfl, rfl, rfl, by decide +kernel, rfl, by decide +kernel, by decide +kernel⟩
abbrev s__law_costs : Stmt := top 59
theorem sc__law_costs : FnScope ["_law_numbers_here", "_law_weights_here", "_law_found"] ["_law_numbers_here", "_law_weights_here"] (defScope s__law_costs) := ⟨rfl, rfl, rfl, by decide +kernel, rfl, by decide +kernel, by decide +kernel⟩
abbrev s__law_low : Stmt := top 60
theorem sc__law_low : FnScope ["_law_above", "_law_below", "_law_one", "_law_other"] ["_law_above", "_law_below"] (defScope s__law_low) := ⟨rfl, rfl, rfl, by decide +kernel, rfl, by decide +kernel, by decide +kernel⟩
abbrev s_law : Stmt := top 61
theorem sc_law : FnScope ["_law_script", "_law_numbers_here", "_law_weights_here", "_law_due", "_law_row", "_law_turned", "_law_back", "_law_far", "_law_moved", "_law_great", "_law_found"] ["_law_script"] (defScope s_law) := ⟨rfl, rfl, rfl, by decide +kernel, rfl, by decide +kernel, by decide +kernel⟩
section
variable {P : Program} {w : World} {K : PySem.W.Frag} {mg : Str → Option Value} {base : Heap} {f : Addr} {fd : FuncData} {c : CA}
theorem ok_common_divisor (M : Bn mg) (F : Fun K "common_divisor" "common_divisor" s_common_divisor f fd) : FnOk P w K mg base CX0 1 f fd ["one", "other"] spGcd := by
  refine F.ok sc_common_divisor (fun vs H Q E h => ?_) (fun cdv A outer s H vs Q E hr h => ?_)
  · obtain ⟨a, b, rfl, _⟩ := h; rfl
  obtain ⟨a, b, rfl, q⟩ := h
  refine ⟨_, (pss_cons (ps_set (i := 2) sc_common_divisor.nd rfl (Or.inl rfl) (pe_callB call_abs rfl M.abs' boot_absB (pa_cons (pv 0) pa_nil)))
      (pss_cons (ps_set (i := 3) sc_common_divisor.nd rfl (Or.inl rfl) (pe_callB call_abs rfl M.abs' boot_absB (pa_cons (pv 1) pa_nil)))
      (pss_cons (ps_while PassesOwn.never (pt_cmpR op_ne (pv 3) pe_int (nomark _)) (pss_cons (ps_set (i := 4) sc_common_divisor.nd rfl (Or.inl rfl) (pe_op op_mod (pv 2) (pv 3)))
      (pss_cons (ps_set (i := 2) sc_common_divisor.nd rfl (Or.inl rfl) (pv 3))
      (pss_one (ps_set (i := 3) sc_common_divisor.nd rfl (Or.inl rfl) (pv 4))))))
      (pss_one (ps_ret (pv 2)))))), ?_⟩
  refine ⟨_, rfl, a, rfl, ?_⟩
  refine ⟨_, rfl, b, rfl, ?_⟩
  refine while_by (fun σ H' => H' = H ∧ ∃ d r x, σ = [some (.int a), some (.int b), some (.int d), some (.int r), x] ∧ 0 ≤ d ∧ 0 ≤ r ∧ Int.gcd d r = Int.gcd a b)
    (fun σ _ => match σ with | [_, _, _, some (.int r), _] => r.toNat | _ => 0) ⟨rfl, _, _, _, rfl, ?_, ?_, gcd_abs a b⟩ ?_ (fun σ H Q Q' h ⟨v, e1, e2, k, e3, q⟩ => ⟨v, e1, e2, k, e3, h _ _ q⟩)
  · split <;> omega
  · split <;> omega
  rintro σ H' ⟨rfl, d, r, x, rfl, hd, hr0, hg⟩
  refine ⟨_, rfl, rfl, _, rfl, ?_⟩
  by_cases h : r = 0
  · subst h
    refine iteNS rfl ?_
    refine ⟨_, rfl, ?_⟩
    have e : (Int.gcd a b : Int) = d := by rw [← hg]; exact gcd_zero_nn hd
    rw [e] at q
    exact q
  · have hc : ¬ (V.int r = V.int 0) := fun z => h (by injection z)
    rw [decide_eq_false hc]
    refine iteT ?_
    refine ⟨_, rfl, _, rfl, _, _, rfl, rfl, (by omega), ?_⟩
    refine ⟨_, rfl, ?_⟩
    refine ⟨_, rfl, ?_⟩
    have h1 := Int.emod_nonneg d h
    have h2 := Int.emod_lt_of_pos d (show 0 < r by omega)
    refine ⟨⟨rfl, r, d % r, _, rfl, hr0, h1, ?_⟩, ?_⟩
    · rw [gcd_turn]; exact hg
    · show (d % r).toNat < r.toNat
      omega

theorem ok_is_whole (M : Bn mg) (F : Fun K "is_whole" "is_whole" s_is_whole f fd) : FnOk P w K mg base CX0 1 f fd ["value"] spWhole := by
  refine F.ok sc_is_whole (fun vs H Q E h => ?_) (fun cdv A outer s H vs Q E hr h => ?_)
  · obtain ⟨i, rfl, _⟩ := h; rfl
  obtain ⟨i, rfl, q⟩ := h
  refine ⟨_, (pss_one (ps_ret (pe_and (pe_callB call_isi rfl M.isinstance' boot_isi (pa_cons (pv 0) (pa_cons (pe_bltn (v := .ty "int") rfl M.int' boot_intT rfl) pa_nil))) (pe_one (pe_not (pe_callB call_isi rfl M.isinstance' boot_isi (pa_cons (pv 0) (pa_cons (pe_bltn (v := .ty "bool") rfl M.bool' boot_boolT rfl) pa_nil)))))))), ?_⟩
  refine ⟨_, rfl, _, "int", _, true, rfl, .int i, kit_ii, true, rfl, ?_⟩
  refine iteT ?_
  exact ⟨_, rfl, _, "bool", _, false, rfl, .int i, kit_ib, false, rfl, q⟩

theorem ok_is_fraction (M : Bn mg) (F_is_whole : FnA P w K mg base "is_whole" ["value"] 1 spWhole) (F_common_divisor : FnA P w K mg base "common_divisor" ["one", "other"] 1 spGcd) (F : Fun K "is_fraction" "is_fraction" s_is_fraction f fd) : FnOk P w K mg base CX0 2 f fd ["value"] spFrac := by
  refine F.ok sc_is_fraction (fun vs H Q E h => ?_) (fun cdv A outer s H vs Q E hr h => ?_)
  · obtain ⟨a, p, r, rfl, _⟩ := h; rfl
  obtain ⟨a, p, r, rfl, hA, h1, hg, q⟩ := h
  refine ⟨_, (pss_cons (ps_if (PW.pt (pw_or (pt_not (pt_val (pe_callB call_isi rfl M.isinstance' boot_isi (pa_cons (pv 0) (pa_cons (pe_bltn (v := .ty "tuple") rfl M.tuple' boot_tupleT rfl) pa_nil))))) (pw_or1 (pt_cmpR op_ne (pe_callB call_len_seq rfl M.len' PySem.boot_len (pa_cons (pv 0) pa_nil)) pe_int (nomark _))))) (pss_one (ps_ret pe_bl)) pss_nil)
      (pss_cons (ps_if (PW.pt (pw_or (pt_not (pt_val (pe_callA F_is_whole (hr.mono (by decide)) rfl (pa_cons (pe_ix ix_tup (pv 0) pe_int (fun _ _ => rfl)) pa_nil)))) (pw_or1 (pt_not (pt_val (pe_callA F_is_whole (hr.mono (by decide)) rfl (pa_cons (pe_ix ix_tup (pv 0) pe_int (fun _ _ => rfl)) pa_nil))))))) (pss_one (ps_ret pe_bl)) pss_nil)
      (pss_one (ps_ret (pe_and (pe_cmpR op_ge (pe_ix ix_tup (pv 0) pe_int (fun _ _ => rfl)) pe_int (nomark _)) (pe_one (pe_cmpR op_eq (pe_callA F_common_divisor (hr.mono (by decide)) rfl (pa_cons (pe_ix ix_tup (pv 0) pe_int (fun _ _ => rfl)) (pa_cons (pe_ix ix_tup (pv 0) pe_int (fun _ _ => rfl)) pa_nil))) pe_int (nomark _)))))))), ?_⟩
  refine ⟨_, rfl, _, "tuple", _, true, rfl, .tup hA, kit_tt, true, rfl, ?_⟩
  refine iteF ?_
  refine ⟨_, rfl, a, _, rfl, .inr (SqT.of hA), rfl, _, rfl, ?_⟩
  refine iteNS rfl ?_
  refine ⟨_, rfl, a, _, 0, _, rfl, rfl, SqT.of hA, rfl, p, rfl, true, rfl, ?_⟩
  refine iteF ?_
  refine ⟨_, rfl, a, _, 1, _, rfl, rfl, SqT.of hA, rfl, r, rfl, true, rfl, ?_⟩
  refine iteF ?_
  refine ⟨_, rfl, a, _, 1, _, rfl, rfl, SqT.of hA, rfl, _, _, rfl, rfl, _, rfl, ?_⟩
  rw [decide_eq_true h1]
  refine iteT ?_
  refine ⟨_, rfl, a, _, 0, _, rfl, rfl, SqT.of hA, rfl, _, rfl, a, _, 1, _, rfl, rfl, SqT.of hA, rfl, p, r, rfl, rfl, ?_⟩
  rw [hg]
  exact q

theorem ok_is_list_of_wholes (M : Bn mg) (F_is_whole : FnA P w K mg base "is_whole" ["value"] 1 spWhole) (F : Fun K "is_list_of_wholes" "is_list_of_wholes" s_is_list_of_wholes f fd) : FnOk P w K mg base CX0 3 f fd ["values"] spListW := by
  refine F.ok sc_is_list_of_wholes (fun vs H Q E h => ?_) (fun cdv A outer s H vs Q E hr h => ?_)
  · obtain ⟨a, ns, rfl, _⟩ := h; rfl
  obtain ⟨a, ns, rfl, hA, h63, q⟩ := h
  refine ⟨_, (pss_one (ps_ret (pe_and (pe_callB call_isi rfl M.isinstance' boot_isi (pa_cons (pv 0) (pa_cons (pe_bltn (v := .ty "list") rfl M.list' boot_listT rfl) pa_nil))) (pe_one (pe_callB (call_allL rfl) rfl M.all' boot_allB (pa_cons (pe_comp rfl (CompScope.none ["value"]) (pi_list (pv 0)) (fun _ _ _ _ _ => (pg_name (i := 0) (show (["value"] : List Str).Nodup by decide +kernel) rfl (Or.inl rfl) (Or.inr rfl))) (fun _ _ _ _ _ => (pe_callA F_is_whole (hr.mono (by decide)) rfl (pa_cons (pv 0) pa_nil)))) pa_nil)))))), ?_⟩
  refine ⟨_, rfl, _, "list", _, true, rfl, .lst hA, kit_ll, true, rfl, ?_⟩
  refine iteT ?_
  refine ⟨_, rfl, a, rfl, ⟨_, SqL.of hA⟩, ?_⟩
  refine comp_list (xs := ns.map V.int) (by rw [List.length_map]; exact le63 h63) (fun i ys H' => H' = H ∧ ys = List.replicate i (.bl true)) ⟨rfl, rfl⟩ (fun i ys H' _ h => by rw [h.1]; exact SqL.of hA) ?_ ?_
  · rintro i x ys H' hx ⟨rfl, rfl⟩
    obtain ⟨z, _, rfl⟩ := ints_at hx
    exact ⟨⟨rfl, rfl⟩, _, rfl, z, rfl, rfl, rep_snoc _ _⟩
  · rintro ys H' ⟨rfl, rfl⟩ D hD
    refine ⟨D, List.replicate (ns.map V.int).length true, rfl, SqL.of ?_, ?_⟩
    · rw [upd_same, List.map_replicate]
    · rw [rep_all]
      exact q _ (same_new hD _)

theorem ok_is_list_of_fractions (M : Bn mg) (F_is_fraction : FnA P w K mg base "is_fraction" ["value"] 2 spFrac) (F : Fun K "is_list_of_fractions" "is_list_of_fractions" s_is_list_of_fractions f fd) : FnOk P w K mg base CX0 3 f fd ["values"] spListF := by
  refine F.ok sc_is_list_of_fractions (fun vs H Q E h => ?_) (fun cdv A outer s H vs Q E hr h => ?_)
  · obtain ⟨a, rs, fs, rfl, _⟩ := h; rfl
  obtain ⟨a, rs, fs, rfl, hA, hF, h63, hok, q⟩ := h
  refine ⟨_, (pss_one (ps_ret (pe_and (pe_callB call_isi rfl M.isinstance' boot_isi (pa_cons (pv 0) (pa_cons (pe_bltn (v := .ty "list") rfl M.list' boot_listT rfl) pa_nil))) (pe_one (pe_callB (call_allL rfl) rfl M.all' boot_allB (pa_cons (pe_comp rfl (CompScope.none ["value"]) (pi_list (pv 0)) (fun _ _ _ _ _ => (pg_name (i := 0) (show (["value"] : List Str).Nodup by decide +kernel) rfl (Or.inl rfl) (Or.inr rfl))) (fun _ _ _ _ _ => (pe_callA F_is_fraction (hr.mono (by decide)) rfl (pa_cons (pv 0) pa_nil)))) pa_nil)))))), ?_⟩
  refine ⟨_, rfl, _, "list", _, true, rfl, .lst hA, kit_ll, true, rfl, ?_⟩
  refine iteT ?_
  refine ⟨_, rfl, a, rfl, ⟨_, SqL.of hA⟩, ?_⟩
  refine comp_list (xs := rs.map V.ref) (by rw [List.length_map, hF.1]; exact le63 h63) (fun i ys H' => H' = H ∧ ys = List.replicate i (.bl true)) ⟨rfl, rfl⟩ (fun i ys H' _ h => by rw [h.1]; exact SqL.of hA) ?_ ?_
  · rintro i x ys H' hx ⟨rfl, rfl⟩
    obtain ⟨r, hr', rfl⟩ := refs_at hx
    have hi : i < fs.length := by rw [← hF.1]; exact (List.getElem?_eq_some_iff.mp hr').1
    obtain ⟨fr, hfr⟩ := get_of hi
    have ht := hF.2 i r fr hr' hfr
    have ho := hok fr (List.mem_of_getElem? hfr)
    exact ⟨⟨rfl, rfl⟩, _, rfl, r, _, _, rfl, ht, ho.1, ho.2, rfl, rep_snoc _ _⟩
  · rintro ys H' ⟨rfl, rfl⟩ D hD
    refine ⟨D, List.replicate (rs.map V.ref).length true, rfl, SqL.of ?_, ?_⟩
    · rw [upd_same, List.map_replicate]
    · rw [rep_all]
      exact q _ (same_new hD _)

theorem ok_check_numbers (M : Bn mg) (F_is_list_of_wholes : FnA P w K mg base "is_list_of_wholes" ["values"] 3 spListW) (F : Fun K "check_numbers" "check_numbers" s_check_numbers f fd) : FnOk P w K mg base CX0 4 f fd ["numbers"] spChk1 := by
  refine F.ok sc_check_numbers (fun vs H Q E h => ?_) (fun cdv A outer s H vs Q E hr h => ?_)
  · obtain ⟨a, ns, rfl, _⟩ := h; rfl
  obtain ⟨a, ns, rfl, hA, h63, q⟩ := h
  refine ⟨_, (pss_one (ps_if (pt_not (pt_val (pe_callA F_is_list_of_wholes (hr.mono (by decide)) rfl (pa_cons (pv 0) pa_nil)))) (pss_one ps_never) pss_nil)), ?_⟩
  exact ⟨_, rfl, a, ns, rfl, hA, h63, fun H' sm => ⟨true, rfl, iteF (q H' sm)⟩⟩

theorem ok_is_whole_row (M : Bn mg) (F_is_list_of_wholes : FnA P w K mg base "is_list_of_wholes" ["values"] 3 spListW) (F : Fun K "is_whole_row" "is_whole_row" s_is_whole_row f fd) : FnOk P w K mg base CX0 4 f fd ["numbers", "row"] spRowW := by
  refine F.ok sc_is_whole_row (fun vs H Q E h => ?_) (fun cdv A outer s H vs Q E hr h => ?_)
  · obtain ⟨a, b, ns, ms, rfl, _⟩ := h; rfl
  obtain ⟨a, b, ns, ms, rfl, hA, hB, h1, h2, q⟩ := h
  refine ⟨_, (pss_one (ps_ret (pe_and (pe_callA F_is_list_of_wholes (hr.mono (by decide)) rfl (pa_cons (pv 1) pa_nil)) (pe_one (pe_cmpR op_eq (pe_callB call_len_seq rfl M.len' PySem.boot_len (pa_cons (pv 1) pa_nil)) (pe_callB call_len_seq rfl M.len' PySem.boot_len (pa_cons (pv 0) pa_nil)) (nomark _)))))), ?_⟩
  refine ⟨_, rfl, b, ms, rfl, hB, h2, fun H' sm => ⟨true, rfl, iteT ?_⟩⟩
  refine ⟨_, rfl, b, _, rfl, .inl (SqL.of (sm.at hB)), _, rfl, a, _, rfl, .inl (SqL.of (sm.at hA)), rfl, ?_⟩
  exact q _ H' dec_len sm

theorem ok_check_whole_row (M : Bn mg) (F_is_whole_row : FnA P w K mg base "is_whole_row" ["numbers", "row"] 4 spRowW) (F : Fun K "check_whole_row" "check_whole_row" s_check_whole_row f fd) : FnOk P w K mg base CX0 5 f fd ["numbers", "row"] spChk2 := by
  refine F.ok sc_check_whole_row (fun vs H Q E h => ?_) (fun cdv A outer s H vs Q E hr h => ?_)
  · obtain ⟨a, b, ns, ms, rfl, _⟩ := h; rfl
  obtain ⟨a, b, ns, ms, rfl, hA, hB, h63, hl, q⟩ := h
  refine ⟨_, (pss_one (ps_if (pt_not (pt_val (pe_callA F_is_whole_row (hr.mono (by decide)) rfl (pa_cons (pv 0) (pa_cons (pv 1) pa_nil))))) (pss_one ps_never) pss_nil)), ?_⟩
  refine ⟨_, rfl, _, rfl, a, b, ns, ms, rfl, hA, hB, h63, by omega, fun bb H' hb sm => ⟨bb, rfl, ?_⟩⟩
  obtain rfl : bb = true := hb.mpr hl
  exact iteF (q H' sm)

theorem ok_is_fraction_row (M : Bn mg) (F_is_list_of_fractions : FnA P w K mg base "is_list_of_fractions" ["values"] 3 spListF) (F : Fun K "is_fraction_row" "is_fraction_row" s_is_fraction_row f fd) : FnOk P w K mg base CX0 4 f fd ["numbers", "row"] spRowF := by
  refine F.ok sc_is_fraction_row (fun vs H Q E h => ?_) (fun cdv A outer s H vs Q E hr h => ?_)
  · obtain ⟨a, b, ns, rs, fs, rfl, _⟩ := h; rfl
  obtain ⟨a, b, ns, rs, fs, rfl, hA, hB, hF, h1, h2, hok, q⟩ := h
  refine ⟨_, (pss_one (ps_ret (pe_and (pe_callA F_is_list_of_fractions (hr.mono (by decide)) rfl (pa_cons (pv 1) pa_nil)) (pe_one (pe_cmpR op_eq (pe_callB call_len_seq rfl M.len' PySem.boot_len (pa_cons (pv 1) pa_nil)) (pe_callB call_len_seq rfl M.len' PySem.boot_len (pa_cons (pv 0) pa_nil)) (nomark _)))))), ?_⟩
  refine ⟨_, rfl, b, rs, fs, rfl, hB, hF, h2, hok, fun H' sm => ⟨true, rfl, iteT ?_⟩⟩
  refine ⟨_, rfl, b, _, rfl, .inl (SqL.of (sm.at hB)), _, rfl, a, _, rfl, .inl (SqL.of (sm.at hA)), rfl, ?_⟩
  refine q _ H' ?_ sm
  rw [← hF.1]
  exact dec_lenF

theorem ok_check_fraction_row (M : Bn mg) (F_is_fraction_row : FnA P w K mg base "is_fraction_row" ["numbers", "row"] 4 spRowF) (F : Fun K "check_fraction_row" "check_fraction_row" s_check_fraction_row f fd) : FnOk P w K mg base CX0 5 f fd ["numbers", "row"] spChkF := by
  refine F.ok sc_check_fraction_row (fun vs H Q E h => ?_) (fun cdv A outer s H vs Q E hr h => ?_)
  · obtain ⟨a, b, ns, rs, fs, rfl, _⟩ := h; rfl
  obtain ⟨a, b, ns, rs, fs, rfl, hA, hB, hF, h63, hl, hok, q⟩ := h
  refine ⟨_, (pss_one (ps_if (pt_not (pt_val (pe_callA F_is_fraction_row (hr.mono (by decide)) rfl (pa_cons (pv 0) (pa_cons (pv 1) pa_nil))))) (pss_one ps_never) pss_nil)), ?_⟩
  refine ⟨_, rfl, _, rfl, a, b, ns, rs, fs, rfl, hA, hB, hF, h63, by omega, hok, fun bb H' hb sm => ⟨bb, rfl, ?_⟩⟩
  obtain rfl : bb = true := hb.mpr hl
  exact iteF (q H' sm)

theorem ok_are_weights (M : Bn mg) (F_is_whole_row : FnA P w K mg base "is_whole_row" ["numbers", "row"] 4 spRowW) (F : Fun K "are_weights" "are_weights" s_are_weights f fd) : FnOk P w K mg base CX0 5 f fd ["numbers", "weights"] spWts := by
  refine F.ok sc_are_weights (fun vs H Q E h => ?_) (fun cdv A outer s H vs Q E hr h => ?_)
  · obtain ⟨a, b, ns, ws, rfl, _⟩ := h; rfl
  obtain ⟨a, b, ns, ws, rfl, hA, hB, h63, hl, hw, q⟩ := h
  refine ⟨_, (pss_one (ps_ret (pe_and (pe_callA F_is_whole_row (hr.mono (by decide)) rfl (pa_cons (pv 0) (pa_cons (pv 1) pa_nil))) (pe_one (pe_cmpR op_ge (pe_minD rfl rfl M.min' (pa_cons (pv 1) pa_nil) (pk_cons pe_int pk_nil)) pe_int (nomark _)))))), ?_⟩
  refine ⟨_, rfl, _, rfl, a, b, ns, ws, rfl, hA, hB, h63, by omega, fun bb H' hb sm => ⟨bb, rfl, ?_⟩⟩
  obtain rfl : bb = true := hb.mpr hl
  refine iteT ?_
  refine ⟨_, rfl, b, ws, .int 1, rfl, rfl, SqL.of (sm.at hB), fun _ => ?_, fun m hm hle => ?_⟩
  · refine ⟨_, _, rfl, rfl, ?_⟩
    show Q (.bl (decide ((1 : Int) ≤ 1))) H'
    rw [decide_eq_true (show (1 : Int) ≤ 1 by decide)]
    exact q H' sm
  · have := hw m hm
    refine ⟨_, _, rfl, rfl, ?_⟩
    show Q (.bl (decide ((1 : Int) ≤ m))) H'
    rw [decide_eq_true (show (1 : Int) ≤ m by omega)]
    exact q H' sm

theorem ok_check_weights (M : Bn mg) (F_are_weights : FnA P w K mg base "are_weights" ["numbers", "weights"] 5 spWts) (F : Fun K "check_weights" "check_weights" s_check_weights f fd) : FnOk P w K mg base CX0 6 f fd ["numbers", "weights"] spChkW := by
  refine F.ok sc_check_weights (fun vs H Q E h => ?_) (fun cdv A outer s H vs Q E hr h => ?_)
  · obtain ⟨a, b, ns, ws, rfl, _⟩ := h; rfl
  obtain ⟨a, b, ns, ws, rfl, hA, hB, h63, hl, hw, q⟩ := h
  refine ⟨_, (pss_one (ps_if (pt_not (pt_val (pe_callA F_are_weights (hr.mono (by decide)) rfl (pa_cons (pv 0) (pa_cons (pv 1) pa_nil))))) (pss_one ps_never) pss_nil)), ?_⟩
  exact ⟨_, rfl, _, rfl, a, b, ns, ws, rfl, hA, hB, h63, hl, hw, fun H' sm => ⟨true, rfl, iteF (q H' sm)⟩⟩

theorem ok_differences (M : Bn mg) (F : Fun K "differences" "differences" s_differences f fd) : FnOk P w K mg base CX0 1 f fd ["numbers", "row"] spDiff := by
  refine F.ok sc_differences (fun vs H Q E h => ?_) (fun cdv A outer s H vs Q E hr h => ?_)
  · obtain ⟨a, b, ns, ms, rfl, _⟩ := h; rfl
  obtain ⟨a, b, ns, ms, rfl, hA, hB, h63, hl, q⟩ := h
  refine ⟨_, (pss_one (ps_ret (pe_comp rfl (CompScope.none ["number", "stand"]) (pi_zip rfl M.zip' (pa_cons (pv 0) (pa_cons (pv 1) pa_nil))) (fun _ _ _ _ _ => (pg_two (K := K) (i := 0) (j := 1) rfl rfl (show (["number", "stand"] : List Str).Nodup by decide +kernel) rfl rfl rfl rfl)) (fun _ _ _ _ _ => (pe_callB call_abs rfl M.abs' boot_absB (pa_cons (pe_op op_sub (pv 0) (pv 1)) pa_nil)))))), ?_⟩
  refine ⟨_, rfl, _, rfl, a, b, rfl, ⟨_, SqL.of hA⟩, ⟨_, SqL.of hB⟩, ?_⟩
  refine comp_zip (xs := ns.map V.int) (zs := ms.map V.int) (by rw [List.length_map]; exact le63 h63) (by rw [List.length_map, List.length_map, hl]) (fun i ys H' => Same H H' ∧ ys = ((dl ns ms).take i).map V.int) ⟨Same.refl _, rfl⟩
    (fun i ys H' _ h => ⟨SqL.of (h.1.at hA), SqL.of (h.1.at hB)⟩) ?_ ?_
  · rintro i x z ys H' p hx hz ⟨sm, rfl⟩ hp
    obtain ⟨n, hn, rfl⟩ := ints_at hx
    obtain ⟨m, hm, rfl⟩ := ints_at hz
    refine ⟨p, _, rfl, SqT.of upd_same, rfl, _, _, rfl, _, _, rfl, rfl, ⟨rfl, rfl⟩, _, rfl, _, rfl, _, _, rfl, rfl, _, rfl, sm.new hp _, ?_⟩
    rw [take_snoc (dl_at hn hm), List.map_append]
    rfl
  · rintro ys H' ⟨sm, rfl⟩ D hD
    refine q D _ (sm.new hD _) ?_
    rw [upd_same, List.length_map, ← dl_length (rs := ms) (by omega), take_all]

theorem ok_greatest (M : Bn mg) (F_check_numbers : FnA P w K mg base "check_numbers" ["numbers"] 4 spChk1) (F_check_whole_row : FnA P w K mg base "check_whole_row" ["numbers", "row"] 5 spChk2) (F_differences : FnA P w K mg base "differences" ["numbers", "row"] 1 spDiff) (F : Fun K "greatest" "greatest" s_greatest f fd) : FnOk P w K mg base CX0 6 f fd ["numbers", "row"] spGreat := by
  refine F.ok sc_greatest (fun vs H Q E h => ?_) (fun cdv A outer s H vs Q E hr h => ?_)
  · obtain ⟨a, b, ns, ms, rfl, _⟩ := h; rfl
  obtain ⟨a, b, ns, ms, rfl, hA, hB, h63, hl, q⟩ := h
  refine ⟨_, (pss_cons (ps_expr (pe_callA F_check_numbers (hr.mono (by decide)) rfl (pa_cons (pv 0) pa_nil)))
      (pss_cons (ps_expr (pe_callA F_check_whole_row (hr.mono (by decide)) rfl (pa_cons (pv 0) (pa_cons (pv 1) pa_nil))))
      (pss_one (ps_ret (pe_maxD rfl rfl M.max' (pa_cons (pe_callA F_differences (hr.mono (by decide)) rfl (pa_cons (pv 0) (pa_cons (pv 1) pa_nil))) pa_nil) (pk_cons pe_int pk_nil)))))), ?_⟩
  refine ⟨_, rfl, a, ns, rfl, hA, h63, fun H1 s1 => ?_⟩
  refine ⟨_, rfl, _, rfl, a, b, ns, ms, rfl, s1.at hA, s1.at hB, h63, hl, fun H2 s2 => ?_⟩
  refine ⟨_, rfl, _, rfl, a, b, ns, ms, rfl, s2.at (s1.at hA), s2.at (s1.at hB), h63, hl, fun p H3 s3 hp => ?_⟩
  have sm : Same H H3 := s1.trans (s2.trans s3)
  refine ⟨p, dl ns ms, .int 0, rfl, rfl, SqL.of hp, fun he => ?_, fun m hm hle => ?_⟩
  · have z := q H3 sm
    rw [he] at z
    exact z
  · have e := maxL_of dl_nn hm hle
    rw [e]
    exact q H3 sm

theorem ok_summed_up (M : Bn mg) (F_check_numbers : FnA P w K mg base "check_numbers" ["numbers"] 4 spChk1) (F_check_whole_row : FnA P w K mg base "check_whole_row" ["numbers", "row"] 5 spChk2) (F_check_weights : FnA P w K mg base "check_weights" ["numbers", "weights"] 6 spChkW) (F_differences : FnA P w K mg base "differences" ["numbers", "row"] 1 spDiff) (F : Fun K "summed_up" "summed_up" s_summed_up f fd) : FnOk P w K mg base CX0 7 f fd ["numbers", "row", "weights"] spSummed := by
  refine F.ok sc_summed_up (fun vs H Q E h => ?_) (fun cdv A outer s H vs Q E hr h => ?_)
  · obtain ⟨a, b, c, ns, ms, ws, rfl, _⟩ := h; rfl
  obtain ⟨a, b, c, ns, ms, ws, rfl, hA, hB, hC, h63, hl, hl2, hw, q⟩ := h
  refine ⟨_, (pss_cons (ps_expr (pe_callA F_check_numbers (hr.mono (by decide)) rfl (pa_cons (pv 0) pa_nil)))
      (pss_cons (ps_expr (pe_callA F_check_whole_row (hr.mono (by decide)) rfl (pa_cons (pv 0) (pa_cons (pv 1) pa_nil))))
      (pss_cons (ps_expr (pe_callA F_check_weights (hr.mono (by decide)) rfl (pa_cons (pv 0) (pa_cons (pv 2) pa_nil))))
      (pss_one (ps_ret (pe_callB (call_sumL rfl) rfl M.sum' PyProof.Rows.boot_sum (pa_cons (pe_comp rfl (CompScope.none ["weight", "difference"]) (pi_zip rfl M.zip' (pa_cons (pv 2) (pa_cons (pe_callA F_differences (hr.mono (by decide)) rfl (pa_cons (pv 0) (pa_cons (pv 1) pa_nil))) pa_nil))) (fun _ _ _ _ _ => (pg_two (K := K) (i := 0) (j := 1) rfl rfl (show (["weight", "difference"] : List Str).Nodup by decide +kernel) rfl rfl rfl rfl)) (fun _ _ _ _ _ => (pe_op op_mul (pv 0) (pv 1)))) pa_nil))))))), ?_⟩
  refine ⟨_, rfl, a, ns, rfl, hA, h63, fun H1 s1 => ?_⟩
  refine ⟨_, rfl, _, rfl, a, b, ns, ms, rfl, s1.at hA, s1.at hB, h63, hl, fun H2 s2 => ?_⟩
  have s12 : Same H H2 := s1.trans s2
  refine ⟨_, rfl, _, rfl, a, c, ns, ws, rfl, s12.at hA, s12.at hC, h63, hl2, fun x hx => (hw x hx).1, fun H3 s3 => ?_⟩
  have s13 : Same H H3 := s12.trans s3
  refine ⟨_, rfl, _, rfl, _, rfl, a, b, ns, ms, rfl, s13.at hA, s13.at hB, h63, hl, fun p H4 s4 hp => ?_⟩
  have s14 : Same H H4 := s13.trans s4
  have hdl := dl_length (ns := ns) (rs := ms) (by omega)
  refine ⟨c, p, rfl, ⟨_, SqL.of (s14.at hC)⟩, ⟨_, SqL.of hp⟩, ?_⟩
  refine comp_zip (xs := ws.map V.int) (zs := (dl ns ms).map V.int) (by rw [List.length_map]; exact le63 (by omega)) (by rw [List.length_map, List.length_map]; omega) (fun i ys H' => Same H4 H' ∧ ys = ((wl ws (dl ns ms)).take i).map V.int) ⟨Same.refl _, rfl⟩
    (fun i ys H' _ h => ⟨SqL.of (h.1.at (s14.at hC)), SqL.of (h.1.at hp)⟩) ?_ ?_
  · rintro i x z ys H' t hx hz ⟨sm, rfl⟩ ht
    obtain ⟨n, hn, rfl⟩ := ints_at hx
    obtain ⟨m, hm, rfl⟩ := ints_at hz
    have hb := hw n (List.mem_of_getElem? hn)
    refine ⟨t, _, rfl, SqT.of upd_same, rfl, _, _, rfl, _, _, rfl, rfl, ⟨rfl, rfl⟩, _, rfl, _, rfl, _, _, rfl, rfl, .inl ⟨by omega, by omega⟩, sm.new ht _, ?_⟩
    rw [take_snoc (wl_at hn hm), List.map_append]
    rfl
  · rintro ys H' ⟨sm, rfl⟩ D hD
    refine ⟨D, wl ws (dl ns ms), rfl, SqL.of ?_, q _ (s14.trans (sm.new hD _))⟩
    rw [upd_same, List.length_map, ← wl_length (ds := dl ns ms) (by omega), take_all]

theorem ok_upper_row (M : Bn mg) (F : Fun K "upper_row" "upper_row" s_upper_row f fd) : FnOk P w K mg base CX0 2 f fd ["numbers"] spUp := by
  refine F.ok sc_upper_row (fun vs H Q E h => ?_) (fun cdv A outer s H vs Q E hr h => ?_)
  · obtain ⟨a, ns, rfl, _⟩ := h; rfl
  obtain ⟨a, ns, rfl, hA, h1k, q⟩ := h
  refine ⟨_, (pss_cons (ps_set (i := 1) sc_upper_row.nd rfl (Or.inl rfl) (pe_lst pa_nil))
      (pss_cons (ps_for PassesOwn.never rfl (pi_list (pv 0)) (pg_name (i := 2) sc_upper_row.nd rfl (Or.inl rfl) (Or.inl rfl)) (pss_one (ps_expr (pe_bm PySem.F.plainAttrs_list PySem.F.slot_list_append PySem.F.type_list_append mt_append (pv 1) (pa_cons (pe_ifExp (pt_cmpR (op_eqLI hr.units) (pv 1) (pe_lst pa_nil) (nomark _)) (pv 2) (pe_callB (call_max2 rfl) rfl M.max' PyProof.Rows.boot_max (pa_cons (pe_ix ix_list (pv 1) (pe_un un_neg pe_int) (fun _ _ => rfl)) (pa_cons (pv 2) pa_nil)))) pa_nil)))))
      (pss_one (ps_ret (pv 1))))), ?_⟩
  refine ⟨Nat.zero_le _, fun p hp => ?_⟩
  have s0 : Same H (upd H p (.lst [])) := same_new hp _
  refine ⟨_, rfl, a, rfl, ⟨_, SqL.of (s0.at hA)⟩, ?_⟩
  refine for_list (xs := ns.map V.int) (fun i σ H' => Same H H' ∧ ∃ v, σ = [some (.ref a), some (.ref p), v] ∧ H' p = some (.lst ((runL mx (ns.take i)).map V.int))) ⟨s0, _, rfl, upd_same⟩ (fun i σ H' _ h => SqL.of (h.1.at hA)) ?_ ?_
  · rintro i x σ H' hx ⟨sm, v, rfl, hP⟩
    obtain ⟨n, hn, rfl⟩ := ints_at hx
    have hi : i < ns.length := (List.getElem?_eq_some_iff.mp hn).1
    have hlen : (runL mx (ns.take i)).length = i := runL_take _ _ _ (by omega)
    have e1 : runL mx (ns.take (i + 1)) = stp mx (runL mx (ns.take i)) n := by rw [take_snoc hn, runL_snoc]
    refine ⟨_, rfl, .inl ⟨rfl, _, SqL.of hP⟩, _, rfl, Nat.zero_le _, fun e he => ?_⟩
    have s1 : Same H' (upd H' e (.lst [])) := same_new he _
    have sm1 : Same H (upd H' e (.lst [])) := sm.trans s1
    refine ⟨p, e, runL mx (ns.take i), [], rfl, rfl, SqL.of (s1.at hP), SqL.of upd_same, _, rfl, ?_⟩
    rcases List.eq_nil_or_concat (runL mx (ns.take i)) with e0 | ⟨r', m, e0⟩
    · refine iteDT e0 ?_
      refine ⟨_, rfl, p, _, _, rfl, rfl, s1.at hP, ?_, sm1.upd hp _, _, rfl, ?_⟩
      · rw [List.length_map, hlen]; exact small1000 (by omega)
      · rw [upd_same, e1, e0]; rfl
    · rw [List.concat_eq_append] at e0
      refine iteDF (by rw [e0]; simp) ?_
      have hP' : H' p = some (.lst (r'.map V.int ++ [V.int m])) := by rw [hP, e0, List.map_append]; rfl
      refine ⟨_, rfl, _, rfl, p, _, _, _, rfl, rfl, SqL.of (s1.at hP'), atI_last _ _, _, rfl, _, _, rfl, p, _, _, rfl, rfl, s1.at hP, ?_, sm1.upd hp _, _, rfl, ?_⟩
      · rw [List.length_map, hlen]; exact small1000 (by omega)
      · rw [upd_same, e1, e0]
        unfold stp
        rw [List.getLast?_append]
        simp [mx]
  · rintro σ H' ⟨sm, v, rfl, hP⟩
    refine ⟨_, rfl, q p H' sm hp ?_⟩
    rw [hP, List.length_map, take_all]
    rfl

theorem ok_lower_row (M : Bn mg) (F : Fun K "lower_row" "lower_row" s_lower_row f fd) : FnOk P w K mg base CX0 2 f fd ["numbers"] spLo := by
  refine F.ok sc_lower_row (fun vs H Q E h => ?_) (fun cdv A outer s H vs Q E hr h => ?_)
  · obtain ⟨a, ns, rfl, _⟩ := h; rfl
  obtain ⟨a, ns, rfl, hA, h1k, q⟩ := h
  refine ⟨_, (pss_cons (ps_set (i := 1) sc_lower_row.nd rfl (Or.inl rfl) (pe_lst pa_nil))
      (pss_cons (ps_for PassesOwn.never rfl (pi_rev rfl M.reversed' (pa_cons (pv 0) pa_nil)) (pg_name (i := 2) sc_lower_row.nd rfl (Or.inl rfl) (Or.inl rfl)) (pss_one (ps_expr (pe_bm PySem.F.plainAttrs_list PySem.F.slot_list_append PySem.F.type_list_append mt_append (pv 1) (pa_cons (pe_ifExp (pt_cmpR (op_eqLI hr.units) (pv 1) (pe_lst pa_nil) (nomark _)) (pv 2) (pe_callB (call_min2 rfl) rfl M.min' PyProof.Rows.boot_min (pa_cons (pe_ix ix_list (pv 1) (pe_un un_neg pe_int) (fun _ _ => rfl)) (pa_cons (pv 2) pa_nil)))) pa_nil)))))
      (pss_cons (ps_expr (pe_bm0 PySem.F.plainAttrs_list PySem.F.slot_list_reverse PySem.F.type_list_reverse mt_reverse (pv 1)))
      (pss_one (ps_ret (pv 1)))))), ?_⟩
  refine ⟨Nat.zero_le _, fun p hp => ?_⟩
  have s0 : Same H (upd H p (.lst [])) := same_new hp _
  refine ⟨_, rfl, a, _, rfl, SqL.of (s0.at hA), ?_⟩
  refine for_rev (xs := ns.map V.int) (fun i σ H' => Same H H' ∧ ∃ v, σ = [some (.ref a), some (.ref p), v] ∧ H' p = some (.lst ((runL mn (ns.reverse.take i)).map V.int))) ⟨s0, _, rfl, upd_same⟩ (fun i σ H' _ h => SqL.of (h.1.at hA)) ?_ ?_
  · rintro i x σ H' hi0 hx ⟨sm, v, rfl, hP⟩
    obtain ⟨n, hn0, rfl⟩ := ints_at hx
    rw [List.length_map] at hi0 hn0
    have hn : ns.reverse[i]? = some n := by rw [List.getElem?_reverse hi0]; exact hn0
    have hlen : (runL mn (ns.reverse.take i)).length = i := runL_take _ _ _ (by rw [List.length_reverse]; omega)
    have e1 : runL mn (ns.reverse.take (i + 1)) = stp mn (runL mn (ns.reverse.take i)) n := by rw [take_snoc hn, runL_snoc]
    refine ⟨_, rfl, .inl ⟨rfl, _, SqL.of hP⟩, _, rfl, Nat.zero_le _, fun e he => ?_⟩
    have s1 : Same H' (upd H' e (.lst [])) := same_new he _
    have sm1 : Same H (upd H' e (.lst [])) := sm.trans s1
    refine ⟨p, e, runL mn (ns.reverse.take i), [], rfl, rfl, SqL.of (s1.at hP), SqL.of upd_same, _, rfl, ?_⟩
    rcases List.eq_nil_or_concat (runL mn (ns.reverse.take i)) with e0 | ⟨r', m, e0⟩
    · refine iteDT e0 ?_
      refine ⟨_, rfl, p, _, _, rfl, rfl, s1.at hP, ?_, sm1.upd hp _, _, rfl, ?_⟩
      · rw [List.length_map, hlen]; exact small1000 (by omega)
      · rw [upd_same, e1, e0]; rfl
    · rw [List.concat_eq_append] at e0
      refine iteDF (by rw [e0]; simp) ?_
      have hP' : H' p = some (.lst (r'.map V.int ++ [V.int m])) := by rw [hP, e0, List.map_append]; rfl
      refine ⟨_, rfl, _, rfl, p, _, _, _, rfl, rfl, SqL.of (s1.at hP'), atI_last _ _, _, rfl, _, _, rfl, p, _, _, rfl, rfl, s1.at hP, ?_, sm1.upd hp _, _, rfl, ?_⟩
      · rw [List.length_map, hlen]; exact small1000 (by omega)
      · rw [upd_same, e1, e0]
        unfold stp
        rw [List.getLast?_append]
        simp [mn]
  · rintro σ H' ⟨sm, v, rfl, hP⟩
    refine ⟨_, rfl, .inl ⟨rfl, _, SqL.of hP⟩, p, _, rfl, rfl, hP, ?_⟩
    refine ⟨_, rfl, q p _ (sm.upd hp _) hp ?_⟩
    rw [upd_same, List.length_map, show ns.length = ns.reverse.length from List.length_reverse.symm, take_all, ← List.map_reverse]
    rfl

theorem ok_deepest_fall (M : Bn mg) (F : Fun K "deepest_fall" "deepest_fall" s_deepest_fall f fd) : FnOk P w K mg base CX0 2 f fd ["numbers"] spFall := by
  refine F.ok sc_deepest_fall (fun vs H Q E h => ?_) (fun cdv A outer s H vs Q E hr h => ?_)
  · obtain ⟨a, ns, rfl, _⟩ := h; rfl
  obtain ⟨a, ns, rfl, hA, h1k, q⟩ := h
  refine ⟨_, (pss_cons (ps_set (i := 1) sc_deepest_fall.nd rfl (Or.inl rfl) (pe_tup (pa_cons pe_int (pa_cons pe_int (pa_cons pe_int pa_nil)))))
      (pss_cons (ps_set (i := 2) sc_deepest_fall.nd rfl (Or.inl rfl) pe_int)
      (pss_cons (ps_for PassesOwn.never rfl (pi_enum rfl M.enumerate' (pa_cons (pv 0) pa_nil)) (pg_two (K := K) (i := 3) (j := 4) rfl rfl sc_deepest_fall.nd rfl rfl rfl rfl) (pss_cons (ps_if (pt_cmpR op_gt (pv 4) (pe_ix ix_list (pv 0) (pv 2) (fun _ _ => rfl)) (nomark _)) (pss_one (ps_set (i := 2) sc_deepest_fall.nd rfl (Or.inl rfl) (pv 3))) pss_nil)
      (pss_cons (ps_set (i := 5) sc_deepest_fall.nd rfl (Or.inl rfl) (pe_op op_sub (pe_ix ix_list (pv 0) (pv 2) (fun _ _ => rfl)) (pv 4)))
      (pss_one (ps_if (pt_cmpR op_gt (pv 5) (pe_ix ix_tup (pv 1) pe_int (fun _ _ => rfl)) (nomark _)) (pss_one (ps_set (i := 1) sc_deepest_fall.nd rfl (Or.inl rfl) (pe_tup (pa_cons (pv 2) (pa_cons (pv 3) (pa_cons (pv 5) pa_nil)))))) pss_nil)))))
      (pss_one (ps_ret (pv 1)))))), ?_⟩
  refine ⟨(by show 3 ≤ sizeLine; decide), fun r0 hr0 => ?_⟩
  have s0 : Same H (upd H r0 (.tup [.int 0, .int 0, .int 0])) := same_new hr0 _
  refine ⟨_, rfl, a, rfl, ⟨_, SqL.of (s0.at hA)⟩, ?_⟩
  refine for_enum (xs := ns.map V.int) (fun i σ H' => Same H H' ∧ ∃ (top t p : Nat) (d : Int) (r : Addr) (v3 v4 v5 : Option V), σ = [some (.ref a), some (.ref r), some (.int top), v3, v4, v5] ∧ H' r = some (.tup [.int t, .int p, .int d]) ∧ FallI ns i top t p d)
    ⟨s0, 0, 0, 0, 0, r0, _, _, _, rfl, upd_same, FallI.zero ns⟩ (fun i σ H' _ h => SqL.of (h.1.at hA)) ?_ ?_
  · rintro i x σ H' pp hx ⟨sm, top, t, p, d, r, v3, v4, v5, rfl, hR, hI⟩ hpp
    obtain ⟨n, hn, rfl⟩ := ints_at hx
    have hi : i < ns.length := (List.getElem?_eq_some_iff.mp hn).1
    have en : ns.getD i 0 = n := gd_of hn
    have s1 : Same H' (upd H' pp (.tup [.int i, .int n])) := same_new hpp _
    have smp := sm.trans s1
    have htl : top < ns.length := by rcases hI.tl with z | z <;> omega
    refine ⟨pp, _, rfl, SqT.of upd_same, rfl, _, _, rfl, _, _, rfl, rfl, ?_⟩
    dsimp only [gName]
    refine seq_with (fun σ' H1 => ∃ top' : Nat, H1 = upd H' pp (.tup [.int i, .int n]) ∧ σ' = [some (.ref a), some (.ref r), some (.int top'), some (.int i), some (.int n), v5] ∧ top' = if ns.getD i 0 > ns.getD top 0 then i else top) ?_ (fun cont => ?_)
    · rintro σ' H1 ⟨top', rfl, rfl, ht⟩
      have htl' : top' < ns.length := by rw [ht]; split <;> omega
      obtain ⟨g1, g2⟩ := hI.step hi ht
      refine ⟨_, rfl, _, rfl, a, _, _, _, rfl, rfl, SqL.of (smp.at hA), atI_gd rfl htl', _, rfl, _, _, rfl, rfl, ?_⟩
      refine ⟨_, rfl, _, rfl, r, _, _, _, rfl, rfl, SqT.of (s1.at hR), rfl, _, _, rfl, rfl, _, rfl, ?_⟩
      rw [en] at g1 g2
      by_cases hd : ns.getD top' 0 - n > d
      · rw [decide_eq_true (show d < ns.getD top' 0 - n from hd)]
        refine iteT ⟨_, rfl, _, rfl, _, rfl, (by show 3 ≤ sizeLine; decide), fun r2 hr2 => ?_⟩
        exact ⟨smp.new hr2 _, top', top', i, _, r2, _, _, _, rfl, upd_same, g1 hd⟩
      · rw [decide_eq_false (show ¬ d < ns.getD top' 0 - n from hd)]
        exact iteF ⟨smp, top', t, p, d, r, _, _, _, rfl, s1.at hR, g2 hd⟩
    · refine ⟨_, rfl, _, rfl, _, rfl, a, _, _, _, rfl, rfl, SqL.of (smp.at hA), atI_gd rfl htl, _, _, rfl, rfl, _, rfl, ?_⟩
      by_cases hd : ns.getD top 0 < n
      · rw [decide_eq_true hd]
        refine iteT ⟨_, rfl, cont _ _ ⟨i, rfl, rfl, ?_⟩⟩
        rw [en, if_pos hd]
      · rw [decide_eq_false hd]
        refine iteF (cont _ _ ⟨top, rfl, rfl, ?_⟩)
        rw [en, if_neg hd]
  · rintro σ H' ⟨sm, top, t, p, d, r, v3, v4, v5, rfl, hR, hI⟩
    rw [List.length_map] at hI
    exact ⟨_, rfl, q t p d r H' hI.fall sm hR⟩

theorem ok_least_stands (M : Bn mg) (F_upper_row : FnA P w K mg base "upper_row" ["numbers"] 2 spUp) (F : Fun K "least_stands" "least_stands" s_least_stands f fd) : FnOk P w K mg base CX0 3 f fd ["numbers", "most"] spLeast := by
  refine F.ok sc_least_stands (fun vs H Q E h => ?_) (fun cdv A outer s H vs Q E hr h => ?_)
  · obtain ⟨a, ns, m, rfl, _⟩ := h; rfl
  obtain ⟨a, ns, m, rfl, hA, h1k, q⟩ := h
  refine ⟨_, (pss_one (ps_ret (pe_comp rfl (CompScope.one ["stand"] "most" 1) (pi_list (pe_callA F_upper_row (hr.mono (by decide)) rfl (pa_cons (pv 0) pa_nil))) (fun _ _ _ _ _ => (pg_name (i := 0) (show (["stand", "most"] : List Str).Nodup by decide +kernel) rfl (Or.inl rfl) (Or.inr rfl))) (fun _ _ _ _ _ => (pe_op op_sub (pv 0) (pv 1)))))), ?_⟩
  refine ⟨_, rfl, a, ns, rfl, hA, h1k, fun p H1 s1 hp hP => ⟨p, rfl, ⟨_, SqL.of hP⟩, ?_⟩⟩
  refine comp_list (xs := (upL ns).map V.int) (len_map_le (by rw [upL_length]; exact h1k)) (fun i ys H' => H' = H1 ∧ ys = (((upL ns).take i).map fun x => x - m).map V.int) ⟨rfl, rfl⟩ (fun i ys H' _ h => by rw [h.1]; exact SqL.of hP) ?_ ?_
  · rintro i x ys H' hx ⟨rfl, rfl⟩
    obtain ⟨z, hz, rfl⟩ := ints_at hx
    refine ⟨⟨rfl, rfl⟩, _, rfl, _, rfl, _, _, rfl, rfl, rfl, ?_⟩
    rw [map_snoc _ hz, List.map_append]
    rfl
  · rintro ys H' ⟨rfl, rfl⟩ D hD
    refine q D _ (s1.new hD _) (s1.free hD) ?_
    rw [upd_same, List.length_map, take_all]

theorem ok_Evened___init__ (M : Bn mg) (C_Evened : ClsA K mg "Evened" c.Evened) (N_Evened : NaEvened K c.Evened) (F : Fun K "__init__" "Evened.__init__" s_Evened___init__ f fd) : FnOk P w K mg base CX0 1 f fd ["self", "row", "first", "second"] (spEvInit c) := by
  refine F.ok sc_Evened___init__ (fun vs H Q E h => ?_) (fun cdv A outer s H vs Q E hr h => ?_)
  · obtain ⟨x, r, dx, row, i, j, rfl, _⟩ := h; rfl
  obtain ⟨x, r, dx, row, i, j, rfl, hx, hR, q⟩ := h
  refine ⟨_, (pss_cons (ps_fld (pv 0) (pe_callTy call_list_of rfl M.list' boot_listT (pa_cons (pv 1) pa_nil)) rfl)
      (pss_cons (ps_fld (pv 0) (pv 2) rfl)
      (pss_one (ps_fld (pv 0) (pv 3) rfl)))), ?_⟩
  refine ⟨_, rfl, r, _, rfl, .inl (SqL.of hR), fun l hl => ?_⟩
  have nxl : x ≠ l := ne_of_none hx hl
  refine ⟨_, rfl, x, _, dx, _, rfl, (by rw [upd_ne nxl]; exact hx), C_Evened.cl, N_Evened.r, (by show 0 < 1000; decide), ?_⟩
  refine ⟨_, rfl, _, rfl, x, _, dx, _, rfl, upd_same, C_Evened.cl, N_Evened.f, (Nat.lt_of_le_of_lt (length_putF _ _ _) (by show 0 + 1 < 1000; decide)), ?_⟩
  refine ⟨_, rfl, _, rfl, x, _, dx, _, rfl, upd_same, C_Evened.cl, N_Evened.s, (Nat.lt_of_le_of_lt (length_putF _ _ _) (Nat.lt_of_le_of_lt (Nat.succ_le_succ (length_putF _ _ _)) (by show 0 + 1 + 1 < 1000; decide))), ?_⟩
  refine q l _ hl ⟨⟨dx, _, upd_same, ?_, ?_, ?_, ?_⟩, ?_⟩ fun b o e hb => ?_
  · rw [lookup_putF, if_neg (by decide +kernel), lookup_putF, if_neg (by decide +kernel), lookup_putF, if_pos rfl]
  · rw [lookup_putF, if_neg (by decide +kernel), lookup_putF, if_pos rfl]
  · rw [lookup_putF, if_pos rfl]
  · rw [lookup_putF, if_neg (by decide +kernel), lookup_putF, if_neg (by decide +kernel), lookup_putF, if_neg (by decide +kernel)]; rfl
  · rw [upd_ne nxl.symm, upd_ne nxl.symm, upd_ne nxl.symm, upd_same]
  · rw [upd_ne hb, upd_ne hb, upd_ne hb, upd_ne (ne_of_none e hl)]; exact e

theorem ok_evened (M : Bn mg) (F_check_numbers : FnA P w K mg base "check_numbers" ["numbers"] 4 spChk1) (F_deepest_fall : FnA P w K mg base "deepest_fall" ["numbers"] 2 spFall) (F_least_stands : FnA P w K mg base "least_stands" ["numbers", "most"] 3 spLeast) (F_Evened___init__ : MakeA P w K mg base "Evened" c.Evened ["self", "row", "first", "second"] 1 (spEvInit c)) (F : Fun K "evened" "evened" s_evened f fd) : FnOk P w K mg base CX0 8 f fd ["numbers"] (spEvened c) := by
  refine F.ok sc_evened (fun vs H Q E h => ?_) (fun cdv A outer s H vs Q E hr h => ?_)
  · obtain ⟨a, ns, rfl, _⟩ := h; rfl
  obtain ⟨a, ns, rfl, hA, h1, q⟩ := h
  refine ⟨_, (pss_cons (ps_expr (pe_callA F_check_numbers (hr.mono (by decide)) rfl (pa_cons (pv 0) pa_nil)))
      (pss_cons (ps_set (i := 1) sc_evened.nd rfl (Or.inl rfl) (pe_callA F_deepest_fall (hr.mono (by decide)) rfl (pa_cons (pv 0) pa_nil)))
      (pss_cons (ps_set (i := 2) sc_evened.nd rfl (Or.inl rfl) (pe_op op_fdivB (pe_op op_add (pe_ix ix_tup (pv 1) pe_int (fun _ _ => rfl)) pe_int) pe_int))
      (pss_one (ps_ret (pe_makeA F_Evened___init__ (hr.mono (by decide)) rfl (pa_cons (pe_callA F_least_stands (hr.mono (by decide)) rfl (pa_cons (pv 0) (pa_cons (pv 2) pa_nil))) (pa_cons (pe_ix ix_tup (pv 1) pe_int (fun _ _ => rfl)) (pa_cons (pe_ix ix_tup (pv 1) pe_int (fun _ _ => rfl)) pa_nil))))))))), ?_⟩
  refine ⟨_, rfl, a, ns, rfl, hA, h1, fun H1 s1 => ?_⟩
  refine ⟨_, rfl, a, ns, rfl, s1.at hA, h1, fun t p d r H2 hF s2 hR => ?_⟩
  have s12 := s1.trans s2
  refine ⟨_, rfl, r, _, _, _, rfl, rfl, SqT.of hR, rfl, _, _, rfl, rfl, _, _, rfl, rfl, ⟨by decide, by decide⟩, ?_⟩
  refine ⟨_, rfl, _, rfl, a, ns, _, rfl, s12.at hA, h1, fun l H3 s3 hl hL => ?_⟩
  have s13 := s12.trans s3
  refine ⟨_, rfl, r, _, _, _, rfl, rfl, SqT.of (s3.at hR), rfl, _, rfl, r, _, _, _, rfl, rfl, SqT.of (s3.at hR), rfl, fun x dx hx hdx hne => ?_⟩
  have s4 : Same H3 (upd (upd H3 dx (.own x)) x (.ins c.Evened dx [])) := same_own hx hdx
  refine ⟨x, l, dx, _, _, _, rfl, upd_same, s4.at hL, fun l' H5 hl' hX kp => ⟨rfl, ?_⟩⟩
  have s35 : Same H3 H5 := kp.same s4 hx
  exact q x l' _ _ _ H5 hX (s13.trans s35) (s13.free hx) (s13.free (s4.free hl')) (evened_ok hF)

end
end K1

set_option Elab.async false
set_option linter.all false
set_option maxRecDepth 100000
set_option maxHeartbeats 8000000
namespace K1
open PySem L2 Fr1 Up
section
variable {P : Program} {w : World} {K : PySem.W.Frag} {mg : Str → Option Value} {base : Heap} {f : Addr} {fd : FuncData} {c : CA}
theorem ok_is_less (M : Bn mg) (F : Fun K "is_less" "is_less" s_is_less f fd) : FnOk P w K mg base CX0 1 f fd ["one", "other"] spLess := by
  refine F.ok sc_is_less (fun vs H Q E h => ?_) (fun cdv A outer s H vs Q E hr h => ?_)
  · obtain ⟨a, c, a0, a1, c0, c1, xa, xc, rfl, _⟩ := h; rfl
  obtain ⟨a, c, a0, a1, c0, c1, xa, xc, rfl, hA, hC, e1, e2, e3, e4, p1, p2, p3, p4, q⟩ := h
  refine ⟨_, (pss_one (ps_ret (pe_cmpR op_lt (pe_op op_mul (pe_ix ix_tup (pv 0) pe_int (fun _ _ => rfl)) (pe_ix ix_tup (pv 1) pe_int (fun _ _ => rfl))) (pe_op op_mul (pe_ix ix_tup (pv 1) pe_int (fun _ _ => rfl)) (pe_ix ix_tup (pv 0) pe_int (fun _ _ => rfl))) (nomark _)))), ?_⟩
  exact ⟨_, rfl, a, _, 0, _, rfl, rfl, SqT.of hA, atI_0 e1, _, rfl, c, _, 1, _, rfl, rfl, SqT.of hC, atI_1 e4, _, _, rfl, rfl, .inr ⟨by omega, by omega⟩, _, rfl, c, _, 0, _, rfl, rfl, SqT.of hC, atI_0 e3, _, rfl, a, _, 1, _, rfl, rfl, SqT.of hA, atI_1 e2, _, _, rfl, rfl, .inr ⟨by omega, by omega⟩, _, _, rfl, rfl, q⟩

theorem ok_Squared___init__ (M : Bn mg) (C_Squared : ClsA K mg "Squared" c.Squared) (N_Squared : NaSquared K c.Squared) (F : Fun K "__init__" "Squared.__init__" s_Squared___init__ f fd) : FnOk P w K mg base CX0 1 f fd ["self", "row"] (spSqInit c) := by
  refine F.ok sc_Squared___init__ (fun vs H Q E h => ?_) (fun cdv A outer s H vs Q E hr h => ?_)
  · obtain ⟨x, r, dx, rs, fs, rfl, _⟩ := h; rfl
  obtain ⟨x, r, dx, rs, fs, rfl, hx, hR, hF, q⟩ := h
  refine ⟨_, (pss_one (ps_fld (pv 0) (pe_callTy call_list_of rfl M.list' boot_listT (pa_cons (pv 1) pa_nil)) rfl)), ?_⟩
  refine ⟨_, rfl, r, _, rfl, .inl (SqL.of hR), fun l hl => ?_⟩
  have nxl : x ≠ l := ne_of_none hx hl
  refine ⟨_, rfl, x, _, dx, _, rfl, (by rw [upd_ne nxl]; exact hx), C_Squared.cl, N_Squared.r, (by show 0 < 1000; decide), ?_⟩
  have kp : Kept H (upd (upd H l (.lst (rs.map V.ref))) x (.ins c.Squared dx (putF "row" (.ref l) []))) x := fun b o e hb => by rw [upd_ne hb, upd_ne (ne_of_none e hl)]; exact e
  refine q l _ hl ⟨⟨dx, _, upd_same, ?_, ?_⟩, ?_, hF.1, fun i u f e1 e2 => ?_⟩ kp
  · rw [lookup_putF, if_pos rfl]
  · rw [lookup_putF, if_neg (by decide +kernel)]; rfl
  · rw [upd_ne nxl.symm, upd_same]
  · have z := hF.2 i u f e1 e2
    exact kp _ _ z (ne_of z hx (by intro w; cases w))

theorem ok_joined (M : Bn mg) (F : Fun K "joined" "joined" s_joined f fd) : FnOk P w K mg base CX0 1 f fd ["one", "other"] spJoin := by
  refine F.ok sc_joined (fun vs H Q E h => ?_) (fun cdv A outer s H vs Q E hr h => ?_)
  · obtain ⟨a, b, s', t', rfl, _⟩ := h; rfl
  obtain ⟨a, b, s', t', rfl, hA, hB, q⟩ := h
  refine ⟨_, (pss_one (ps_ret (pe_tup (pa_cons (pe_op op_add (pe_ix ix_tup (pv 0) pe_int (fun _ _ => rfl)) (pe_ix ix_tup (pv 1) pe_int (fun _ _ => rfl))) (pa_cons (pe_op op_add (pe_ix ix_tup (pv 0) pe_int (fun _ _ => rfl)) (pe_ix ix_tup (pv 1) pe_int (fun _ _ => rfl))) (pa_cons (pe_op op_add (pe_ix ix_tup (pv 0) pe_int (fun _ _ => rfl)) (pe_ix ix_tup (pv 1) pe_int (fun _ _ => rfl))) pa_nil)))))), ?_⟩
  exact ⟨_, rfl, a, _, 0, _, rfl, rfl, SqT.of hA, rfl, _, rfl, b, _, 0, _, rfl, rfl, SqT.of hB, rfl, _, _, rfl, rfl, _, rfl, a, _, 1, _, rfl, rfl, SqT.of hA, rfl, _, rfl, b, _, 1, _, rfl, rfl, SqT.of hB, rfl, _, _, rfl, rfl, _, rfl, a, _, 2, _, rfl, rfl, SqT.of hA, rfl, _, rfl, b, _, 2, _, rfl, rfl, SqT.of hB, rfl, _, _, rfl, rfl,
    (by show 3 ≤ sizeLine; decide), fun p hp => q p hp⟩

theorem ok_level_runs (M : Bn mg) (F_is_less : FnA P w K mg base "is_less" ["one", "other"] 1 spLess) (F_joined : FnA P w K mg base "joined" ["one", "other"] 1 spJoin) (F : Fun K "level_runs" "level_runs" s_level_runs f fd) : FnOk P w K mg base CX0 2 f fd ["numbers", "weights"] spRuns := by
  refine F.ok sc_level_runs (fun vs H Q E h => ?_) (fun cdv A outer s H vs Q E hr h => ?_)
  · obtain ⟨a, b, ns, ws, rfl, _⟩ := h; rfl
  obtain ⟨a, b, ns, ws, rfl, hA, hB, h1k, hl, hw, q⟩ := h
  refine ⟨_, (pss_cons (ps_set (i := 2) sc_level_runs.nd rfl (Or.inl rfl) (pe_lst pa_nil))
      (pss_cons (ps_for PassesOwn.never rfl (pi_zip rfl M.zip' (pa_cons (pv 0) (pa_cons (pv 1) pa_nil))) (pg_two (K := K) (i := 3) (j := 4) rfl rfl sc_level_runs.nd rfl rfl rfl rfl) (pss_cons (ps_set (i := 5) sc_level_runs.nd rfl (Or.inl rfl) (pe_tup (pa_cons (pe_op op_mul (pv 3) (pv 4)) (pa_cons (pv 4) (pa_cons pe_int pa_nil)))))
      (pss_cons (ps_while PassesOwn.never (PW.pt (pw_and (pt_cmpR (op_neE hr.units) (pv 2) (pe_lst pa_nil) (nomark _)) (pw_and1 (pt_not (pt_val (pe_callA F_is_less (hr.mono (by decide)) rfl (pa_cons (pe_ix ix_list (pv 2) (pe_un un_neg pe_int) (fun _ _ => rfl)) (pa_cons (pv 5) pa_nil)))))))) (pss_one (ps_set (i := 5) sc_level_runs.nd rfl (Or.inl rfl) (pe_callA F_joined (hr.mono (by decide)) rfl (pa_cons (pe_bm0 PySem.F.plainAttrs_list PySem.F.slot_list_pop PySem.F.type_list_pop mt_pop (pv 2)) (pa_cons (pv 5) pa_nil))))))
      (pss_one (ps_expr (pe_bm PySem.F.plainAttrs_list PySem.F.slot_list_append PySem.F.type_list_append mt_append (pv 2) (pa_cons (pv 5) pa_nil)))))))
      (pss_one (ps_ret (pv 2))))), ?_⟩
  refine ⟨Nat.zero_le _, fun p hp => ?_⟩
  have s0 : Same H (upd H p (.lst [])) := same_new hp _
  have mB := SB_mono hw.one
  refine ⟨_, rfl, _, rfl, a, b, rfl, ⟨_, SqL.of (s0.at hA)⟩, ⟨_, SqL.of (s0.at hB)⟩, ?_⟩
  refine for_zip (xs := ns.map V.int) (zs := ws.map V.int) (by rw [List.length_map, List.length_map, hl]) (fun i σ H' => Same H H' ∧ ∃ (rr : List Addr) (rs : List (Int × Int × Int)) (v3 v4 v5 : Option V), σ = [some (.ref a), some (.ref b), some (.ref p), v3, v4, v5] ∧ H' p = some (.lst (rr.map V.ref)) ∧ TrAt H' rr rs ∧ Runs (SA ns ws) (SB ws) rs i ∧ rs.length ≤ i)
    ⟨s0, [], [], _, _, _, rfl, upd_same, ⟨rfl, fun i r t e => by simp at e⟩, .nil, Nat.le_refl _⟩ (fun i σ H' _ h => ⟨SqL.of (h.1.at hA), SqL.of (h.1.at hB)⟩) ?_ ?_
  · rintro i x z σ H' pp hx hz ⟨sm, rr, rs, v3, v4, v5, rfl, hP, hT, hRuns, hrl⟩ hpp
    obtain ⟨n, hn, rfl⟩ := ints_at hx
    obtain ⟨w', hw', rfl⟩ := ints_at hz
    have hi : i < ns.length := (List.getElem?_eq_some_iff.mp hn).1
    have en : ns.getD i 0 = n := gd_of hn
    have ew : ws.getD i 0 = w' := gd_of hw'
    have hwb := hw w' (List.mem_of_getElem? hw')
    have s1 : Same H' (upd H' pp (.tup [.int n, .int w'])) := same_new hpp _
    refine ⟨pp, _, rfl, SqT.of upd_same, rfl, _, _, rfl, _, _, rfl, rfl, ?_⟩
    refine ⟨_, rfl, _, rfl, _, _, rfl, rfl, .inr ⟨by omega, by omega⟩, _, rfl, (by show 3 ≤ sizeLine; decide), fun ru hru => ?_⟩
    have s2 := same_new hru (.tup [.int (n * w'), .int w', .int 1])
    have s12 := s1.trans s2
    have b0 : Blk (SA ns ws) (SB ws) i (i + 1) (n * w') w' := Blk.one (by show SA ns ws i + ns.getD i 0 * ws.getD i 0 = _; rw [en, ew]) (by show SB ws i + ws.getD i 0 = _; rw [ew]) (by omega)
    refine while_by (fun σ H1 => Same H H1 ∧ ∃ (rr : List Addr) (rs : List (Int × Int × Int)) (lo : Nat) (S W : Int) (ru : Addr), σ = [some (.ref a), some (.ref b), some (.ref p), some (.int n), some (.int w'), some (.ref ru)] ∧ H1 p = some (.lst (rr.map V.ref)) ∧ TrAt H1 rr rs ∧ Runs (SA ns ws) (SB ws) rs lo ∧ Blk (SA ns ws) (SB ws) lo (i + 1) S W ∧
        H1 ru = some (.tup [.int S, .int W, .int ((i : Int) + 1 - lo)]) ∧ rs.length ≤ i)
      (fun _ H1 => match H1 p with | some (.lst xs) => xs.length | _ => 0) ⟨sm.trans s12, rr, rs, i, _, _, ru, rfl, s12.at hP, hT.same s12, hRuns, b0, ?_, hrl⟩ ?_
      (mono_and (mono_test (mono_op mono_rLE (mono_var _) (mono_lst mono_nil))) (mono_not (mono_B (mono_call (fun vs H Q Q' h ⟨a, c, a0, a1, c0, c1, xa, xc, e, h1, h2, h3, h4, h5, h6, h7, h8, h9, h10, q⟩ => ⟨a, c, a0, a1, c0, c1, xa, xc, e, h1, h2, h3, h4, h5, h6, h7, h8, h9, h10, h _ _ q⟩)
        (mono_cons (mono_op mono_rIxL (mono_var _) (mono_un mono_rU (mono_c _))) (mono_cons (mono_var _) mono_nil))))))
    · rw [upd_same, show ((i : Int) + 1 - (i : Int)) = 1 by omega]
    rintro σ H1 ⟨sm1, rr, rs, lo, S, W, ru, rfl, hP, hT, hRuns, hBk, hru, hrl⟩
    refine ⟨_, rfl, Nat.zero_le _, fun e he => ⟨p, e, _, rfl, rfl, SqL.of ((same_new he _).at hP), SqL.of upd_same, _, rfl, ?_⟩⟩
    have se : Same H1 (upd H1 e (.lst [])) := same_new he _
    rcases List.eq_nil_or_concat rs with e0 | ⟨rs', t, e0⟩
    · have hrr : rr = [] := by have := hT.1; rw [e0] at this; exact List.eq_nil_of_length_eq_zero this
      have hz : (rr.map V.ref).isEmpty = true := by rw [hrr]; rfl
      rw [hz]
      exact iteF (iteF ⟨_, rfl, .inl ⟨rfl, _, SqL.of (se.at hP)⟩, _, rfl, p, _, _, rfl, rfl, se.at hP, (by rw [List.length_map, hT.1]; exact small1000 (by omega)), (sm1.trans se).upd hp _, _, _, _, _, _, rfl, (by rw [upd_same]; exact (congrArg (fun l => some (HO.lst l)) (List.map_append (l₁ := _) (l₂ := [ru]) (f := V.ref)).symm)),
          ((hT.same se).snoc (u := ru) (t := (S, W, (((i + 1 : Nat) : Int) - (lo : Int)))) (se.at hru)).upd (se.at hP) _, .snoc hRuns hBk (fun r hr => by rw [e0] at hr; simp at hr), (by rw [List.length_append]; show _ + 1 ≤ _; omega)⟩)
    · rw [List.concat_eq_append] at e0
      subst e0
      rcases List.eq_nil_or_concat rr with e1 | ⟨rr', u, e1⟩
      · have := hT.1
        rw [e1, List.length_append] at this
        simp at this
      rw [List.concat_eq_append] at e1
      subst e1
      have hz : ((rr' ++ [u]).map V.ref).isEmpty = false := by rw [List.map_append]; simp
      rw [hz]
      refine iteT ?_
      obtain ⟨hT', hU⟩ := hT.init
      obtain ⟨lo', hRuns', hBk', hcnt⟩ := hRuns.inv
      have hi1 : i + 1 ≤ 1000 := by omega
      have sm1' := Blk.small hw hBk hi1
      have sm2' := Blk.small hw hBk' (by have := hBk.lt; omega)
      have hP2 : H1 p = some (.lst (rr'.map V.ref ++ [.ref u])) := by rw [hP, List.map_append]; rfl
      refine ⟨_, rfl, _, rfl, p, _, _, _, rfl, rfl, SqL.of (se.at hP2), atI_last _ _, _, rfl, u, ru, _, _, _, _, _, _, rfl, se.at hU, se.at hru, rfl, rfl, rfl, rfl, sm2'.1, sm2'.2, sm1'.1, sm1'.2, _, rfl, ?_⟩
      by_cases hlt : t.1 * W < S * t.2.1
      · exact iteNF hlt ⟨_, rfl, .inl ⟨rfl, _, SqL.of (se.at hP)⟩, _, rfl, p, _, _, rfl, rfl, se.at hP, (by rw [List.length_map, hT.1]; exact small1000 (by omega)), (sm1.trans se).upd hp _, _, _, _, _, _, rfl, (by rw [upd_same]; exact (congrArg (fun l => some (HO.lst l)) (List.map_append (l₁ := _) (l₂ := [ru]) (f := V.ref)).symm)),
          ((hT.same se).snoc (u := ru) (t := (S, W, (((i + 1 : Nat) : Int) - (lo : Int)))) (se.at hru)).upd (se.at hP) _, .snoc hRuns hBk (fun r hr => by rw [List.getLast?_append] at hr; have hr' : r = t := (by simpa using hr.symm); rw [hr']; exact hlt), (by rw [List.length_append]; show _ + 1 ≤ _; omega)⟩
      · refine iteNT hlt ?_
        refine ⟨_, rfl, .inl ⟨rfl, _, SqL.of (se.at hP2)⟩, p, _, .ref u, rfl, rfl, se.at hP2, (by rw [List.length_append]; show (rr'.map V.ref ++ [V.ref u])[(rr'.map V.ref).length + 1 - 1]? = _; rw [Nat.add_sub_cancel, List.getElem?_append_right (Nat.le_refl _), Nat.sub_self]; rfl), ?_⟩
        rw [List.dropLast_concat]
        have npu : u ≠ p := ne_of hU hP (by intro w; cases w)
        have npr : ru ≠ p := ne_of hru hP (by intro w; cases w)
        refine ⟨_, rfl, u, ru, t, (S, W, (i : Int) + 1 - lo), rfl, (by rw [upd_ne npu]; exact se.at hU), (by rw [upd_ne npr]; exact se.at hru), fun nu hnu => ?_⟩
        have sd := same_new hnu (.tup [.int (t.1 + S), .int (t.2.1 + W), .int (t.2.2 + ((i : Int) + 1 - lo))])
        have hPd : (upd (upd (upd H1 e (.lst [])) p (.lst (rr'.map V.ref))) nu (.tup [.int (t.1 + S), .int (t.2.1 + W), .int (t.2.2 + ((i : Int) + 1 - lo))])) p = some (.lst (rr'.map V.ref)) := sd.at upd_same
        refine ⟨⟨((sm1.trans se).upd hp _).trans sd, rr', rs', lo', t.1 + S, t.2.1 + W, nu, rfl, hPd, ((hT'.same se).upd (se.at hP) _).same sd, hRuns', hBk'.join mB hBk (by omega), ?_, ?_⟩, ?_⟩
        · rw [upd_same, hcnt, show ((lo : Int) - (lo' : Int) + ((i : Int) + 1 - (lo : Int))) = (i : Int) + 1 - (lo' : Int) by omega]
        · rw [List.length_append] at hrl
          have : [t].length = 1 := rfl
          omega
        · rw [hPd, hP]
          simp
  · rintro σ H' ⟨sm, rr, rs, v3, v4, v5, rfl, hP, hT, hRuns, _⟩
    rw [List.length_map] at hRuns
    exact ⟨_, rfl, q p rr rs H' sm hp hP hT hRuns⟩

theorem ok_put_in (M : Bn mg) (F : Fun K "put_in" "put_in" s_put_in f fd) : FnOk P w K mg base CX0 1 f fd ["heap", "value", "share"] spPut := by
  refine F.ok sc_put_in (fun vs H Q E h => ?_) (fun cdv A outer s H vs Q E hr h => ?_)
  · obtain ⟨h, hs, n, f, v, s', rfl, _⟩ := h; rfl
  obtain ⟨h, hs, n, f0, v, s', rfl, hP, hH, hn, hok, hpos, hs0, q⟩ := h
  refine ⟨_, (pss_cons (ps_expr (pe_bm PySem.F.plainAttrs_list PySem.F.slot_list_append PySem.F.type_list_append mt_append (pv 0) (pa_cons (pe_tup (pa_cons (pv 1) (pa_cons (pv 2) pa_nil))) pa_nil)))
      (pss_cons (ps_set (i := 3) sc_put_in.nd rfl (Or.inl rfl) (pe_op op_sub (pe_callB call_len_seq rfl M.len' PySem.boot_len (pa_cons (pv 0) pa_nil)) pe_int))
      (pss_cons (ps_while PassesOwn.never (PW.pt (pw_and (pt_cmpR op_gt (pv 3) pe_int (nomark _)) (pw_and1 (pt_cmpR op_lt (pe_ix ix_tup (pe_ix ix_list (pv 0) (pe_op op_fdivB (pe_op op_sub (pv 3) pe_int) pe_int) (fun _ _ => rfl)) pe_int (fun _ _ => rfl)) (pv 1) (nomark _))))) (pss_cons (ps_asg (pe_ix ix_list (pv 0) (pe_op op_fdivB (pe_op op_sub (pv 3) pe_int) pe_int) (fun _ _ => rfl)) (pg_sub (pv 0) (pv 3) set_list))
      (pss_one (ps_set (i := 3) sc_put_in.nd rfl (Or.inl rfl) (pe_op op_fdivB (pe_op op_sub (pv 3) pe_int) pe_int)))))
      (pss_one (ps_asg (pe_tup (pa_cons (pv 1) (pa_cons (pv 2) pa_nil))) (pg_sub (pv 0) (pv 3) set_list)))))), ?_⟩
  refine ⟨_, rfl, .inl ⟨rfl, _, SqL.of hP⟩, _, rfl, _, rfl, (by show 2 ≤ sizeLine; decide), fun t ht => ?_⟩
  have s1 := same_new ht (.tup [.int v, .int s'])
  refine ⟨h, _, _, rfl, rfl, s1.at hP, (by rw [List.length_map, hH.1]; exact small1000 (by omega)), ?_⟩
  have k0 : Kept H (upd (upd H t (.tup [.int v, .int s'])) h (.lst (hs.map V.ref ++ [.ref t]))) h := (Kept.ofSame s1).trans kept_upd
  have hA0 : HpAt (upd (upd H t (.tup [.int v, .int s'])) h (.lst (hs.map V.ref ++ [.ref t]))) (hs ++ [t]) (n + 1) (fset f0 n (v, s')) := ((hH.same s1).snoc (y := (v, s')) upd_same).kept (s1.at hP) kept_upd
  generalize hH2 : upd (upd H t (.tup [.int v, .int s'])) h (.lst (hs.map V.ref ++ [.ref t])) = H2 at k0 hA0 ⊢
  have hP2 : H2 h = some (.lst ((hs ++ [t]).map V.ref)) := by rw [← hH2, upd_same, List.map_append]; rfl
  refine ⟨_, rfl, h, _, rfl, .inl (SqL.of hP2), _, _, rfl, rfl, ?_⟩
  have eL : (((((hs ++ [t]).map V.ref).length : Nat) : Int) - 1) = ((n : Nat) : Int) := by rw [List.length_map, List.length_append, hH.1]; show ((n + 1 : Nat) : Int) - 1 = _; omega
  refine while_by (fun σ H1 => Kept H H1 h ∧ ∃ (hs1 : List Addr) (f : PF) (pl : Nat), σ = [some (.ref h), some (.int v), some (.int s'), some (.int pl)] ∧ H1 h = some (.lst (hs1.map V.ref)) ∧ HpAt H1 hs1 (n + 1) f ∧ PutI f0 f n pl (v, s'))
    (fun σ _ => match σ with | [_, _, _, some (.int p)] => p.toNat | _ => 0) ⟨k0, _, _, n, congrArg (fun z => [some (V.ref h), some (V.int v), some (V.int s'), some (V.int z)]) eL, hP2, hA0, PutI.start hok hpos hs0⟩ ?_
    (mono_and (mono_test (mono_op mono_rI0 (mono_var _) (mono_c _))) (mono_test (mono_op mono_rI0 (mono_op mono_rIxT (mono_op mono_rIxL (mono_var _) (mono_op mono_rI (mono_op mono_rI0 (mono_var _) (mono_c _)) (mono_c _))) (mono_c _)) (mono_var _))))
  rintro σ H1 ⟨kp, hs1, f, pl, rfl, hP1, hH1, hI⟩
  have hlt := hI.lt
  have fin : pl = 0 ∨ ¬ ((f (par pl)).1 < v) → ∀ t', H1 t' = none → Q .non (upd (upd H1 t' (.tup [.int v, .int s'])) h (.lst ((hs1.map V.ref).set pl (.ref t')))) := fun hd t' ht' => by
    have s2 := same_new ht' (.tup [.int v, .int s'])
    refine q (hs1.set pl t') (fset f pl (v, s')) _ (kp.trans ((Kept.ofSame s2).trans kept_upd)) (by rw [upd_same, set_map]) (((hH1.same s2).set hlt (y := (v, s')) upd_same).kept (s2.at hP1) kept_upd) (hI.done hd) hI.pos hI.sum
  refine ⟨_, rfl, _, _, rfl, rfl, _, rfl, iteD (fun g1 => ?_) (fun g1 => ?_)⟩
  · have hp0 : 0 < pl := by omega
    have hpp : par pl < n + 1 := by unfold par; omega
    obtain ⟨r, hr, hR⟩ := hH1.2 (par pl) hpp
    have aR : atI (hs1.map V.ref) (((pl : Int) - 1) / 2) = some (.ref r) := by rw [par_int hp0]; exact atI_nat (at_refs hr)
    refine ⟨_, rfl, _, rfl, _, _, rfl, rfl, _, _, rfl, rfl, ⟨by decide, by decide⟩, h, _, _, _, rfl, rfl, SqL.of hP1, aR, r, _, _, _, rfl, rfl, SqT.of hR, rfl, _, rfl, _, _, rfl, rfl, _, rfl, iteD (fun g2 => ?_) (fun g2 => ?_)⟩
    · refine ⟨_, rfl, _, rfl, _, _, rfl, rfl, _, _, rfl, rfl, ⟨by decide, by decide⟩, h, _, _, _, rfl, rfl, SqL.of hP1, aR, _, rfl, _, rfl, h, _, _, pl, rfl, rfl, hP1, ixN_nat (by rw [List.length_map, hH1.1]; exact hlt), ?_⟩
      refine ⟨_, rfl, _, _, rfl, rfl, _, _, rfl, rfl, ⟨by decide, by decide⟩, ?_⟩
      refine ⟨⟨kp.trans kept_upd, hs1.set pl r, fset f pl (f (par pl)), par pl, congrArg (fun z => [some (V.ref h), some (V.int v), some (V.int s'), some (V.int z)]) (par_int hp0), by rw [upd_same, set_map], (hH1.set hlt hR).kept hP1 kept_upd, hI.step hp0 g2⟩, ?_⟩
      show (((pl : Int) - 1) / 2).toNat < ((pl : Nat) : Int).toNat
      omega
    · exact ⟨_, rfl, _, rfl, (by show 2 ≤ sizeLine; decide), fun t' ht' => ⟨_, rfl, _, rfl, h, _, _, pl, rfl, rfl, (same_new ht' _).at hP1, ixN_nat (by rw [List.length_map, hH1.1]; exact hlt), fin (.inr g2) t' ht'⟩⟩
  · exact iteF ⟨_, rfl, _, rfl, (by show 2 ≤ sizeLine; decide), fun t' ht' => ⟨_, rfl, _, rfl, h, _, _, pl, rfl, rfl, (same_new ht' _).at hP1, ixN_nat (by rw [List.length_map, hH1.1]; exact hlt), fin (.inl (by omega)) t' ht'⟩⟩

theorem ok_greater_below (M : Bn mg) (F : Fun K "greater_below" "greater_below" s_greater_below f fd) : FnOk P w K mg base CX0 1 f fd ["heap", "place"] spGrB := by
  refine F.ok sc_greater_below (fun vs H Q E h => ?_) (fun cdv A outer s H vs Q E hr h => ?_)
  · obtain ⟨h, hs, n, f, p, rfl, _⟩ := h; rfl
  obtain ⟨h, hs, n, f, p, rfl, hP, hH, q⟩ := h
  refine ⟨_, (pss_cons (ps_set (i := 2) sc_greater_below.nd rfl (Or.inl rfl) (pe_op op_add (pe_op op_mul pe_int (pv 1)) pe_int))
      (pss_cons (ps_if (PW.pt (pw_and (pt_cmpR op_lt (pe_op op_add (pv 2) pe_int) (pe_callB call_len_seq rfl M.len' PySem.boot_len (pa_cons (pv 0) pa_nil)) (nomark _)) (pw_and1 (pt_cmpR op_gt (pe_ix ix_tup (pe_ix ix_list (pv 0) (pe_op op_add (pv 2) pe_int) (fun _ _ => rfl)) pe_int (fun _ _ => rfl)) (pe_ix ix_tup (pe_ix ix_list (pv 0) (pv 2) (fun _ _ => rfl)) pe_int (fun _ _ => rfl)) (nomark _))))) (pss_one (ps_ret (pe_op op_add (pv 2) pe_int))) pss_nil)
      (pss_one (ps_ret (pv 2))))), ?_⟩
  refine ⟨_, rfl, _, _, rfl, rfl, .inl ⟨by decide, by decide⟩, _, _, rfl, rfl, ?_⟩
  have e1 : (2 * (p : Int) + 1) = ((2 * p + 1 : Nat) : Int) := by omega
  have e2 : (2 * (p : Int) + 1 + 1) = ((2 * p + 2 : Nat) : Int) := by omega
  have leaf : ¬ (2 * p + 2 < n ∧ (f (2 * p + 1)).1 < (f (2 * p + 2)).1) → GrB f n p (2 * p + 1) := fun hn => ⟨.inl rfl, fun c c0 cn cp => by
    rcases (par_kids p c c0).mp cp with z | z
    · subst z; exact ⟨cn, Int.le_refl _⟩
    · subst z; refine ⟨by omega, ?_⟩
      refine Classical.byContradiction fun w => hn ⟨cn, by omega⟩⟩
  refine ⟨_, rfl, _, _, rfl, rfl, _, rfl, h, _, rfl, .inl (SqL.of hP), _, _, rfl, rfl, _, rfl, iteD (fun g1 => ?_) (fun g1 => ?_)⟩
  · rw [List.length_map, hH.1] at g1
    have g1' : 2 * p + 2 < n := by omega
    obtain ⟨r1, hr1, hR1⟩ := hH.2 (2 * p + 1) (by omega)
    obtain ⟨r2, hr2, hR2⟩ := hH.2 (2 * p + 2) g1'
    refine ⟨_, rfl, _, rfl, _, _, rfl, rfl, h, _, _, _, rfl, rfl, SqL.of hP, (by rw [e2]; exact atI_nat (at_refs hr2)), r2, _, _, _, rfl, rfl, SqT.of hR2, rfl, _, rfl, _, rfl, h, _, _, _, rfl, rfl, SqL.of hP, (by rw [e1]; exact atI_nat (at_refs hr1)), r1, _, _, _, rfl, rfl, SqT.of hR1, rfl, _, _, rfl, rfl, _, rfl, iteD (fun g2 => ?_) (fun g2 => ?_)⟩
    · refine ⟨_, rfl, _, _, rfl, rfl, ?_⟩
      show Q (.int (2 * (p : Int) + 1 + 1)) H
      rw [e2]
      refine q (2 * p + 2) ⟨.inr rfl, fun c c0 cn cp => ⟨g1', ?_⟩⟩
      rcases (par_kids p c c0).mp cp with z | z
      · subst z; omega
      · subst z; exact Int.le_refl _
    · refine ⟨_, rfl, ?_⟩
      show Q (.int (2 * (p : Int) + 1)) H
      rw [e1]
      exact q _ (leaf fun z => g2 z.2)
  · refine iteF ⟨_, rfl, ?_⟩
    show Q (.int (2 * (p : Int) + 1)) H
    rw [e1]
    refine q _ (leaf fun z => g1 ?_)
    rw [List.length_map, hH.1]
    omega

theorem ok_take_top (M : Bn mg) (F_greater_below : FnA P w K mg base "greater_below" ["heap", "place"] 1 spGrB) (F : Fun K "take_top" "take_top" s_take_top f fd) : FnOk P w K mg base CX0 2 f fd ["heap"] spTake := by
  refine F.ok sc_take_top (fun vs H Q E h => ?_) (fun cdv A outer s H vs Q E hr h => ?_)
  · obtain ⟨h, hs, n, f, rfl, _⟩ := h; rfl
  obtain ⟨h, hs, n, f0, rfl, hP, hH, hok, hpos, q⟩ := h
  refine ⟨_, (pss_cons (ps_set (i := 1) sc_take_top.nd rfl (Or.inl rfl) (pe_bm0 PySem.F.plainAttrs_list PySem.F.slot_list_pop PySem.F.type_list_pop mt_pop (pv 0)))
      (pss_cons (ps_if (pt_cmpR (op_eqE hr.units) (pv 0) (pe_lst pa_nil) (nomark _)) (pss_one ps_retN) pss_nil)
      (pss_cons (ps_set (i := 2) sc_take_top.nd rfl (Or.inl rfl) pe_int)
      (pss_cons (ps_set (i := 3) sc_take_top.nd rfl (Or.inl rfl) (pe_callA F_greater_below (hr.mono (by decide)) rfl (pa_cons (pv 0) (pa_cons (pv 2) pa_nil))))
      (pss_cons (ps_while PassesOwn.never (PW.pt (pw_and (pt_cmpR op_lt (pv 3) (pe_callB call_len_seq rfl M.len' PySem.boot_len (pa_cons (pv 0) pa_nil)) (nomark _)) (pw_and1 (pt_cmpR op_gt (pe_ix ix_tup (pe_ix ix_list (pv 0) (pv 3) (fun _ _ => rfl)) pe_int (fun _ _ => rfl)) (pe_ix ix_tup (pv 1) pe_int (fun _ _ => rfl)) (nomark _))))) (pss_cons (ps_asg (pe_ix ix_list (pv 0) (pv 3) (fun _ _ => rfl)) (pg_sub (pv 0) (pv 2) set_list))
      (pss_cons (ps_set (i := 2) sc_take_top.nd rfl (Or.inl rfl) (pv 3))
      (pss_one (ps_set (i := 3) sc_take_top.nd rfl (Or.inl rfl) (pe_callA F_greater_below (hr.mono (by decide)) rfl (pa_cons (pv 0) (pa_cons (pv 2) pa_nil))))))))
      (pss_one (ps_asg (pv 1) (pg_sub (pv 0) (pv 2) set_list)))))))), ?_⟩
  obtain ⟨hs', u, rfl, hH', hU⟩ := hH.init
  have hP' : H h = some (.lst (hs'.map V.ref ++ [.ref u])) := by rw [hP, List.map_append]; rfl
  refine ⟨_, rfl, .inl ⟨rfl, _, SqL.of hP'⟩, h, _, .ref u, rfl, rfl, hP', (by rw [List.length_append]; show (hs'.map V.ref ++ [V.ref u])[(hs'.map V.ref).length + 1 - 1]? = _; rw [Nat.add_sub_cancel, List.getElem?_append_right (Nat.le_refl _), Nat.sub_self]; rfl), ?_⟩
  rw [List.dropLast_concat]
  have k0 : Kept H (upd H h (.lst (hs'.map V.ref))) h := kept_upd
  have hA0 := hH'.kept hP k0
  have nuh : u ≠ h := ne_of hU hP (by intro w; cases w)
  have hU0 : upd H h (.lst (hs'.map V.ref)) u = some (.tup [.int (f0 n).1, .int (f0 n).2]) := by rw [upd_ne nuh]; exact hU
  generalize hH2 : upd H h (.lst (hs'.map V.ref)) = H2 at k0 hA0 hU0 ⊢
  have hP2 : H2 h = some (.lst (hs'.map V.ref)) := by rw [← hH2]; exact upd_same
  refine ⟨_, rfl, Nat.zero_le _, fun e he => ⟨h, e, _, rfl, rfl, SqL.of ((same_new he _).at hP2), SqL.of upd_same, _, rfl, ?_⟩⟩
  have se := same_new (H := H2) he (.lst [])
  by_cases hn : n = 0
  · subst hn
    have e0 : hs' = [] := List.eq_nil_of_length_eq_zero hH'.1
    have hz : (hs'.map V.ref).isEmpty = true := by rw [e0]; rfl
    rw [hz]
    refine iteT ?_
    refine q hs' f0 _ (k0.trans (Kept.ofSame se)) (se.at hP2) (hA0.same se) (fun q' a b => absurd b (Nat.not_lt_zero _)) (fun i hi => absurd hi (Nat.not_lt_zero _)) fun g => ?_
    show (0 : Int) = 0 + g (f0 0) - g (f0 0)
    omega
  · have hz : (hs'.map V.ref).isEmpty = false := by
      cases hs' with
      | nil => exact absurd hH'.1.symm hn
      | cons a l => rfl
    rw [hz]
    refine iteF ?_
    refine ⟨_, rfl, _, rfl, h, hs', n, f0, 0, rfl, se.at hP2, hA0.same se, fun b hb => ?_⟩
    refine while_by (fun σ H1 => Kept H H1 h ∧ ∃ (hs1 : List Addr) (f : PF) (pl b : Nat), σ = [some (.ref h), some (.ref u), some (.int pl), some (.int b)] ∧ H1 h = some (.lst (hs1.map V.ref)) ∧ HpAt H1 hs1 n f ∧ TakI f0 f n pl (f0 n) ∧ GrB f n pl b ∧ H1 u = some (.tup [.int (f0 n).1, .int (f0 n).2]))
      (fun σ _ => match σ with | [_, _, some (.int p), _] => n - p.toNat | _ => 0) ⟨k0.trans (Kept.ofSame se), _, _, 0, b, rfl, se.at hP2, hA0.same se, TakI.start (by omega) hok hpos, hb, se.at hU0⟩ ?_
      (mono_and (mono_test (mono_op mono_rI0 (mono_var _) (fun σ H Q Q' h ⟨w, e1, z⟩ => ⟨w, e1, by obtain ⟨p, ys, e2, e3, z⟩ := z; exact ⟨p, ys, e2, e3, h _ _ z⟩⟩))) (mono_test (mono_op mono_rI0 (mono_op mono_rIxT (mono_op mono_rIxL (mono_var _) (mono_var _)) (mono_c _)) (mono_op mono_rIxT (mono_var _) (mono_c _)))))
    rintro σ H1 ⟨kp, hs1, f, pl, b, rfl, hP1, hH1, hI, hG, hU1⟩
    have hlt := hI.lt
    have fin : n ≤ b ∨ ¬ ((f0 n).1 < (f b).1) → Q .non (upd H1 h (.lst ((hs1.map V.ref).set pl (.ref u)))) := fun hd => by
      refine q (hs1.set pl u) (fset f pl (f0 n)) _ (kp.trans kept_upd) (by rw [upd_same, set_map]) ((hH1.set hlt hU1).kept hP1 kept_upd) (hI.done hG hd) hI.pos hI.sum
    refine ⟨_, rfl, _, rfl, h, _, rfl, .inl (SqL.of hP1), _, _, rfl, rfl, _, rfl, iteD (fun g1 => ?_) (fun g1 => ?_)⟩
    · rw [List.length_map, hH1.1] at g1
      have hbn : b < n := by omega
      obtain ⟨r, hr, hR⟩ := hH1.2 b hbn
      refine ⟨_, rfl, _, rfl, h, _, _, _, rfl, rfl, SqL.of hP1, atI_nat (at_refs hr), r, _, _, _, rfl, rfl, SqT.of hR, rfl, _, rfl, u, _, _, _, rfl, rfl, SqT.of hU1, rfl, _, _, rfl, rfl, _, rfl, iteD (fun g2 => ?_) (fun g2 => ?_)⟩
      · refine ⟨_, rfl, _, rfl, h, _, _, _, rfl, rfl, SqL.of hP1, atI_nat (at_refs hr), _, rfl, _, rfl, h, _, _, pl, rfl, rfl, hP1, ixN_nat (by rw [List.length_map, hH1.1]; exact hlt), ?_⟩
        refine ⟨_, rfl, ?_⟩
        have kp2 := kept_upd (H := H1) (p := h) (o := .lst ((hs1.map V.ref).set pl (.ref r)))
        have hH3 := (hH1.set hlt hR).kept hP1 kp2
        have hP3 : upd H1 h (.lst ((hs1.map V.ref).set pl (.ref r))) h = some (.lst ((hs1.set pl r).map V.ref)) := by rw [upd_same, set_map]
        refine ⟨_, rfl, _, rfl, h, _, n, _, b, rfl, hP3, hH3, fun b' hb' => ⟨⟨kp.trans kp2, hs1.set pl r, fset f pl (f b), b, b', rfl, hP3, hH3, hI.step hG hbn g2, hb', (by rw [upd_ne nuh]; exact hU1)⟩, ?_⟩⟩
        show n - ((b : Nat) : Int).toNat < n - ((pl : Nat) : Int).toNat
        rcases hG.kid with z | z <;> omega
      · exact ⟨_, rfl, _, rfl, _, rfl, h, _, _, pl, rfl, rfl, hP1, ixN_nat (by rw [List.length_map, hH1.1]; exact hlt), fin (.inr g2)⟩
    · rw [List.length_map, hH1.1] at g1
      exact iteF ⟨_, rfl, _, rfl, _, rfl, h, _, _, pl, rfl, rfl, hP1, ixN_nat (by rw [List.length_map, hH1.1]; exact hlt), fin (.inl (by omega))⟩

theorem ok_take_shares (M : Bn mg) (F_take_top : FnA P w K mg base "take_top" ["heap"] 2 spTake) (F : Fun K "take_shares" "take_shares" s_take_shares f fd) : FnOk P w K mg base CX0 3 f fd ["heap", "amount"] spShares := by
  refine F.ok sc_take_shares (fun vs H Q E h => ?_) (fun cdv A outer s H vs Q E hr h => ?_)
  · obtain ⟨h, hs, n, f, a, rfl, _⟩ := h; rfl
  obtain ⟨h, hs, n, f0, a, rfl, hP, hH, hn, hok, hpos, ha, htot, q⟩ := h
  refine ⟨_, (pss_cons (ps_set (i := 2) sc_take_shares.nd rfl (Or.inl rfl) (pv 1))
      (pss_cons (ps_while PassesOwn.never (pt_cmpR op_le (pe_ix ix_tup (pe_ix ix_list (pv 0) pe_int (fun _ _ => rfl)) pe_int (fun _ _ => rfl)) (pv 2) (nomark _)) (pss_cons (ps_aug (i := 2) sc_take_shares.nd rfl (Or.inl rfl) (pe_ix ix_tup (pe_ix ix_list (pv 0) pe_int (fun _ _ => rfl)) pe_int (fun _ _ => rfl)) ip_sub)
      (pss_one (ps_expr (pe_callA F_take_top (hr.mono (by decide)) rfl (pa_cons (pv 0) pa_nil))))))
      (pss_one (ps_asg (pe_tup (pa_cons (pe_ix ix_tup (pe_ix ix_list (pv 0) pe_int (fun _ _ => rfl)) pe_int (fun _ _ => rfl)) (pa_cons (pe_op op_sub (pe_ix ix_tup (pe_ix ix_list (pv 0) pe_int (fun _ _ => rfl)) pe_int (fun _ _ => rfl)) (pv 2)) pa_nil))) (pg_sub (pv 0) pe_int set_list))))), ?_⟩
  refine ⟨_, rfl, ?_⟩
  refine while_by (fun σ H1 => Kept H H1 h ∧ ∃ (hs1 : List Addr) (m : Nat) (f : PF) (l : Int), σ = [some (.ref h), some (.int a), some (.int l)] ∧ H1 h = some (.lst (hs1.map V.ref)) ∧ HpAt H1 hs1 m f ∧ 0 < m ∧ m ≤ n ∧ Hok f m ∧ Pos' f m ∧ 0 ≤ l ∧ l < totl f m ∧ (∀ x, mx0 (mass f m x - l) = mx0 (mass f0 n x - a)) ∧ totl f m - l = totl f0 n - a)
    (fun _ H1 => match H1 h with | some (.lst xs) => xs.length | _ => 0) ⟨fun b o e _ => e, hs, n, f0, a, rfl, hP, hH, hn, Nat.le_refl _, hok, hpos, ha, htot, fun x => rfl, rfl⟩ ?_
    (mono_test (mono_op mono_rI0 (mono_op mono_rIxT (mono_op mono_rIxL (mono_var _) (mono_c _)) (mono_c _)) (mono_var _)))
  rintro σ H1 ⟨kp, hs1, m, f, l, rfl, hP1, hH1, hm, hmn, hok1, hpos1, hl0, hlt, hmass, htot1⟩
  obtain ⟨r, hr, hR⟩ := hH1.2 0 hm
  have aR : atI (hs1.map V.ref) 0 = some (.ref r) := atI_0 (at_refs hr)
  refine ⟨_, rfl, h, _, _, _, rfl, rfl, SqL.of hP1, aR, r, _, _, _, rfl, rfl, SqT.of hR, rfl, _, rfl, _, _, rfl, rfl, _, rfl, iteD (fun g1 => ?_) (fun g1 => ?_)⟩
  · obtain ⟨k, rfl⟩ : ∃ k, m = k + 1 := ⟨m - 1, by omega⟩
    refine ⟨_, rfl, _, rfl, h, _, _, _, rfl, rfl, SqL.of hP1, aR, r, _, _, _, rfl, rfl, SqT.of hR, rfl, _, _, rfl, rfl, ?_⟩
    refine ⟨_, rfl, h, hs1, k, f, rfl, hP1, hH1, hok1, hpos1, fun hs2 f2 H2 kp2 hP2 hH2 hok2 hpos2 hsum => ?_⟩
    have tt : totl f2 k = totl f (k + 1) - (f 0).2 := hsum fun y => y.2
    have mm : ∀ x, mass f2 k x = mass f (k + 1) x - ms x (f 0) := fun x => hsum (ms x)
    have hk : 0 < k := by
      rcases Nat.eq_zero_or_pos k with z | z
      · subst z
        have : totl f2 0 = 0 := rfl
        omega
      · exact z
    refine ⟨⟨kp.trans kp2, hs2, k, f2, l - (f 0).2, rfl, hP2, hH2, hk, by omega, hok2, hpos2, by omega, by omega, fun x => ?_, by omega⟩, ?_⟩
    · rw [← hmass x, mm x]
      obtain ⟨t1, t2⟩ := mass_top hok1 hpos1 hm x
      by_cases hx : x ≤ (f 0).1
      · have e : ms x (f 0) = (f 0).2 := by unfold ms; rw [if_pos hx]
        rw [e]
        congr 1
        omega
      · have e : ms x (f 0) = 0 := by unfold ms; rw [if_neg hx]
        rw [e, t2 hx]
        unfold mx0
        split <;> split <;> omega
    · rw [hP2, hP1]
      show (hs2.map V.ref).length < (hs1.map V.ref).length
      rw [List.length_map, List.length_map, hH2.1, hH1.1]
      omega
  · refine ⟨_, rfl, h, _, _, _, rfl, rfl, SqL.of hP1, aR, r, _, _, _, rfl, rfl, SqT.of hR, rfl, _, rfl, h, _, _, _, rfl, rfl, SqL.of hP1, aR, r, _, _, _, rfl, rfl, SqT.of hR, rfl, _, rfl, _, _, rfl, rfl, (by show 2 ≤ sizeLine; decide), fun t' ht' => ?_⟩
    have s2 := same_new ht' (.tup [.int (f 0).1, .int ((f 0).2 - l)])
    refine ⟨_, rfl, h, _, _, 0, rfl, rfl, s2.at hP1, ixN_nat (by rw [List.length_map, hH1.1]; exact hm), ?_⟩
    refine q (hs1.set 0 t') m (fset f 0 ((f 0).1, (f 0).2 - l)) _ (kp.trans ((Kept.ofSame s2).trans kept_upd)) (by rw [upd_same, set_map]) (((hH1.same s2).set hm (y := ((f 0).1, (f 0).2 - l)) upd_same).kept (s2.at hP1) kept_upd) hm hmn ?_ ?_ (fun x => ?_) ?_
    · intro q' h1 h2
      have z := hok1 q' h1 h2
      have np : q' ≠ 0 := by omega
      rw [fset_ne np]
      by_cases e : par q' = 0
      · rw [e, fset_same]; rw [e] at z; exact z
      · rw [fset_ne e]; exact z
    · intro i hi
      by_cases e : i = 0
      · subst e; rw [fset_same]; show 0 < (f 0).2 - l; omega
      · rw [fset_ne e]; exact hpos1 i hi
    · rw [← hmass x]
      have z := sm_fset (f := f) (g := ms x) (i := 0) (y := ((f 0).1, (f 0).2 - l)) hm
      have z' : mass (fset f 0 ((f 0).1, (f 0).2 - l)) m x = mass f m x - ms x (f 0) + ms x ((f 0).1, (f 0).2 - l) := z
      rw [z']
      obtain ⟨t1, t2⟩ := mass_top hok1 hpos1 hm x
      unfold ms mx0
      by_cases hx : x ≤ (f 0).1
      · have := t1 hx
        rw [if_pos hx, if_pos hx, if_neg (by omega)]
        omega
      · have := t2 hx
        rw [if_neg hx, if_neg hx]
        split <;> omega
    · have z := sm_fset (f := f) (g := fun y => y.2) (i := 0) (y := ((f 0).1, (f 0).2 - l)) hm
      have z' : totl (fset f 0 ((f 0).1, (f 0).2 - l)) m = totl f m - (f 0).2 + ((f 0).2 - l) := z
      omega

theorem ok_cheapest_ends (M : Bn mg) (F_put_in : FnA P w K mg base "put_in" ["heap", "value", "share"] 1 spPut) (F_take_shares : FnA P w K mg base "take_shares" ["heap", "amount"] 3 spShares) (F : Fun K "cheapest_ends" "cheapest_ends" s_cheapest_ends f fd) : FnOk P w K mg base CX0 4 f fd ["numbers", "weights"] spEnds := by
  refine F.ok sc_cheapest_ends (fun vs H Q E h => ?_) (fun cdv A outer s H vs Q E hr h => ?_)
  · obtain ⟨a, b, ns, ws, rfl, _⟩ := h; rfl
  obtain ⟨a, b, ns, ws, rfl, hA, hB, h8, hl, hw, q⟩ := h
  refine ⟨_, (pss_cons (ps_set (i := 2) sc_cheapest_ends.nd rfl (Or.inl rfl) (pe_lst pa_nil))
      (pss_cons (ps_set (i := 3) sc_cheapest_ends.nd rfl (Or.inl rfl) (pe_lst pa_nil))
      (pss_cons (ps_for PassesOwn.never rfl (pi_zip rfl M.zip' (pa_cons (pv 0) (pa_cons (pv 1) pa_nil))) (pg_two (K := K) (i := 4) (j := 5) rfl rfl sc_cheapest_ends.nd rfl rfl rfl rfl) (pss_cons (ps_expr (pe_callA F_put_in (hr.mono (by decide)) rfl (pa_cons (pv 2) (pa_cons (pv 4) (pa_cons (pe_op op_mul pe_int (pv 5)) pa_nil)))))
      (pss_cons (ps_expr (pe_callA F_take_shares (hr.mono (by decide)) rfl (pa_cons (pv 2) (pa_cons (pv 5) pa_nil))))
      (pss_one (ps_expr (pe_bm PySem.F.plainAttrs_list PySem.F.slot_list_append PySem.F.type_list_append mt_append (pv 3) (pa_cons (pe_ix ix_tup (pe_ix ix_list (pv 2) pe_int (fun _ _ => rfl)) pe_int (fun _ _ => rfl)) pa_nil)))))))
      (pss_one (ps_ret (pv 3)))))), ?_⟩
  refine ⟨Nat.zero_le _, fun ph hph => ⟨Nat.zero_le _, fun pe hpe => ?_⟩⟩
  have s1 := same_new hph (.lst [])
  have s2 := same_new hpe (.lst [])
  have s12 := s1.trans s2
  have hpe0 : H pe = none := s1.free hpe
  have nhe : ph ≠ pe := ne_of_none upd_same hpe
  refine ⟨_, rfl, _, rfl, a, b, rfl, ⟨_, SqL.of (s12.at hA)⟩, ⟨_, SqL.of (s12.at hB)⟩, ?_⟩
  refine for_zip (xs := ns.map V.int) (zs := ws.map V.int) (by rw [List.length_map, List.length_map, hl]) (fun i σ H' => Same H H' ∧ ∃ (hs : List Addr) (n : Nat) (f : PF) (es : List Int) (v4 v5 : Option V), σ = [some (.ref a), some (.ref b), some (.ref ph), some (.ref pe), v4, v5] ∧ H' ph = some (.lst (hs.map V.ref)) ∧ HpAt H' hs n f ∧ n ≤ i ∧ Hok f n ∧ Pos' f n ∧ 0 ≤ totl f n ∧ (∀ x, mass f n x = LL ns ws i x) ∧
      H' pe = some (.lst (es.map V.int)) ∧ es.length = i ∧ ∀ j, j < i → ∀ x, x ≤ es.getD j 0 ↔ 0 < LL ns ws (j + 1) x)
    ⟨s12, [], 0, fun _ => (0, 0), [], _, _, rfl, by rw [upd_ne nhe, upd_same]; rfl, ⟨rfl, fun i hi => absurd hi (Nat.not_lt_zero _)⟩, Nat.le_refl _, fun q' _ h => absurd h (Nat.not_lt_zero _), fun i hi => absurd hi (Nat.not_lt_zero _), Int.le_refl _, fun x => rfl, by rw [upd_same]; rfl, rfl, fun j hj => absurd hj (Nat.not_lt_zero _)⟩
    (fun i σ H' _ h => ⟨SqL.of (h.1.at hA), SqL.of (h.1.at hB)⟩) ?_ ?_
  · rintro i x z σ H' pp hx hz ⟨sm, hs, n, f, es, v4, v5, rfl, hPh, hHp, hni, hok, hpos, htot, hmass, hPe, hel, hes⟩ hpp
    obtain ⟨nn, hnn, rfl⟩ := ints_at hx
    obtain ⟨w', hw', rfl⟩ := ints_at hz
    have hi : i < ns.length := (List.getElem?_eq_some_iff.mp hnn).1
    have en : ns.getD i 0 = nn := gd_of hnn
    have ew : ws.getD i 0 = w' := gd_of hw'
    have hwb := hw w' (List.mem_of_getElem? hw')
    have s3 := same_new hpp (.tup [.int nn, .int w'])
    refine ⟨pp, _, rfl, SqT.of upd_same, rfl, _, _, rfl, _, _, rfl, rfl, ?_⟩
    refine ⟨_, rfl, _, rfl, _, rfl, _, _, rfl, rfl, .inl ⟨by decide, by decide⟩, ph, hs, n, f, _, _, rfl, s3.at hPh, hHp.same s3, by omega, hok, hpos, by omega, fun hs1 f1 H1 kp1 hP1 hH1 hok1 hpos1 hsum1 => ?_⟩
    have m1 : ∀ x, mass f1 (n + 1) x = mass f n x + ms x (nn, 2 * w') := fun x => hsum1 (ms x)
    have t1 : totl f1 (n + 1) = totl f n + 2 * w' := hsum1 fun y => y.2
    refine ⟨_, rfl, _, rfl, ph, hs1, n + 1, f1, w', rfl, hP1, hH1, by omega, hok1, hpos1, by omega, by omega, fun hs2 n2 f2 H2 kp2 hP2 hH2 hn2 hn2' hok2 hpos2 hmass2 htot2 => ?_⟩
    have kp := kp1.trans kp2
    have sH : Same H H2 := kp.same (sm.trans s3) hph
    have hPe2 : H2 pe = some (.lst (es.map V.int)) := kp _ _ (s3.at hPe) (Ne.symm nhe)
    obtain ⟨r, hr, hR⟩ := hH2.2 0 hn2
    have lstep : ∀ x, mass f2 n2 x = LL ns ws (i + 1) x := fun x => by
      rw [hmass2 x, m1 x, hmass x]
      show mx0 _ = mx0 _
      congr 1
      rw [en, ew]
      unfold ms ee
      split <;> omega
    refine ⟨_, rfl, .inl ⟨rfl, _, SqL.of hPe2⟩, _, rfl, ph, _, _, _, rfl, rfl, SqL.of hP2, atI_0 (at_refs hr), r, _, _, _, rfl, rfl, SqT.of hR, rfl, pe, _, _, rfl, rfl, hPe2, (by rw [List.length_map, hel]; exact small1000 (by omega)), ?_⟩
    refine ⟨sH.upd hpe0 _, hs2, n2, f2, es ++ [(f2 0).1], _, _, rfl, (by rw [upd_ne nhe]; exact hP2), hH2.kept hPe2 kept_upd, by omega, hok2, hpos2, by omega, lstep, (by rw [upd_same, List.map_append]; rfl), (by rw [List.length_append, hel]; rfl), fun j hj x => ?_⟩
    by_cases e : j = i
    · subst e
      rw [gd_last hel.symm, ← lstep x]
      obtain ⟨u1, u2⟩ := mass_top hok2 hpos2 hn2 x
      have p0 := hpos2 0 hn2
      constructor
      · intro hx'
        have := u1 hx'
        omega
      · intro hx'
        refine Classical.byContradiction fun w => ?_
        have := u2 w
        omega
    · rw [gd_left (by omega)]
      exact hes j (by omega) x
  · rintro σ H' ⟨sm, hs, n, f, es, v4, v5, rfl, hPh, hHp, hni, hok, hpos, htot, hmass, hPe, hel, hes⟩
    rw [List.length_map] at hel hes
    exact ⟨_, rfl, q pe es H' sm hpe0 hPe ⟨hel, hes⟩⟩

theorem ok_greatest_pull (M : Bn mg) (F : Fun K "greatest_pull" "greatest_pull" s_greatest_pull f fd) : FnOk P w K mg base CX0 1 f fd ["number", "stand", "weight"] spGP := by
  refine F.ok sc_greatest_pull (fun vs H Q E h => ?_) (fun cdv A outer s H vs Q E hr h => ?_)
  · obtain ⟨n, x, w, rfl, _⟩ := h; rfl
  obtain ⟨n, x, w, rfl, q⟩ := h
  refine ⟨_, (pss_one (ps_ret (pe_ifExp (pt_cmpR op_ge (pv 0) (pv 1) (nomark _)) (pv 2) (pe_un un_neg (pv 2))))), ?_⟩
  refine ⟨_, rfl, _, rfl, _, _, rfl, rfl, _, rfl, iteD (fun g => ⟨_, rfl, ?_⟩) (fun g => ⟨_, rfl, _, rfl, ?_⟩)⟩
  · have e : ee x n w = w := by unfold ee; rw [if_pos g]
    rw [e] at q
    exact q
  · have e : ee x n w = -w := by unfold ee; rw [if_neg g]
    rw [e] at q
    exact q

theorem ok_least_pull (M : Bn mg) (F : Fun K "least_pull" "least_pull" s_least_pull f fd) : FnOk P w K mg base CX0 1 f fd ["number", "stand", "weight"] spLP := by
  refine F.ok sc_least_pull (fun vs H Q E h => ?_) (fun cdv A outer s H vs Q E hr h => ?_)
  · obtain ⟨n, x, w, rfl, _⟩ := h; rfl
  obtain ⟨n, x, w, rfl, q⟩ := h
  refine ⟨_, (pss_one (ps_ret (pe_ifExp (pt_cmpR op_gt (pv 0) (pv 1) (nomark _)) (pv 2) (pe_un un_neg (pv 2))))), ?_⟩
  refine ⟨_, rfl, _, rfl, _, _, rfl, rfl, _, rfl, iteD (fun g => ⟨_, rfl, ?_⟩) (fun g => ⟨_, rfl, _, rfl, ?_⟩)⟩
  · rw [if_pos g] at q
    exact q
  · rw [if_neg g] at q
    exact q

theorem ok_sums_from_ahead (M : Bn mg) (F_greatest_pull : FnA P w K mg base "greatest_pull" ["number", "stand", "weight"] 1 spGP) (F : Fun K "sums_from_ahead" "sums_from_ahead" s_sums_from_ahead f fd) : FnOk P w K mg base CX0 2 f fd ["numbers", "row", "weights"] (spSums AA) := by
  refine F.ok sc_sums_from_ahead (fun vs H Q E h => ?_) (fun cdv A outer s H vs Q E hr h => ?_)
  · obtain ⟨a, r, b, ns, row, ws, rfl, _⟩ := h; rfl
  obtain ⟨a, r, b, ns, row, ws, rfl, hA, hR, hB, h1k, hl, hl2, q⟩ := h
  refine ⟨_, (pss_cons (ps_set (i := 3) sc_sums_from_ahead.nd rfl (Or.inl rfl) (pe_lst pa_nil))
      (pss_cons (ps_set (i := 4) sc_sums_from_ahead.nd rfl (Or.inl rfl) pe_int)
      (pss_cons (ps_for PassesOwn.never rfl (pi_enum rfl M.enumerate' (pa_cons (pv 1) pa_nil)) (pg_two (K := K) (i := 5) (j := 6) rfl rfl sc_sums_from_ahead.nd rfl rfl rfl rfl) (pss_cons (ps_if (PW.pt (pw_and (pt_cmpR op_gt (pv 5) pe_int (nomark _)) (pw_and1 (pt_cmpR op_gt (pv 6) (pe_ix ix_list (pv 1) (pe_op op_sub (pv 5) pe_int) (fun _ _ => rfl)) (nomark _))))) (pss_one (ps_set (i := 4) sc_sums_from_ahead.nd rfl (Or.inl rfl) pe_int)) pss_nil)
      (pss_cons (ps_aug (i := 4) sc_sums_from_ahead.nd rfl (Or.inl rfl) (pe_callA F_greatest_pull (hr.mono (by decide)) rfl (pa_cons (pe_ix ix_list (pv 0) (pv 5) (fun _ _ => rfl)) (pa_cons (pv 6) (pa_cons (pe_ix ix_list (pv 2) (pv 5) (fun _ _ => rfl)) pa_nil)))) ip_add)
      (pss_one (ps_expr (pe_bm PySem.F.plainAttrs_list PySem.F.slot_list_append PySem.F.type_list_append mt_append (pv 3) (pa_cons (pv 4) pa_nil)))))))
      (pss_one (ps_ret (pv 3)))))), ?_⟩
  refine ⟨Nat.zero_le _, fun p hp => ?_⟩
  have s0 := same_new hp (.lst [])
  refine ⟨_, rfl, r, rfl, ⟨_, SqL.of (s0.at hR)⟩, ?_⟩
  refine for_enum (xs := row.map V.int) (fun i σ H' => Same H H' ∧ ∃ (tt : Int) (v5 v6 : Option V), σ = [some (.ref a), some (.ref r), some (.ref b), some (.ref p), some (.int tt), v5, v6] ∧ H' p = some (.lst (((List.range i).map (AA ns ws row)).map V.int)) ∧ tt = if i = 0 then 0 else AA ns ws row (i - 1))
    ⟨s0, 0, _, _, rfl, upd_same, rfl⟩ (fun i σ H' _ h => SqL.of (h.1.at hR)) ?_ ?_
  · rintro i x σ H' pp hx ⟨sm, tt, v5, v6, rfl, hP, ht⟩ hpp
    obtain ⟨st, hst, rfl⟩ := ints_at hx
    have hi : i < row.length := (List.getElem?_eq_some_iff.mp hst).1
    have es : row.getD i 0 = st := gd_of hst
    have s1 := same_new hpp (.tup [.int i, .int st])
    have sm1 := sm.trans s1
    refine ⟨pp, _, rfl, SqT.of upd_same, rfl, _, _, rfl, _, _, rfl, rfl, ?_⟩
    dsimp only [gName]
    refine seq_with (fun σ' H1 => H1 = upd H' pp (.tup [.int i, .int st]) ∧ ∃ t2, σ' = [some (.ref a), some (.ref r), some (.ref b), some (.ref p), some (.int t2), some (.int i), some (.int st)] ∧ t2 + gp ns ws row i = AA ns ws row i) ?_ (fun cont => ?_)
    · rintro σ' H1 ⟨rfl, t2, rfl, ht2⟩
      refine ⟨_, rfl, _, rfl, _, rfl, a, _, _, _, rfl, rfl, SqL.of (sm1.at hA), atI_gd rfl (by omega), _, rfl, _, rfl, _, rfl, b, _, _, _, rfl, rfl, SqL.of (sm1.at hB), atI_gd rfl (by omega), _, _, _, rfl, _, _, rfl, rfl, ?_⟩
      have e : t2 + ee st (ns.getD i 0) (ws.getD i 0) = AA ns ws row i := by rw [← ht2]; unfold gp; rw [es]
      dsimp only
      rw [e]
      refine ⟨_, rfl, .inl ⟨rfl, _, SqL.of (s1.at hP)⟩, _, rfl, p, _, _, rfl, rfl, s1.at hP, (by rw [List.length_map, List.length_map, List.length_range]; exact small1000 (by omega)), sm1.upd hp _, _, _, _, rfl, ?_, ?_⟩
      · rw [upd_same, range_snoc, List.map_append]
        rfl
      · rw [if_neg (by omega), Nat.add_sub_cancel]
    · refine ⟨_, rfl, _, _, rfl, rfl, _, rfl, iteD (fun g => ?_) (fun g => ?_)⟩
      · obtain ⟨k, rfl⟩ : ∃ k, i = k + 1 := ⟨i - 1, by omega⟩
        rw [if_neg (by omega), Nat.add_sub_cancel] at ht
        refine ⟨_, rfl, _, rfl, _, rfl, _, _, rfl, rfl, r, _, _, _, rfl, rfl, SqL.of (sm1.at hR), atI_gd (i := k) (by omega) (by omega), _, _, rfl, rfl, _, rfl, iteD (fun g2 => cont _ _ ⟨rfl, 0, rfl, ?_⟩) (fun g2 => cont _ _ ⟨rfl, tt, rfl, ?_⟩)⟩
        · show _ = (if row.getD k 0 < row.getD (k + 1) 0 then 0 else AA ns ws row k) + gp ns ws row (k + 1)
          rw [es, if_pos g2]
        · show _ = (if row.getD k 0 < row.getD (k + 1) 0 then 0 else AA ns ws row k) + gp ns ws row (k + 1)
          rw [es, if_neg g2, ht]
      · have : i = 0 := by omega
        subst this
        rw [if_pos rfl] at ht
        refine iteF (cont _ _ ⟨rfl, tt, rfl, ?_⟩)
        rw [ht]
        show 0 + _ = gp ns ws row 0
        omega
  · rintro σ H' ⟨sm, tt, v5, v6, rfl, hP, ht⟩
    refine ⟨_, rfl, q p H' sm hp ?_⟩
    rw [hP, List.length_map, hl]

theorem ok_sums_from_behind (M : Bn mg) (F_least_pull : FnA P w K mg base "least_pull" ["number", "stand", "weight"] 1 spLP) (F : Fun K "sums_from_behind" "sums_from_behind" s_sums_from_behind f fd) : FnOk P w K mg base CX0 2 f fd ["numbers", "row", "weights"] (spSums bhd) := by
  refine F.ok sc_sums_from_behind (fun vs H Q E h => ?_) (fun cdv A outer s H vs Q E hr h => ?_)
  · obtain ⟨a, r, b, ns, row, ws, rfl, _⟩ := h; rfl
  obtain ⟨a, r, b, ns, row, ws, rfl, hA, hR, hB, h1k, hl, hl2, q⟩ := h
  refine ⟨_, (pss_cons (ps_set (i := 3) sc_sums_from_behind.nd rfl (Or.inl rfl) (pe_lst pa_nil))
      (pss_cons (ps_set (i := 4) sc_sums_from_behind.nd rfl (Or.inl rfl) pe_int)
      (pss_cons (ps_for PassesOwn.never rfl (pi_range3 rfl M.range' (pa_cons (pe_op op_sub (pe_callB call_len_seq rfl M.len' PySem.boot_len (pa_cons (pv 1) pa_nil)) pe_int) (pa_cons (pe_un un_neg pe_int) (pa_cons (pe_un un_neg pe_int) pa_nil)))) (pg_name (i := 5) sc_sums_from_behind.nd rfl (Or.inl rfl) (Or.inl rfl)) (pss_cons (ps_if (PW.pt (pw_and (pt_cmpR op_lt (pe_op op_add (pv 5) pe_int) (pe_callB call_len_seq rfl M.len' PySem.boot_len (pa_cons (pv 1) pa_nil)) (nomark _)) (pw_and1 (pt_cmpR op_lt (pe_ix ix_list (pv 1) (pv 5) (fun _ _ => rfl)) (pe_ix ix_list (pv 1) (pe_op op_add (pv 5) pe_int) (fun _ _ => rfl)) (nomark _))))) (pss_one (ps_set (i := 4) sc_sums_from_behind.nd rfl (Or.inl rfl) pe_int)) pss_nil)
      (pss_cons (ps_expr (pe_bm PySem.F.plainAttrs_list PySem.F.slot_list_append PySem.F.type_list_append mt_append (pv 3) (pa_cons (pv 4) pa_nil)))
      (pss_one (ps_aug (i := 4) sc_sums_from_behind.nd rfl (Or.inl rfl) (pe_callA F_least_pull (hr.mono (by decide)) rfl (pa_cons (pe_ix ix_list (pv 0) (pv 5) (fun _ _ => rfl)) (pa_cons (pe_ix ix_list (pv 1) (pv 5) (fun _ _ => rfl)) (pa_cons (pe_ix ix_list (pv 2) (pv 5) (fun _ _ => rfl)) pa_nil)))) ip_sub)))))
      (pss_cons (ps_expr (pe_bm0 PySem.F.plainAttrs_list PySem.F.slot_list_reverse PySem.F.type_list_reverse mt_reverse (pv 3)))
      (pss_one (ps_ret (pv 3))))))), ?_⟩
  refine ⟨Nat.zero_le _, fun p hp => ?_⟩
  have s0 := same_new hp (.lst [])
  refine ⟨_, rfl, r, _, rfl, .inl (SqL.of (s0.at hR)), _, _, rfl, rfl, _, rfl, _, rfl, _, rfl, by rw [List.length_map]; omega, by rw [List.length_map]; omega, ?_⟩
  have eN : ((((row.map V.int).length : Nat) : Int) - 1 + 1).toNat = row.length := by rw [List.length_map]; omega
  have eM : (((row.map V.int).length : Nat) : Int) - 1 = (row.length : Int) - 1 := by rw [List.length_map]
  rw [eN, eM]
  refine for_down (n := row.length) (fun i σ H' => Same H H' ∧ ∃ (tt : Int) (v5 : Option V), σ = [some (.ref a), some (.ref r), some (.ref b), some (.ref p), some (.int tt), v5] ∧ H' p = some (.lst (((List.range i).map fun j => bhd ns ws row (row.length - 1 - j)).map V.int)) ∧ (i = 0 → tt = 0) ∧ (0 < i → tt = bhd ns ws row (row.length - i) - lp ns ws row (row.length - i)))
    ⟨s0, 0, _, rfl, upd_same, fun _ => rfl, fun h => absurd h (Nat.lt_irrefl _)⟩ ?_ ?_
  · rintro i σ H' hi ⟨sm, tt, v5, rfl, hP, ht0, ht⟩
    have ePl : (row.length : Int) - 1 - (i : Int) = ((row.length - 1 - i : Nat) : Int) := by omega
    generalize hk : row.length - 1 - i = k at ePl
    dsimp only [gName]
    rw [ePl]
    refine seq_with (fun σ' H1 => H1 = H' ∧ σ' = [some (.ref a), some (.ref r), some (.ref b), some (.ref p), some (.int (bhd ns ws row k)), some (.int k)]) ?_ (fun cont => ?_)
    · rintro σ' H1 ⟨rfl, rfl⟩
      refine ⟨_, rfl, .inl ⟨rfl, _, SqL.of hP⟩, _, rfl, p, _, _, rfl, rfl, hP, (by rw [List.length_map, List.length_map, List.length_range]; exact small1000 (by omega)), ?_⟩
      have sP := sm.upd hp (.lst (((List.range i).map fun j => bhd ns ws row (row.length - 1 - j)).map V.int ++ [.int (bhd ns ws row k)]))
      refine ⟨_, rfl, _, rfl, _, rfl, a, _, _, _, rfl, rfl, SqL.of (sP.at hA), atI_gd rfl (by omega), _, rfl, _, rfl, r, _, _, _, rfl, rfl, SqL.of (sP.at hR), atI_gd rfl (by omega), _, rfl, _, rfl, b, _, _, _, rfl, rfl, SqL.of (sP.at hB), atI_gd rfl (by omega), _, _, _, rfl, _, _, rfl, rfl, sP, _, _, rfl, ?_, fun z => by omega, fun _ => ?_⟩
      · rw [upd_same, range_snoc, List.map_append, hk]
        rfl
      · rw [show row.length - (i + 1) = k by omega]
        rfl
    · refine ⟨_, rfl, _, _, rfl, rfl, _, rfl, r, _, rfl, .inl (SqL.of (sm.at hR)), _, _, rfl, rfl, _, rfl, iteD (fun g => ?_) (fun g => ?_)⟩
      · rw [List.length_map] at g
        have st := bhd_step (ns := ns) (ws := ws) (row := row) (i := k) (by omega)
        have htt := ht (by omega)
        rw [show row.length - i = k + 1 by omega] at htt
        refine ⟨_, rfl, _, rfl, r, _, _, _, rfl, rfl, SqL.of (sm.at hR), atI_gd rfl (by omega), _, rfl, _, rfl, _, _, rfl, rfl, r, _, _, _, rfl, rfl, SqL.of (sm.at hR), atI_gd (i := k + 1) (by omega) (by omega), _, _, rfl, rfl, _, rfl, iteD (fun g2 => cont _ _ ⟨rfl, ?_⟩) (fun g2 => cont _ _ ⟨rfl, ?_⟩)⟩
        · rw [if_pos g2] at st
          rw [st]
          rfl
        · rw [if_neg g2] at st
          rw [st, ← htt]
          rfl
      · rw [List.length_map] at g
        have h0 : i = 0 := by omega
        refine iteF (cont _ _ ⟨rfl, ?_⟩)
        rw [bhd_last (by omega), ht0 h0]
        rfl
  · rintro σ H' ⟨sm, tt, v5, rfl, hP, _, _⟩
    refine ⟨_, rfl, .inl ⟨rfl, _, SqL.of hP⟩, p, _, rfl, rfl, hP, ?_⟩
    refine ⟨_, rfl, q p _ (sm.upd hp _) hp ?_⟩
    rw [upd_same, ← List.map_reverse, hl]
    congr 3
    refine List.ext_getElem (by rw [List.length_reverse, List.length_map, List.length_map]) fun j h1 h2 => ?_
    rw [List.length_map, List.length_range] at h2
    rw [List.getElem_reverse]
    simp only [List.getElem_map, List.getElem_range, List.length_map, List.length_range]
    congr 1
    omega

theorem ok_pulls_of (M : Bn mg) (F_sums_from_ahead : FnA P w K mg base "sums_from_ahead" ["numbers", "row", "weights"] 2 (spSums AA)) (F_sums_from_behind : FnA P w K mg base "sums_from_behind" ["numbers", "row", "weights"] 2 (spSums bhd)) (F : Fun K "pulls_of" "pulls_of" s_pulls_of f fd) : FnOk P w K mg base CX0 3 f fd ["numbers", "row", "weights"] (spSums pl) := by
  refine F.ok sc_pulls_of (fun vs H Q E h => ?_) (fun cdv A outer s H vs Q E hr h => ?_)
  · obtain ⟨a, r, b, ns, row, ws, rfl, _⟩ := h; rfl
  obtain ⟨a, r, b, ns, row, ws, rfl, hA, hR, hB, h1k, hl, hl2, q⟩ := h
  refine ⟨_, (pss_cons (ps_set (i := 3) sc_pulls_of.nd rfl (Or.inl rfl) (pe_lst pa_nil))
      (pss_cons (ps_set (i := 4) sc_pulls_of.nd rfl (Or.inl rfl) pe_int)
      (pss_cons (ps_set (i := 5) sc_pulls_of.nd rfl (Or.inl rfl) (pe_callA F_sums_from_ahead (hr.mono (by decide)) rfl (pa_cons (pv 0) (pa_cons (pv 1) (pa_cons (pv 2) pa_nil)))))
      (pss_cons (ps_set (i := 6) sc_pulls_of.nd rfl (Or.inl rfl) (pe_callA F_sums_from_behind (hr.mono (by decide)) rfl (pa_cons (pv 0) (pa_cons (pv 1) (pa_cons (pv 2) pa_nil)))))
      (pss_cons (ps_for PassesOwn.never rfl (pi_zip rfl M.zip' (pa_cons (pv 5) (pa_cons (pv 6) pa_nil))) (pg_two (K := K) (i := 7) (j := 8) rfl rfl sc_pulls_of.nd rfl rfl rfl rfl) (pss_cons (ps_expr (pe_bm PySem.F.plainAttrs_list PySem.F.slot_list_append PySem.F.type_list_append mt_append (pv 3) (pa_cons (pe_op op_sub (pe_callB (call_min2 rfl) rfl M.min' PyProof.Rows.boot_min (pa_cons (pv 7) (pa_cons (pv 8) pa_nil))) (pv 4)) pa_nil)))
      (pss_one (ps_set (i := 4) sc_pulls_of.nd rfl (Or.inl rfl) (pe_callB (call_min2 rfl) rfl M.min' PyProof.Rows.boot_min (pa_cons (pv 7) (pa_cons (pv 8) pa_nil)))))))
      (pss_one (ps_ret (pv 3)))))))), ?_⟩
  refine ⟨Nat.zero_le _, fun p hp => ?_⟩
  have s0 := same_new hp (.lst [])
  refine ⟨_, rfl, _, rfl, _, rfl, a, r, b, ns, row, ws, rfl, s0.at hA, s0.at hR, s0.at hB, h1k, hl, hl2, fun pa H1 s1 hpa hPa => ?_⟩
  have s01 := s0.trans s1
  refine ⟨_, rfl, _, rfl, _, rfl, a, r, b, ns, row, ws, rfl, s01.at hA, s01.at hR, s01.at hB, h1k, hl, hl2, fun pb H2 s2 hpb hPb => ?_⟩
  have s02 := s01.trans s2
  have hp2 : H2 p = some (.lst []) := s2.at (s1.at upd_same)
  have npa : p ≠ pa := ne_of_none upd_same hpa
  have npb : p ≠ pb := ne_of_none (s1.at upd_same) hpb
  refine ⟨_, rfl, _, rfl, pa, pb, rfl, ⟨_, SqL.of (s2.at hPa)⟩, ⟨_, SqL.of hPb⟩, ?_⟩
  refine for_zip (xs := ((List.range ns.length).map (AA ns ws row)).map V.int) (zs := ((List.range ns.length).map (bhd ns ws row)).map V.int) (by rw [List.length_map, List.length_map, List.length_map, List.length_map]) (fun i σ H' => Same H H' ∧ H' pa = some (.lst (((List.range ns.length).map (AA ns ws row)).map V.int)) ∧ H' pb = some (.lst (((List.range ns.length).map (bhd ns ws row)).map V.int)) ∧ ∃ (tt : Int) (v7 v8 : Option V), σ = [some (.ref a), some (.ref r), some (.ref b), some (.ref p), some (.int tt), some (.ref pa), some (.ref pb), v7, v8] ∧ H' p = some (.lst (((List.range i).map (pl ns ws row)).map V.int)) ∧ tt = if i = 0 then 0 else SS ns ws row (i - 1))
    ⟨s02, s2.at hPa, hPb, 0, _, _, rfl, hp2, rfl⟩ (fun i σ H' _ h => ⟨SqL.of h.2.1, SqL.of h.2.2.1⟩) ?_ ?_
  · rintro i x z σ H' pp hx hz ⟨sm, ha', hb', tt, v7, v8, rfl, hP, ht⟩ hpp
    obtain ⟨x', hx', rfl⟩ := ints_at hx
    obtain ⟨z', hz', rfl⟩ := ints_at hz
    have hi : i < ns.length := by have := (List.getElem?_eq_some_iff.mp hx').1; rw [List.length_map, List.length_range] at this; exact this
    rw [List.getElem?_map, List.getElem?_range hi] at hx' hz'
    cases hx'
    cases hz'
    have s3 := same_new hpp (.tup [.int (AA ns ws row i), .int (bhd ns ws row i)])
    refine ⟨pp, _, rfl, SqT.of upd_same, rfl, _, _, rfl, _, _, rfl, rfl, ?_⟩
    have eS : (if bhd ns ws row i < AA ns ws row i then bhd ns ws row i else AA ns ws row i) = SS ns ws row i := rfl
    refine ⟨_, rfl, .inl ⟨rfl, _, SqL.of (s3.at hP)⟩, _, rfl, _, rfl, _, _, rfl, _, rfl, _, _, rfl, rfl, p, _, _, rfl, rfl, s3.at hP, (by rw [List.length_map, List.length_map, List.length_range]; exact small1000 (by omega)), ?_⟩
    refine ⟨_, rfl, _, rfl, _, _, rfl, (sm.trans s3).upd hp _, (by rw [upd_ne npa.symm]; exact s3.at ha'), (by rw [upd_ne npb.symm]; exact s3.at hb'), _, _, _, rfl, ?_, ?_⟩
    · rw [upd_same, range_snoc, List.map_append]
      show some (HO.lst (_ ++ [V.int (_ - tt)])) = some (HO.lst (_ ++ [V.int (SS ns ws row i - _)]))
      rw [ht]
      rfl
    · rw [if_neg (show ¬ (i + 1 = 0) by omega), Nat.add_sub_cancel]
      rfl
  · rintro σ H' ⟨sm, ha', hb', tt, v7, v8, rfl, hP, ht⟩
    refine ⟨_, rfl, q p H' sm hp ?_⟩
    rw [hP, List.length_map, List.length_map, List.length_range]

theorem ok_Summed___init__ (M : Bn mg) (C_Summed : ClsA K mg "Summed" c.Summed) (N_Summed : NaSummed K c.Summed) (F : Fun K "__init__" "Summed.__init__" s_Summed___init__ f fd) : FnOk P w K mg base CX0 1 f fd ["self", "row", "pulls"] (spSuInit c) := by
  refine F.ok sc_Summed___init__ (fun vs H Q E h => ?_) (fun cdv A outer s H vs Q E hr h => ?_)
  · obtain ⟨x, l, h, dx, lows, highs, rfl, _⟩ := h; rfl
  obtain ⟨x, l, h, dx, lows, highs, rfl, hx, hL, hH, q⟩ := h
  refine ⟨_, (pss_cons (ps_fld (pv 0) (pe_callTy call_list_of rfl M.list' boot_listT (pa_cons (pv 1) pa_nil)) rfl)
      (pss_one (ps_fld (pv 0) (pe_callTy call_list_of rfl M.list' boot_listT (pa_cons (pv 2) pa_nil)) rfl))), ?_⟩
  refine ⟨_, rfl, l, _, rfl, .inl (SqL.of hL), fun l' hl' => ?_⟩
  have nxl : x ≠ l' := ne_of_none hx hl'
  have nhl : h ≠ l' := ne_of_none hH hl'
  have nhx : h ≠ x := ne_of hH hx (by intro z; cases z)
  refine ⟨_, rfl, x, _, dx, _, rfl, (by rw [upd_ne nxl]; exact hx), C_Summed.cl, N_Summed.r, (by show 0 < 1000; decide), ?_⟩
  refine ⟨_, rfl, h, _, rfl, .inl (SqL.of (by rw [upd_ne nhx, upd_ne nhl]; exact hH)), fun h' hh' => ?_⟩
  have nxh : x ≠ h' := ne_of_none upd_same hh'
  have nlh : l' ≠ h' := ne_of_none (by rw [upd_ne nxl.symm]; exact upd_same) hh'
  have hh0 : H h' = none := by rw [upd_ne nxh.symm, upd_ne nlh.symm] at hh'; exact hh'
  refine ⟨_, rfl, x, _, dx, _, rfl, (by rw [upd_ne nxh]; exact upd_same), C_Summed.cl, N_Summed.p, (Nat.lt_of_le_of_lt (length_putF _ _ _) (by show 0 + 1 < 1000; decide)), ?_⟩
  refine q l' h' _ hl' hh0 nlh ⟨⟨dx, _, upd_same, ?_, ?_, ?_⟩, ?_, ?_⟩ fun b o e hb => ?_
  · rw [lookup_putF, if_neg (by decide +kernel), lookup_putF, if_pos rfl]
  · rw [lookup_putF, if_pos rfl]
  · rw [lookup_putF, if_neg (by decide +kernel), lookup_putF, if_neg (by decide +kernel)]; rfl
  · rw [upd_ne nxl.symm, upd_ne nlh, upd_ne nxl.symm, upd_same]
  · rw [upd_ne nxh.symm, upd_same]
  · rw [upd_ne hb, upd_ne (ne_of_none e hh0), upd_ne hb, upd_ne (ne_of_none e hl')]; exact e

theorem ok_summed (M : Bn mg) (F_check_numbers : FnA P w K mg base "check_numbers" ["numbers"] 4 spChk1) (F_check_weights : FnA P w K mg base "check_weights" ["numbers", "weights"] 6 spChkW) (F_cheapest_ends : FnA P w K mg base "cheapest_ends" ["numbers", "weights"] 4 spEnds) (F_lower_row : FnA P w K mg base "lower_row" ["numbers"] 2 spLo) (F_pulls_of : FnA P w K mg base "pulls_of" ["numbers", "row", "weights"] 3 (spSums pl)) (F_Summed___init__ : MakeA P w K mg base "Summed" c.Summed ["self", "row", "pulls"] 1 (spSuInit c)) (F : Fun K "summed" "summed" s_summed f fd) : FnOk P w K mg base CX0 9 f fd ["numbers", "weights"] (spSumP c) := by
  refine F.ok sc_summed (fun vs H Q E h => ?_) (fun cdv A outer s H vs Q E hr h => ?_)
  · obtain ⟨a, b, ns, ws, rfl, _⟩ := h; rfl
  obtain ⟨a, b, ns, ws, rfl, hA, hB, h8, hl, hw, q⟩ := h
  refine ⟨_, (pss_cons (ps_expr (pe_callA F_check_numbers (hr.mono (by decide)) rfl (pa_cons (pv 0) pa_nil)))
      (pss_cons (ps_expr (pe_callA F_check_weights (hr.mono (by decide)) rfl (pa_cons (pv 0) (pa_cons (pv 1) pa_nil))))
      (pss_cons (ps_set (i := 2) sc_summed.nd rfl (Or.inl rfl) (pe_callA F_lower_row (hr.mono (by decide)) rfl (pa_cons (pe_callA F_cheapest_ends (hr.mono (by decide)) rfl (pa_cons (pv 0) (pa_cons (pv 1) pa_nil))) pa_nil)))
      (pss_one (ps_ret (pe_makeA F_Summed___init__ (hr.mono (by decide)) rfl (pa_cons (pv 2) (pa_cons (pe_callA F_pulls_of (hr.mono (by decide)) rfl (pa_cons (pv 0) (pa_cons (pv 2) (pa_cons (pv 1) pa_nil)))) pa_nil)))))))), ?_⟩
  refine ⟨_, rfl, a, ns, rfl, hA, by omega, fun H1 s1 => ?_⟩
  refine ⟨_, rfl, _, rfl, a, b, ns, ws, rfl, s1.at hA, s1.at hB, by omega, hl, hw.one, fun H2 s2 => ?_⟩
  have s12 := s1.trans s2
  refine ⟨_, rfl, _, rfl, a, b, ns, ws, rfl, s12.at hA, s12.at hB, h8, hl, hw, fun pe es H3 s3 hpe hPe hE => ⟨pe, es, rfl, hPe, by have := hE.1; omega, fun pr H4 s4 hpr hPr => ?_⟩⟩
  have s14 := s12.trans (s3.trans s4)
  have hrl : (loL es).length = ns.length := by rw [loL_length]; exact hE.1
  refine ⟨_, rfl, _, rfl, _, rfl, _, rfl, a, pr, b, ns, loL es, ws, rfl, s14.at hA, hPr, s14.at hB, by omega, hrl, hl, fun pp H5 s5 hpp hPp x dx hx hdx hne => ?_⟩
  have s15 := s14.trans s5
  have s6 : Same H5 (upd (upd H5 dx (.own x)) x (.ins c.Summed dx [])) := same_own hx hdx
  refine ⟨x, pr, pp, dx, _, _, rfl, upd_same, s6.at (s5.at hPr), s6.at hPp, fun r' p' H7 hr' hp' nrp hX kp => ⟨rfl, ?_⟩⟩
  refine q x r' p' _ _ H7 hX (s15.trans (kp.same s6 hx)) (s15.free hx) (s15.free (s6.free hr')) (s15.free (s6.free hp')) nrp ⟨hrl, by rw [List.length_map, List.length_range], ?_⟩
  have z := summed_ok hE (fun i hi => (hw.at (i := i) (by omega)).1)
  exact SmC.pulls z

theorem ok_lowest (M : Bn mg) (F_common_divisor : FnA P w K mg base "common_divisor" ["one", "other"] 1 spGcd) (F : Fun K "lowest" "lowest" s_lowest f fd) : FnOk P w K mg base CX0 2 f fd ["top", "bottom"] spLowW := by
  refine F.ok sc_lowest (fun vs H Q E h => ?_) (fun cdv A outer s H vs Q E hr h => ?_)
  · obtain ⟨t, b, rfl, _⟩ := h; rfl
  obtain ⟨t, b, rfl, hb, hb2, q⟩ := h
  have hb3 := BotOk.bits hb hb2
  refine ⟨_, (pss_cons (ps_set (i := 2) sc_lowest.nd rfl (Or.inl rfl) (pe_callA F_common_divisor (hr.mono (by decide)) rfl (pa_cons (pv 0) (pa_cons (pv 1) pa_nil))))
      (pss_one (ps_ret (pe_tup (pa_cons (pe_op op_fdivL (pv 0) (pv 2)) (pa_cons (pe_op op_fdivL (pv 1) (pv 2)) pa_nil)))))), ?_⟩
  refine ⟨_, rfl, _, rfl, t, b, rfl, ?_⟩
  exact ⟨_, rfl, _, rfl, _, _, rfl, rfl, gcdL hb hb3, _, rfl, _, rfl, _, _, rfl, rfl, gcdL hb hb3, (by show 2 ≤ sizeLine; decide), fun p hp => q p hp⟩

theorem ok_plus (M : Bn mg) (F_common_divisor : FnA P w K mg base "common_divisor" ["one", "other"] 1 spGcd) (F : Fun K "plus" "plus" s_plus f fd) : FnOk P w K mg base CX0 2 f fd ["one", "other"] spPlusW := by
  refine F.ok sc_plus (fun vs H Q E h => ?_) (fun cdv A outer s H vs Q E hr h => ?_)
  · obtain ⟨a, c, a0, a1, c0, c1, rfl, _⟩ := h; rfl
  obtain ⟨a, c, a0, a1, c0, c1, rfl, hA, hC, p1, p2, p3, p4, b0, b1, g1, g2, q⟩ := h
  have hs := gcd_pos (t := a1) p3
  have hs2 : (Int.gcd a1 c1 : Int) ≤ c1 := gcd_le p3
  have hs3 : bits (Int.gcd a1 c1 : Int) ≤ 9000 := bits_le (Int.le_of_lt hs) hs2 p4
  have m0 : 0 ≤ c1 / (Int.gcd a1 c1 : Int) := Int.ediv_nonneg (by omega) (by omega)
  have m1 : c1 / (Int.gcd a1 c1 : Int) ≤ c1 := Int.ediv_le_self _ (by omega)
  have m2 : 0 ≤ a1 / (Int.gcd a1 c1 : Int) := Int.ediv_nonneg (by omega) (by omega)
  have m3 : a1 / (Int.gcd a1 c1 : Int) ≤ a1 := Int.ediv_le_self _ (by omega)
  have n1 := bits_le m0 m1 p4
  have n2 := bits_le m2 m3 p2
  have k1 := gcd_pos (t := a0 * (c1 / (Int.gcd a1 c1 : Int)) + c0 * (a1 / (Int.gcd a1 c1 : Int))) hs
  have k2 := gcd_le (t := a0 * (c1 / (Int.gcd a1 c1 : Int)) + c0 * (a1 / (Int.gcd a1 c1 : Int))) hs
  have k3 := bits_le (Int.le_of_lt k1) k2 hs3
  have m4 : 0 ≤ c1 / (Int.gcd (a0 * (c1 / (Int.gcd a1 c1 : Int)) + c0 * (a1 / (Int.gcd a1 c1 : Int))) (Int.gcd a1 c1 : Int) : Int) := Int.ediv_nonneg (by omega) (by omega)
  have m5 : c1 / (Int.gcd (a0 * (c1 / (Int.gcd a1 c1 : Int)) + c0 * (a1 / (Int.gcd a1 c1 : Int))) (Int.gcd a1 c1 : Int) : Int) ≤ c1 := Int.ediv_le_self _ (by omega)
  have n3 := bits_le m4 m5 p4
  refine ⟨_, (pss_cons (ps_set (i := 2) sc_plus.nd rfl (Or.inl rfl) (pe_callA F_common_divisor (hr.mono (by decide)) rfl (pa_cons (pe_ix ix_tup (pv 0) pe_int (fun _ _ => rfl)) (pa_cons (pe_ix ix_tup (pv 1) pe_int (fun _ _ => rfl)) pa_nil))))
      (pss_cons (ps_set (i := 3) sc_plus.nd rfl (Or.inl rfl) (pe_op op_fdivL (pe_ix ix_tup (pv 0) pe_int (fun _ _ => rfl)) (pv 2)))
      (pss_cons (ps_set (i := 4) sc_plus.nd rfl (Or.inl rfl) (pe_op op_add (pe_op op_mulB (pe_ix ix_tup (pv 0) pe_int (fun _ _ => rfl)) (pe_op op_fdivL (pe_ix ix_tup (pv 1) pe_int (fun _ _ => rfl)) (pv 2))) (pe_op op_mulB (pe_ix ix_tup (pv 1) pe_int (fun _ _ => rfl)) (pv 3))))
      (pss_cons (ps_set (i := 5) sc_plus.nd rfl (Or.inl rfl) (pe_callA F_common_divisor (hr.mono (by decide)) rfl (pa_cons (pv 4) (pa_cons (pv 2) pa_nil))))
      (pss_one (ps_ret (pe_tup (pa_cons (pe_op op_fdivL (pv 4) (pv 5)) (pa_cons (pe_op op_mulB (pv 3) (pe_op op_fdivL (pe_ix ix_tup (pv 1) pe_int (fun _ _ => rfl)) (pv 5))) pa_nil))))))))), ?_⟩
  refine ⟨_, rfl, a, _, 1, _, rfl, rfl, SqT.of hA, rfl, _, rfl, c, _, 1, _, rfl, rfl, SqT.of hC, rfl, a1, c1, rfl, ?_⟩
  refine ⟨_, rfl, a, _, 1, _, rfl, rfl, SqT.of hA, rfl, _, rfl, _, _, rfl, rfl, ⟨hs, hs3⟩, ?_⟩
  refine ⟨_, rfl, a, _, 0, _, rfl, rfl, SqT.of hA, rfl, _, rfl, c, _, 1, _, rfl, rfl, SqT.of hC, rfl, _, rfl, _, _, rfl, rfl, ⟨hs, hs3⟩, _, _, rfl, rfl, IntMulOk.of_le b0 n1 (by decide),
    _, rfl, c, _, 0, _, rfl, rfl, SqT.of hC, rfl, _, rfl, _, _, rfl, rfl, IntMulOk.of_le b1 n2 (by decide), _, _, rfl, rfl, ?_⟩
  refine ⟨_, rfl, _, rfl, _, _, rfl, ?_⟩
  refine ⟨_, rfl, _, rfl, _, _, rfl, rfl, ⟨k1, k3⟩, _, rfl, _, rfl, c, _, 1, _, rfl, rfl, SqT.of hC, rfl, _, rfl, _, _, rfl, rfl, ⟨k1, k3⟩, _, _, rfl, rfl, IntMulOk.of_le n2 n3 (by decide), (by show 2 ≤ sizeLine; decide), fun p hp => ?_⟩
  have z := q p hp
  rw [← plus_low p1 p3 g1 g2] at z
  exact z

theorem ok_weighted_square (M : Bn mg) (F_lowest : FnA P w K mg base "lowest" ["top", "bottom"] 2 spLowW) (F : Fun K "weighted_square" "weighted_square" s_weighted_square f fd) : FnOk P w K mg base CX0 3 f fd ["number", "fraction", "weight"] spWSqW := by
  refine F.ok sc_weighted_square (fun vs H Q E h => ?_) (fun cdv A outer s H vs Q E hr h => ?_)
  · obtain ⟨a, n, w, p, r, rfl, _⟩ := h; rfl
  obtain ⟨a, n, w, p, r, rfl, hA, ht, q⟩ := h
  obtain ⟨hm, _, br⟩ := ht.mul
  obtain ⟨r1, r2, w1, w2, _⟩ := ht
  have rr : 0 < r * r := Int.mul_pos (by omega) (by omega)
  have brr := intBits_mul_le br br
  refine ⟨_, (pss_cons (ps_set (i := 3) sc_weighted_square.nd rfl (Or.inl rfl) (pe_op op_sub (pe_op op_mul (pv 0) (pe_ix ix_tup (pv 1) pe_int (fun _ _ => rfl))) (pe_ix ix_tup (pv 1) pe_int (fun _ _ => rfl))))
      (pss_one (ps_ret (pe_callA F_lowest (hr.mono (by decide)) rfl (pa_cons (pe_op op_mulB (pe_op op_mul (pv 2) (pv 3)) (pv 3)) (pa_cons (pe_op op_mul (pe_ix ix_tup (pv 1) pe_int (fun _ _ => rfl)) (pe_ix ix_tup (pv 1) pe_int (fun _ _ => rfl))) pa_nil)))))), ?_⟩
  refine ⟨_, rfl, _, rfl, a, _, 1, _, rfl, rfl, SqT.of hA, rfl, _, _, rfl, rfl, .inr ⟨by omega, by omega⟩, _, rfl, a, _, 0, _, rfl, rfl, SqT.of hA, rfl, _, _, rfl, rfl, ?_⟩
  exact ⟨_, rfl, _, rfl, _, _, rfl, rfl, .inl ⟨by omega, by omega⟩, _, rfl, _, _, rfl, rfl, hm, _, rfl, a, _, 1, _, rfl, rfl, SqT.of hA, rfl, _, rfl, a, _, 1, _, rfl, rfl, SqT.of hA, rfl, _, _, rfl, rfl, .inl ⟨by omega, by omega⟩,
    _, _, rfl, rr, .inr (Nat.le_trans brr (by decide)), fun t ht => q t ht⟩

theorem ok_squares (M : Bn mg) (F_check_numbers : FnA P w K mg base "check_numbers" ["numbers"] 4 spChk1) (F_check_fraction_row : FnA P w K mg base "check_fraction_row" ["numbers", "row"] 5 spChkF) (F_check_weights : FnA P w K mg base "check_weights" ["numbers", "weights"] 6 spChkW) (F_lowest : FnA P w K mg base "lowest" ["top", "bottom"] 2 spLowW) (F_plus : FnA P w K mg base "plus" ["one", "other"] 2 spPlusW) (F_weighted_square : FnA P w K mg base "weighted_square" ["number", "fraction", "weight"] 3 spWSqW) (F : Fun K "squares" "squares" s_squares f fd) : FnOk P w K mg base CX0 7 f fd ["numbers", "row", "weights"] spSquaresW := by
  refine F.ok sc_squares (fun vs H Q E h => ?_) (fun cdv A outer s H vs Q E hr h => ?_)
  · obtain ⟨a, b, c, ns, ws, rs, fs, rfl, _⟩ := h; rfl
  obtain ⟨a, b, c, ns, ws, rs, fs, rfl, hA, hB, hC, hF, h63, hl, hl2, hok, hz, hw, q⟩ := h
  have h1k : ns.length ≤ 1000 := by omega
  refine ⟨_, (pss_cons (ps_expr (pe_callA F_check_numbers (hr.mono (by decide)) rfl (pa_cons (pv 0) pa_nil)))
      (pss_cons (ps_expr (pe_callA F_check_fraction_row (hr.mono (by decide)) rfl (pa_cons (pv 0) (pa_cons (pv 1) pa_nil))))
      (pss_cons (ps_expr (pe_callA F_check_weights (hr.mono (by decide)) rfl (pa_cons (pv 0) (pa_cons (pv 2) pa_nil))))
      (pss_cons (ps_set (i := 3) sc_squares.nd rfl (Or.inl rfl) (pe_callA F_lowest (hr.mono (by decide)) rfl (pa_cons pe_int (pa_cons pe_int pa_nil))))
      (pss_cons (ps_for PassesOwn.never rfl (pi_enum rfl M.enumerate' (pa_cons (pv 0) pa_nil)) (pg_two (K := K) (i := 4) (j := 5) rfl rfl sc_squares.nd rfl rfl rfl rfl) (pss_one (ps_set (i := 3) sc_squares.nd rfl (Or.inl rfl) (pe_callA F_plus (hr.mono (by decide)) rfl (pa_cons (pv 3) (pa_cons (pe_callA F_weighted_square (hr.mono (by decide)) rfl (pa_cons (pv 5) (pa_cons (pe_ix ix_list (pv 1) (pv 4) (fun _ _ => rfl)) (pa_cons (pe_ix ix_list (pv 2) (pv 4) (fun _ _ => rfl)) pa_nil)))) pa_nil))))))
      (pss_one (ps_ret (pv 3)))))))), ?_⟩
  refine ⟨_, rfl, a, ns, rfl, hA, h1k, fun H1 s1 => ?_⟩
  refine ⟨_, rfl, _, rfl, a, b, ns, rs, fs, rfl, s1.at hA, s1.at hB, hF.same s1, h1k, hl, hok, fun H2 s2 => ?_⟩
  have s12 : Same H H2 := s1.trans s2
  refine ⟨_, rfl, _, rfl, a, c, ns, ws, rfl, s12.at hA, s12.at hC, h1k, hl2, hw, fun H3 s3 => ?_⟩
  have s13 : Same H H3 := s12.trans s3
  refine ⟨0, 1, rfl, by decide, .inl (by decide), fun pt hpt => ?_⟩
  have zl := z3_length (ns := ns) (ws := ws) (fs := fs) (by omega) (by omega)
  have s14 : Same H (upd H3 pt (.tup [.int (lowP 0 1).1, .int (lowP 0 1).2])) := s13.new hpt _
  refine ⟨_, rfl, a, rfl, ⟨_, SqL.of (s14.at hA)⟩, ?_⟩
  refine for_enum (xs := ns.map V.int) (fun i σ H' => Same H H' ∧ ∃ (pt : Addr) (v4 v5 : Option V), σ = [some (.ref a), some (.ref b), some (.ref c), some (.ref pt), v4, v5] ∧ H pt = none ∧ H' pt = some (.tup [.int (accL ((z3 ns ws fs).take i)).1, .int (accL ((z3 ns ws fs).take i)).2]))
    ⟨s14, pt, _, _, rfl, s13.free hpt, upd_same⟩ (fun i σ H' _ h => SqL.of (h.1.at hA)) ?_ ?_
  · rintro i x σ H' p hx ⟨sm, pt, v4, v5, rfl, hn0, hT⟩ hp
    obtain ⟨n, hn, rfl⟩ := ints_at hx
    have hi : i < ns.length := (List.getElem?_eq_some_iff.mp hn).1
    obtain ⟨wv, hwv⟩ := get_of (xs := ws) (i := i) (by omega)
    obtain ⟨fv, hfv⟩ := get_of (xs := fs) (i := i) (by omega)
    obtain ⟨rv, hrv⟩ := get_of (xs := rs) (i := i) (by rw [hF.1]; omega)
    have hz3 := z3_at hn hwv hfv
    have hto : TurnW n wv fv.1 fv.2 := hz (n, wv, fv) (List.mem_of_getElem? hz3)
    have S := accL_W hl2 hl hz i (by omega)
    obtain ⟨_, yb, br⟩ := hto.mul
    have q0 : 0 < fv.2 := by have := hto.1; omega
    have rr : 0 < fv.2 * fv.2 := Int.mul_pos q0 q0
    have brr := intBits_mul_le br br
    have S2 := S.b2
    have S1 := S.b1
    have smp : Same H (upd H' p (.tup [.int i, .int n])) := sm.new hp _
    refine ⟨p, _, rfl, SqT.of upd_same, rfl, _, _, rfl, _, _, rfl, rfl, ?_⟩
    -- plus(total, weighted_square(number, row[place], weights[place]))
    refine ⟨_, rfl, _, rfl, _, rfl, _, rfl, b, _, _, _, rfl, rfl, SqL.of (smp.at hB), atI_nat (at_refs hrv), _, rfl, _, rfl, c, _, _, _, rfl, rfl, SqL.of (smp.at hC), atI_nat (at_ints hwv), rv, n, wv, fv.1, fv.2, rfl, smp _ _ (hF.2 i rv fv hrv hfv), hto, fun t ht => ?_⟩
    have hTp : upd H' p (.tup [.int i, .int n]) pt = some (.tup [.int (accL ((z3 ns ws fs).take i)).1, .int (accL ((z3 ns ws fs).take i)).2]) := (same_new hp _) _ _ hT
    refine ⟨pt, t, _, _, _, _, rfl, (same_new ht _) _ _ hTp, upd_same, S.pos, by omega, lowP_pos rr, bits_le (Int.le_of_lt (lowP_pos rr)) (lowP_le rr) (Nat.le_trans brr (by decide)), by omega, intBits_le_of_natAbs (lowP_abs rr) (Nat.le_trans yb (by decide)), S.gcd, lowP_gcd rr, fun u hu => ?_⟩
    refine ⟨(smp.new ht _).new hu _, u, _, _, rfl, (smp.new ht _).free hu, ?_⟩
    rw [upd_same, take_snoc hz3, accL_snoc]
    have e := prog_turn (T := accL ((z3 ns ws fs).take i)) (n := n) (w := wv) (p := fv.1) (q := fv.2) S.pos S.gcd q0
    rw [← e]
  · rintro σ H' ⟨sm, pt, v4, v5, rfl, hn0, hT⟩
    refine ⟨_, rfl, q pt H' sm hn0 ?_⟩
    rw [hT, List.length_map, ← zl, take_all]

theorem ok_squared (M : Bn mg) (F_check_numbers : FnA P w K mg base "check_numbers" ["numbers"] 4 spChk1) (F_check_weights : FnA P w K mg base "check_weights" ["numbers", "weights"] 6 spChkW) (F_level_runs : FnA P w K mg base "level_runs" ["numbers", "weights"] 2 spRuns) (F_lowest : FnA P w K mg base "lowest" ["top", "bottom"] 2 spLowW) (F_Squared___init__ : MakeA P w K mg base "Squared" c.Squared ["self", "row"] 1 (spSqInit c)) (F : Fun K "squared" "squared" s_squared f fd) : FnOk P w K mg base CX0 7 f fd ["numbers", "weights"] (spSquaredW c) := by
  refine F.ok sc_squared (fun vs H Q E h => ?_) (fun cdv A outer s H vs Q E hr h => ?_)
  · obtain ⟨a, b, ns, ws, rfl, _⟩ := h; rfl
  obtain ⟨a, b, ns, ws, rfl, hA, hB, h1k, hl, hw, q⟩ := h
  refine ⟨_, (pss_cons (ps_expr (pe_callA F_check_numbers (hr.mono (by decide)) rfl (pa_cons (pv 0) pa_nil)))
      (pss_cons (ps_expr (pe_callA F_check_weights (hr.mono (by decide)) rfl (pa_cons (pv 0) (pa_cons (pv 1) pa_nil))))
      (pss_cons (ps_set (i := 2) sc_squared.nd rfl (Or.inl rfl) (pe_lst pa_nil))
      (pss_cons (ps_for PassesOwn.never rfl (pi_list (pe_callA F_level_runs (hr.mono (by decide)) rfl (pa_cons (pv 0) (pa_cons (pv 1) pa_nil)))) (pg_name (i := 3) sc_squared.nd rfl (Or.inl rfl) (Or.inl rfl)) (pss_one (ps_expr (pe_bm PySem.F.plainAttrs_list PySem.F.slot_list_extend PySem.F.type_list_extend mt_extend (pv 2) (pa_cons (pe_op op_rep (pe_lst (pa_cons (pe_callA F_lowest (hr.mono (by decide)) rfl (pa_cons (pe_ix ix_tup (pv 3) pe_int (fun _ _ => rfl)) (pa_cons (pe_ix ix_tup (pv 3) pe_int (fun _ _ => rfl)) pa_nil))) pa_nil)) (pe_ix ix_tup (pv 3) pe_int (fun _ _ => rfl))) pa_nil)))))
      (pss_one (ps_ret (pe_makeA F_Squared___init__ (hr.mono (by decide)) rfl (pa_cons (pv 2) pa_nil)))))))), ?_⟩
  refine ⟨_, rfl, a, ns, rfl, hA, h1k, fun H1 s1 => ?_⟩
  refine ⟨_, rfl, _, rfl, a, b, ns, ws, rfl, s1.at hA, s1.at hB, h1k, hl, hw.one, fun H2 s2 => ?_⟩
  have s12 := s1.trans s2
  refine ⟨Nat.zero_le _, fun p hp => ?_⟩
  have s3 : Same H2 (upd H2 p (.lst [])) := same_new hp _
  have s13 := s12.trans s3
  refine ⟨_, rfl, _, rfl, a, b, ns, ws, rfl, s13.at hA, s13.at hB, h1k, hl, hw, fun lr rr rs H4 s4 hlr hLR hT hRuns => ⟨lr, rfl, ⟨_, SqL.of hLR⟩, ?_⟩⟩
  have s14 := s13.trans s4
  have hp4 : H4 p = some (.lst []) := s4.at upd_same
  have npl : p ≠ lr := ne_of_none upd_same hlr
  have bnd := runs_bound hRuns
  refine for_list (xs := rr.map V.ref) (fun i σ H' => Same H H' ∧ H' lr = some (.lst (rr.map V.ref)) ∧ TrAt H' rr rs ∧ ∃ (ts : List Addr) (v3 : Option V), σ = [some (.ref a), some (.ref b), some (.ref p), v3] ∧ H' p = some (.lst (ts.map V.ref)) ∧ FrAt H' ts (rowOf (rs.take i)) ∧ FOk (rowOf (rs.take i)))
    ⟨s14, hLR, hT, [], _, rfl, hp4, ⟨rfl, fun i r t e => by simp at e⟩, fun f hf => by simp [rowOf] at hf⟩ (fun i σ H' _ h => SqL.of h.2.1) ?_ ?_
  · rintro i x σ H' hx ⟨sm, hLR', hT', ts, v3, rfl, hP, hF, hok⟩
    obtain ⟨u, hu, rfl⟩ := refs_at hx
    have hi : i < rs.length := by rw [← hT.1]; exact (List.getElem?_eq_some_iff.mp hu).1
    obtain ⟨t, ht⟩ := get_of hi
    have hU := hT'.2 i u t hu ht
    obtain ⟨w1, w2, c1, c2⟩ := bnd.2 hw h1k t (List.mem_of_getElem? ht)
    have npu : u ≠ p := ne_of hU hP (by intro w; cases w)
    refine ⟨_, rfl, .inl ⟨rfl, _, SqL.of hP⟩, ?_⟩
    refine ⟨_, rfl, u, _, 0, _, rfl, rfl, SqT.of hU, rfl, _, rfl, u, _, 1, _, rfl, rfl, SqT.of hU, rfl, _, _, rfl, w1, by omega, fun f hf => ?_⟩
    have sf := same_new hf (.tup [.int (lowP t.1 t.2.1).1, .int (lowP t.1 t.2.1).2])
    refine ⟨(by show 1 ≤ sizeLine; decide), fun l1 hl1 => ?_⟩
    have sl := same_new hl1 (.lst [.ref f])
    refine ⟨_, rfl, u, _, 2, _, rfl, rfl, SqT.of ((sf.trans sl).at hU), rfl, l1, _, _, rfl, rfl, upd_same, by omega, by omega, (by show 1 * _ ≤ sizeLine; have := le1000 (n := 1000) (Nat.le_refl _); omega), fun l2 hl2 => ?_⟩
    have sr := same_new hl2 (.lst (List.replicate t.2.2.toNat [V.ref f]).flatten)
    have sAll := sf.trans (sl.trans sr)
    have eL := bnd.1 i t ht
    refine ⟨p, l2, _, _, rfl, rfl, sAll.at hP, upd_same, ?_, ?_⟩
    · rw [List.length_map, len_rep, hF.1]
      have := le1000 (n := 1000) (Nat.le_refl _)
      show _ + _ * 1 ≤ _
      omega
    · have hpn : H p = none := s12.free hp
      have nlp : lr ≠ p := npl.symm
      refine ⟨(sm.trans sAll).upd hpn _, (by rw [upd_ne nlp]; exact sAll.at hLR'), (hT'.same sAll).upd (sAll.at hP) _, ts ++ List.replicate t.2.2.toNat f, _, rfl, ?_, ?_, ?_⟩
      · rw [upd_same, List.map_append, rep_ref]
      · rw [take_snoc ht, rowOf_snoc]
        exact FrAt.reps (hF.same sAll) (sAll.at hP) (sl.trans sr |>.at upd_same)
      · rw [take_snoc ht, rowOf_snoc]
        intro g hg
        rcases List.mem_append.mp hg with hg | hg
        · exact hok g hg
        · rw [List.eq_of_mem_replicate hg]
          exact ⟨by have := lowP_pos (t := t.1) w1; omega, by have := lowP_le (t := t.1) w1; omega, lowP_gcd w1⟩
  · rintro σ H' ⟨sm, hLR', hT', ts, v3, rfl, hP, hF, hok⟩
    rw [List.length_map, hT.1, take_all] at hF hok
    refine ⟨_, rfl, fun x dx hx hdx hne => ?_⟩
    have s5 : Same H' (upd (upd H' dx (.own x)) x (.ins c.Squared dx [])) := same_own hx hdx
    refine ⟨x, p, dx, ts, _, rfl, upd_same, s5.at hP, hF.same s5, fun l' H6 hl' hX kp => ⟨rfl, ?_⟩⟩
    exact q x l' ts rs H6 hX (sm.trans (kp.same s5 hx)) (sm.free hx) (sm.free (s5.free hl')) hRuns hok

end
end K1

set_option Elab.async false
set_option linter.all false
set_option maxRecDepth 100000
set_option maxHeartbeats 8000000
namespace K1
open PySem L2 Fr1 Up
section
variable {P : Program} {w : World} {K : PySem.W.Frag} {mg : Str → Option Value} {base : Heap} {f : Addr} {fd : FuncData} {c : CA}
theorem ok__law_numbers (M : Bn mg) (F : Fun K "_law_numbers" "_law_numbers" s__law_numbers f fd) : FnOk P w K mg base CX0 1 f fd ["_law_script"] (spNumbers K) := by
  refine F.ok sc__law_numbers (fun vs H Q E h => ?_) (fun cdv A outer s H vs Q E hr h => ?_)
  · obtain ⟨a, ns, rfl, _⟩ := h; rfl
  obtain ⟨a, ns, rfl, hA, h63, hb, q⟩ := h
  refine ⟨_, (pss_cons (ps_set (i := 1) sc__law_numbers.nd rfl (Or.inr rfl) (pe_ix ix_tup (pe_tup (pa_cons pe_int (pa_cons pe_int (pa_cons pe_int pa_nil)))) (pe_op op_mod (pe_callB (call_sumL rfl) rfl M.sum' PyProof.Rows.boot_sum (pa_cons (pv 0) pa_nil)) pe_int) (fun _ _ => rfl)))
      (pss_cons (ps_comp (i := 2) rfl sc__law_numbers.nd rfl rfl (CompScope.one ["_law_cell"] "_law_most" 1) (pi_list (pv 0)) (fun _ _ _ _ _ => (pg_name (i := 0) (show (["_law_cell", "_law_most"] : List Str).Nodup by decide +kernel) rfl (Or.inl rfl) (Or.inr rfl))) (fun _ _ _ _ _ => (pe_ifExp (pt_cmpR op_gt (pv 1) pe_int (nomark _)) (pe_op op_sub (pe_op op_mod (pv 0) (pv 1)) (pe_op op_fdivB (pv 1) pe_int)) (pv 0))))
      (pss_cons (ps_if (PW.pt (pw_and (pt_cmpR op_eq (pv 1) pe_int (nomark _)) (pw_and1 (pt_cmpR op_gt (pe_op op_mod (pe_op op_fdivB (pe_callB (call_sumL rfl) rfl M.sum' PyProof.Rows.boot_sum (pa_cons (pv 0) pa_nil)) pe_int) pe_int) pe_int (nomark _))))) (pss_one (ps_comp (i := 2) rfl sc__law_numbers.nd rfl rfl (CompScope.none ["_law_cell"]) (pi_list (pv 0)) (fun _ _ _ _ _ => (pg_name (i := 0) (show (["_law_cell"] : List Str).Nodup by decide +kernel) rfl (Or.inl rfl) (Or.inr rfl))) (fun _ _ _ _ _ => (pe_op op_mul (pe_op op_mod (pv 0) (pe_op op_pow pe_int pe_int)) (pe_op op_sub pe_int (pe_op op_mul (pe_op op_mod (pe_op op_fdivB (pv 0) (pe_op op_pow pe_int pe_int)) pe_int) pe_int)))))) pss_nil)
      (pss_cons (ps_if (pt_cmpR op_eq (pe_op op_mod (pe_op op_fdivB (pe_callB (call_sumL rfl) rfl M.sum' PyProof.Rows.boot_sum (pa_cons (pv 0) pa_nil)) pe_int) pe_int) pe_int (nomark _)) (pss_one (ps_ret (pe_callB call_sortedL rfl M.sorted' PyProof.Rows.boot_sorted (pa_cons (pv 2) pa_nil)))) pss_nil)
      (pss_one (ps_ret (pe_ifExp (pt_cmpR op_eq (pe_op op_mod (pe_op op_fdivB (pe_callB (call_sumL rfl) rfl M.sum' PyProof.Rows.boot_sum (pa_cons (pv 0) pa_nil)) pe_int) pe_int) pe_int (nomark _)) (pe_rev (pe_callB call_sortedL rfl M.sorted' PyProof.Rows.boot_sorted (pa_cons (pv 2) pa_nil))) (pv 2)))))))), ?_⟩
  obtain ⟨m, hm, hm3⟩ := most_at ns.sum
  refine ⟨(by show 3 ≤ sizeLine; decide), fun t0 ht0 => ?_⟩
  have z0 : Same H (upd H t0 (.tup [.int 7, .int 100, .int 0])) := same_new ht0 _
  refine ⟨_, rfl, a, ns, rfl, z0.seq hA, _, _, rfl, rfl, (by show (0 : Int) < 3; decide), t0, _, _, _, rfl, rfl, SqT.of upd_same, hm, ?_⟩
  refine ⟨_, rfl, a, rfl, ⟨_, z0.seq hA⟩, ?_⟩
  refine comp_list (xs := ns.map V.int) (by rw [List.length_map]; exact le63 (by omega)) (fun i ys H' => H' = upd H t0 (.tup [.int 7, .int 100, .int 0]) ∧ ys = ((ns.take i).map fun c => if 0 < m then c % m - m / 2 else c).map V.int) ⟨rfl, rfl⟩ (fun i ys H' _ h => by rw [h.1]; exact z0.seq hA) ?_ ?_
  · rintro i x ys H' hx ⟨rfl, rfl⟩
    obtain ⟨c, hc, rfl⟩ := ints_at hx
    refine ⟨⟨rfl, rfl⟩, _, rfl, _, _, rfl, rfl, _, rfl, ?_⟩
    have e2 := map_snoc (fun c : Int => if 0 < m then c % m - m / 2 else c) hc
    by_cases hp : 0 < m
    · rw [decide_eq_true hp]
      refine iteT ?_
      refine ⟨_, rfl, _, rfl, _, _, rfl, rfl, hp, _, rfl, _, _, rfl, rfl, ⟨by decide, by decide⟩, _, _, rfl, rfl, rfl, ?_⟩
      rw [e2, if_pos hp, List.map_append]
      rfl
    · rw [decide_eq_false hp]
      refine iteF ?_
      refine ⟨_, rfl, rfl, ?_⟩
      rw [e2, if_neg hp, List.map_append]
      rfl
  · rintro ys H' ⟨rfl, rfl⟩ p hp
    have hpn : H p = none := z0.free hp
    have l1 : ((ns.take (ns.map V.int).length).map fun c => if 0 < m then c % m - m / 2 else c) = ns.map fun c => if 0 < m then c % m - m / 2 else c := by rw [List.length_map, take_all]
    rw [l1]
    have z1 : Same H (upd (upd H t0 (.tup [.int 7, .int 100, .int 0])) p (.lst ((ns.map fun c => if 0 < m then c % m - m / 2 else c).map V.int))) := z0.new hp _
    dsimp only [gName]
    refine seq_with (fun σ' H' => ∃ (p : Addr) (ms : List Int), σ' = [some (.ref a), some (.int m), some (.ref p)] ∧ Same H H' ∧ H p = none ∧ H' p = some (.lst (ms.map V.int)) ∧ ms.length = ns.length ∧ ∀ x ∈ ms, Bt x) ?_ (fun cont => ?_)
    · rintro σ' H1 ⟨p, ms, rfl, sm, hpn, hp1, hl, hbm⟩
      refine ⟨_, rfl, a, ns, rfl, sm.seq hA, _, _, rfl, rfl, ⟨by decide, by decide⟩, _, _, rfl, rfl, (by show (0 : Int) < 7; decide), rfl, _, rfl, ?_⟩
      refine ite2 (fun _ => ?_) (fun _ => ?_)
      · exact ⟨_, rfl, p, ms, rfl, SqL.of hp1, by omega, fun ms' l hperm _ hl' => q l _ ms' (sm.new hl' _) (sm.free hl') upd_same (hperm.length_eq.trans hl) fun x hx => hbm x (hperm.mem_iff.mp hx)⟩
      · refine ⟨_, rfl, a, ns, rfl, sm.seq hA, _, _, rfl, rfl, ⟨by decide, by decide⟩, _, _, rfl, rfl, (by show (0 : Int) < 7; decide), rfl, _, rfl, ?_⟩
        refine ite2 (fun _ => ?_) (fun _ => ?_)
        · refine ⟨_, rfl, p, ms, rfl, SqL.of hp1, by omega, fun ms' l hperm _ hl' => ⟨l, _, rfl, SqL.of upd_same, fun r hr' => ?_⟩⟩
          refine q r _ ms'.reverse ((sm.new hl' _).new hr' _) ((sm.new hl' _).free hr') ?_ ?_ fun x hx => hbm x (hperm.mem_iff.mp (List.mem_reverse.mp hx))
          · rw [upd_same, List.map_reverse]
          · rw [List.length_reverse]; exact hperm.length_eq.trans hl
        · exact ⟨_, rfl, q p H1 ms sm hpn hp1 hl hbm⟩
    · have stay := cont _ _ ⟨p, ns.map fun c => if 0 < m then c % m - m / 2 else c, rfl, z1, hpn, upd_same, by rw [List.length_map], fun x hx => by
        obtain ⟨c, hc, rfl⟩ := List.mem_map.mp hx
        exact bt_first hm3 (hb c hc)⟩
      refine ⟨_, rfl, rfl, _, rfl, ?_⟩
      refine ite2 (fun _ => ?_) (fun _ => iteF stay)
      refine ⟨_, rfl, a, ns, rfl, z1.seq hA, _, _, rfl, rfl, ⟨by decide, by decide⟩, _, _, rfl, rfl, (by show (0 : Int) < 3; decide), _, _, rfl, rfl, _, rfl, ?_⟩
      refine ite2 (fun _ => ?_) (fun _ => stay)
      refine ⟨_, rfl, a, rfl, ⟨_, z1.seq hA⟩, ?_⟩
      refine comp_list (xs := ns.map V.int) (by rw [List.length_map]; exact le63 (by omega)) (fun i ys H' => Same H H' ∧ ∃ ms : List Int, ys = ms.map V.int ∧ ms.length = i ∧ ∀ x ∈ ms, Bt x) ⟨z1, [], rfl, rfl, fun x hx => nomatch hx⟩ (fun i ys H' _ h => h.1.seq hA) ?_ ?_
      · rintro i x ys H' hx ⟨sm, ms, rfl, hml, hmb⟩
        obtain ⟨c, hc, rfl⟩ := ints_at hx
        refine ⟨⟨rfl, rfl⟩, _, rfl, _, _, rfl, rfl, ⟨by decide, by decide, by decide⟩, _, _, rfl, rfl, (by show (0 : Int) < 10 ^ (30 : Int).toNat; decide), _, rfl, _, _, rfl, rfl, ⟨by decide, by decide, by decide⟩, _, _, rfl, rfl, ⟨by decide, by decide⟩, _, _, rfl, rfl, (by show (0 : Int) < 2; decide),
          _, _, rfl, rfl, .inr ⟨by decide, by decide⟩, _, _, rfl, rfl, _, _, rfl, rfl, .inr (one_two _), sm, ms ++ [c % 10 ^ (30 : Int).toNat * (1 - c / 10 ^ (30 : Int).toNat % 2 * 2)], ?_, ?_, fun x hx => ?_⟩
        · rw [List.map_append]; rfl
        · rw [List.length_append, hml]; rfl
        · rcases List.mem_append.mp hx with hx | hx
          · exact hmb x hx
          · rw [List.mem_singleton.mp hx, pow30]
            exact bt_second c
      · rintro ys H' ⟨sm, ms, rfl, hml, hmb⟩ D hD
        exact cont _ _ ⟨D, ms, rfl, sm.new hD _, sm.free hD, upd_same, by rw [hml, List.length_map], hmb⟩

theorem ok__law_weights (M : Bn mg) (F : Fun K "_law_weights" "_law_weights" s__law_weights f fd) : FnOk P w K mg base CX0 1 f fd ["_law_script"] (spWeights K) := by
  refine F.ok sc__law_weights (fun vs H Q E h => ?_) (fun cdv A outer s H vs Q E hr h => ?_)
  · obtain ⟨a, ns, rfl, _⟩ := h; rfl
  obtain ⟨a, ns, rfl, hA, h63, q⟩ := h
  refine ⟨_, (pss_cons (ps_set (i := 1) sc__law_weights.nd rfl (Or.inr rfl) (pe_op op_mod (pe_op op_fdivB (pe_callB (call_sumL rfl) rfl M.sum' PyProof.Rows.boot_sum (pa_cons (pv 0) pa_nil)) pe_int) pe_int))
      (pss_cons (ps_comp (i := 2) rfl sc__law_weights.nd rfl rfl (CompScope.none ["_law_cell"]) (pi_list (pv 0)) (fun _ _ _ _ _ => (pg_name (i := 0) (show (["_law_cell"] : List Str).Nodup by decide +kernel) rfl (Or.inl rfl) (Or.inr rfl))) (fun _ _ _ _ _ => (pe_op op_add (pe_op op_fdivB (pv 0) pe_int) (pe_op op_fdivB (pv 0) (pe_op op_mul pe_int (pe_op op_pow pe_int pe_int))))))
      (pss_one (ps_ret (pe_comp rfl (CompScope.one ["_law_rest"] "_law_kind" 1) (pi_list (pv 2)) (fun _ _ _ _ _ => (pg_name (i := 0) (show (["_law_rest", "_law_kind"] : List Str).Nodup by decide +kernel) rfl (Or.inl rfl) (Or.inr rfl))) (fun _ _ _ _ _ => (pe_ix (ix_tupK (K := K) rfl) (pe_tup (pa_cons pe_int (pa_cons (pe_op op_add pe_int (pe_op op_mod (pv 0) pe_int)) (pa_cons (pe_op op_add pe_int (pe_op op_mod (pv 0) (pe_op op_pow pe_int pe_int))) pa_nil)))) (pv 1) (fun _ _ => rfl)))))))), ?_⟩
  refine ⟨_, rfl, a, ns, rfl, hA, _, _, rfl, rfl, ⟨by decide, by decide⟩, _, _, rfl, rfl, (by show (0 : Int) < 3; decide), ?_⟩
  refine ⟨_, rfl, a, rfl, ⟨_, hA⟩, ?_⟩
  refine comp_list (xs := ns.map V.int) (by rw [List.length_map]; exact le63 (by omega)) (fun i ys H' => H' = H ∧ ∃ ms : List Int, ys = ms.map V.int ∧ ms.length = i) ⟨rfl, [], rfl, rfl⟩ (fun i ys H' _ h => by rw [h.1]; exact hA) ?_ ?_
  · rintro i x ys H' hx ⟨rfl, ms, rfl, hml⟩
    obtain ⟨c, hc, rfl⟩ := ints_at hx
    refine ⟨⟨rfl, rfl⟩, _, rfl, _, _, rfl, rfl, ⟨by decide, by decide⟩, _, rfl, _, _, rfl, rfl, ⟨by decide, by decide, by decide⟩, _, _, rfl, rfl, .inl ⟨by decide, by decide⟩, _, _, rfl, rfl, ⟨by decide, by decide⟩, _, _, rfl, rfl, rfl, ms ++ [c / 7 + c / (2 * 10 ^ (30 : Int).toNat)], ?_, ?_⟩
    · rw [List.map_append]; rfl
    · rw [List.length_append, hml]; rfl
  · rintro ys H' ⟨rfl, ms, rfl, hml⟩ p hp
    rw [List.length_map] at hml
    have z1 : Same H' (upd H' p (.lst (ms.map V.int))) := same_new hp _
    refine ⟨_, rfl, p, rfl, ⟨_, SqL.of upd_same⟩, ?_⟩
    refine comp_list (xs := ms.map V.int) (by rw [List.length_map]; exact le63 (by omega)) (fun i ys H1 => Same (upd H' p (.lst (ms.map V.int))) H1 ∧ ∃ ws : List Int, ys = ws.map V.int ∧ ws.length = i ∧ ∀ x ∈ ws, 1 ≤ x ∧ x ≤ 1000000000) ⟨Same.refl _, [], rfl, rfl, fun x hx => nomatch hx⟩
      (fun i ys H1 _ h => SqL.of (h.1.at upd_same)) ?_ ?_
    · rintro i x ys H1 hx ⟨sm, ws, rfl, hwl, hwb⟩
      obtain ⟨c, hc, rfl⟩ := ints_at hx
      obtain ⟨v, hv, hv1, hv2⟩ := weight_at (t := ns.sum / 21) (a := c % 5) (b := c % 10 ^ (9 : Int).toNat) ⟨Int.emod_nonneg _ (by decide), Int.emod_lt_of_pos _ (by decide)⟩ ⟨Int.emod_nonneg _ (by decide), by rw [pow9]; exact Int.emod_lt_of_pos _ (by decide)⟩
      refine ⟨⟨rfl, rfl⟩, _, rfl, _, _, rfl, rfl, (by show (0 : Int) < 5; decide), _, _, rfl, rfl, _, rfl, _, _, rfl, rfl, ⟨by decide, by decide, by decide⟩, _, _, rfl, rfl, (by show (0 : Int) < 10 ^ (9 : Int).toNat; decide), _, _, rfl, rfl, (by show 3 ≤ sizeLine; decide), fun t ht => ?_⟩
      refine ⟨_, rfl, t, _, _, _, rfl, rfl, SqT.of upd_same, hv, sm.new ht _, ws ++ [v], ?_, ?_, fun x hx => ?_⟩
      · rw [List.map_append]; rfl
      · rw [List.length_append, hwl]; rfl
      · rcases List.mem_append.mp hx with hx | hx
        · exact hwb x hx
        · rw [List.mem_singleton.mp hx]; exact ⟨hv1, hv2⟩
    · rintro ys H1 ⟨sm, ws, rfl, hwl, hwb⟩ D hD
      have z2 : Same H' H1 := z1.trans sm
      exact q D _ ws (z2.new hD _) (z2.free hD) upd_same (by rw [hwl, List.length_map, hml]) hwb

theorem ok__law_low (M : Bn mg) (F : Fun K "_law_low" "_law_low" s__law_low f fd) : FnOk P w K mg base CX0 1 f fd ["_law_above", "_law_below"] spLowW := by
  refine F.ok sc__law_low (fun vs H Q E h => ?_) (fun cdv A outer s H vs Q E hr h => ?_)
  · obtain ⟨t, b, rfl, _⟩ := h; rfl
  obtain ⟨t, b, rfl, hb, hb2, q⟩ := h
  have hb3 := BotOk.bits hb hb2
  refine ⟨_, (pss_cons (ps_par (i := 2) (j := 3) rfl sc__law_low.nd rfl rfl (by decide) rfl rfl (pa_cons (pe_callB call_abs rfl M.abs' boot_absB (pa_cons (pv 0) pa_nil)) (pa_cons (pv 1) pa_nil)) rfl)
      (pss_cons (ps_while PassesOwn.never (pt_cmpR op_gt (pv 3) pe_int (nomark _)) (pss_one (ps_par (i := 2) (j := 3) rfl sc__law_low.nd rfl rfl (by decide) rfl rfl (pa_cons (pv 3) (pa_cons (pe_op op_mod (pv 2) (pv 3)) pa_nil)) rfl)))
      (pss_one (ps_ret (pe_tup (pa_cons (pe_op op_fdivL (pv 0) (pv 2)) (pa_cons (pe_op op_fdivL (pv 1) (pv 2)) pa_nil))))))), ?_⟩
  refine ⟨_, rfl, t, rfl, _, rfl, _, _, rfl, ?_⟩
  refine while_by (fun σ H' => H' = H ∧ ∃ d r, σ = [some (.int t), some (.int b), some (.int d), some (.int r)] ∧ 0 ≤ d ∧ 0 ≤ r ∧ Int.gcd d r = Int.gcd t b)
    (fun σ _ => match σ with | [_, _, _, some (.int r)] => r.toNat | _ => 0) ⟨rfl, _, _, rfl, ?_, ?_, ?_⟩ ?_ (fun σ H Q Q' h ⟨v, e1, i, j, e2, e2', k, e3, q⟩ => ⟨v, e1, i, j, e2, e2', k, e3, h _ _ q⟩)
  · split <;> omega
  · omega
  · have e := gcd_abs t b
    rw [if_neg (show ¬ b < 0 by omega)] at e
    exact e
  rintro σ H' ⟨rfl, d, r, rfl, hd, hr0, hg⟩
  refine ⟨_, rfl, _, _, rfl, rfl, _, rfl, ?_⟩
  by_cases h : 0 < r
  · rw [decide_eq_true h]
    refine iteT ?_
    have h1 := Int.emod_nonneg d (show r ≠ 0 by omega)
    have h2 := Int.emod_lt_of_pos d h
    refine ⟨_, rfl, _, rfl, _, rfl, _, _, rfl, rfl, h, _, _, rfl, ⟨rfl, r, d % r, rfl, hr0, h1, ?_⟩, ?_⟩
    · rw [gcd_turn]; exact hg
    · show (d % r).toNat < r.toNat
      omega
  · rw [decide_eq_false h]
    refine iteF ?_
    have hr1 : r = 0 := by omega
    subst hr1
    have e : (Int.gcd t b : Int) = d := by rw [← hg]; exact gcd_zero_nn hd
    have c := gcdL (x := t) (t := t) hb hb3
    have c' := gcdL (x := b) (t := t) hb hb3
    have q' : ∀ p, H' p = none → Q (.ref p) (upd H' p (.tup [.int (t / d), .int (b / d)])) := fun p hp => by
      have := q p hp
      unfold lowP at this
      rw [e] at this
      exact this
    rw [e] at c c'
    exact ⟨_, rfl, _, rfl, _, _, rfl, rfl, c, _, rfl, _, rfl, _, _, rfl, rfl, c', (by show 2 ≤ sizeLine; decide), fun p hp => q' p hp⟩

theorem ok__law_costs (M : Bn mg) (F_greatest : FnA P w K mg base "greatest" ["numbers", "row"] 6 spGreat) (F_evened : FnA P w K mg base "evened" ["numbers"] 8 (spEvened c)) (F_summed_up : FnA P w K mg base "summed_up" ["numbers", "row", "weights"] 7 spSummed) (F_summed : FnA P w K mg base "summed" ["numbers", "weights"] 9 (spSumP c)) (F_squares : FnA P w K mg base "squares" ["numbers", "row", "weights"] 7 spSquaresW) (F_squared : FnA P w K mg base "squared" ["numbers", "weights"] 7 (spSquaredW c)) (C_Evened : ClsA K mg "Evened" c.Evened) (N_Evened : NaEvened K c.Evened) (C_Summed : ClsA K mg "Summed" c.Summed) (N_Summed : NaSummed K c.Summed) (C_Squared : ClsA K mg "Squared" c.Squared) (N_Squared : NaSquared K c.Squared) (F : Fun K "_law_costs" "_law_costs" s__law_costs f fd) : FnOk P w K mg base CX0 10 f fd ["_law_numbers_here", "_law_weights_here"] spCosts := by
  refine F.ok sc__law_costs (fun vs H Q E h => ?_) (fun cdv A outer s H vs Q E hr h => ?_)
  · obtain ⟨a, b, ns, ws, rfl, _⟩ := h; rfl
  obtain ⟨a, b, ns, ws, rfl, hA, hB, h63, hl, hn, hw, q⟩ := h
  have h1k : ns.length ≤ 1000 := by omega
  have hwok : WOk ws := fun w h => ⟨(hw w h).1, by have := (hw w h).2; omega⟩
  refine ⟨_, (pss_cons (ps_set (i := 2) sc__law_costs.nd rfl (Or.inl rfl) (pe_lst (pa_cons (pe_callA F_greatest (hr.mono (by decide)) rfl (pa_cons (pv 0) (pa_cons (pe_fld (pe_callA F_evened (hr.mono (by decide)) rfl (pa_cons (pv 0) pa_nil)) rfl) pa_nil))) (pa_cons (pe_callA F_summed_up (hr.mono (by decide)) rfl (pa_cons (pv 0) (pa_cons (pe_fld (pe_callA F_summed (hr.mono (by decide)) rfl (pa_cons (pv 0) (pa_cons (pv 1) pa_nil))) rfl) (pa_cons (pv 1) pa_nil)))) pa_nil))))
      (pss_one (ps_ret (pe_op op_cat (pv 2) (pe_lst (pa_cons (pe_callA F_squares (hr.mono (by decide)) rfl (pa_cons (pv 0) (pa_cons (pe_fld (pe_callA F_squared (hr.mono (by decide)) rfl (pa_cons (pv 0) (pa_cons (pv 1) pa_nil))) rfl) (pa_cons (pv 1) pa_nil)))) pa_nil)))))), ?_⟩
  refine ⟨_, rfl, _, rfl, a, ns, rfl, hA, h1k, fun x1 r1 row1 i1 j1 H1 X1 s1 hx1 hr1 E1 => ?_⟩
  obtain ⟨dx1, fl1, ob1, l11, l12, l13, l14⟩ := X1.ob
  refine ⟨x1, _, dx1, fl1, _, rfl, ob1, C_Evened.cl, N_Evened.r, l11, ?_⟩
  refine ⟨a, r1, ns, row1, rfl, s1.at hA, X1.rl, h1k, E1.len, fun H2 s2 => ?_⟩
  have s12 := s1.trans s2
  refine ⟨_, rfl, _, rfl, _, rfl, a, b, ns, ws, rfl, s12.at hA, s12.at hB, by omega, hl, hwok, fun x2 r2 p2 row2 pulls H3 X2 s3 hx2 hr2 hp2 _ E2 => ?_⟩
  have s13 := s12.trans s3
  obtain ⟨dx2, fl2, ob2, l21, l22, l23⟩ := X2.ob
  refine ⟨x2, _, dx2, fl2, _, rfl, ob2, C_Summed.cl, N_Summed.r, l21, ?_⟩
  refine ⟨_, rfl, a, r2, b, ns, row2, ws, rfl, s13.at hA, X2.rl, s13.at hB, h1k, E2.1, hl, (fun w h => ⟨(hw w h).1, by have := (hw w h).2; omega⟩), fun H4 s4 => ?_⟩
  have s14 := s13.trans s4
  refine ⟨(by show 2 ≤ sizeLine; decide), fun fo hfo => ?_⟩
  have s15 := s14.new hfo (.lst [.int (maxL (dl ns row1)), .int (wl ws (dl ns row2)).sum])
  generalize hH5 : upd H4 fo (.lst [.int (maxL (dl ns row1)), .int (wl ws (dl ns row2)).sum]) = H5 at s15
  have hFo : H5 fo = some (.lst [.int (maxL (dl ns row1)), .int (wl ws (dl ns row2)).sum]) := by rw [← hH5]; exact upd_same
  refine ⟨_, rfl, _, rfl, _, rfl, _, rfl, a, b, ns, ws, rfl, s15.at hA, s15.at hB, h1k, hl, hwok, fun x3 r3 rs3 tr H6 X3 s6 hx3 hr3 hR hok => ?_⟩
  have s16 := s15.trans s6
  obtain ⟨dx3, fl3, ob3, l31, l32⟩ := X3.ob
  have hSq := runs_sq hR
  have hfb := runs_fb (B := 1090000) hR hn (by decide) hw (by omega)
  have hz : ∀ z ∈ z3 ns ws (rowOf tr), TurnW z.1 z.2.1 z.2.2.1 z.2.2.2 := fun z hz => by
    unfold z3 at hz
    obtain ⟨zn, zw, zp, zq⟩ := z
    obtain ⟨y1, y2⟩ := List.of_mem_zip hz
    obtain ⟨y3, y4⟩ := List.of_mem_zip y2
    have f1 := hfb _ y4
    have f2 := hok _ y4
    have n1 := hn _ y1
    exact ⟨f2.1, f1.1, (hw _ y3).1, (hw _ y3).2, Nat.le_trans n1 (by decide), Nat.le_trans f1.2 (by decide)⟩
  refine ⟨x3, _, dx3, fl3, _, rfl, ob3, C_Squared.cl, N_Squared.r, l31, ?_⟩
  refine ⟨_, rfl, a, r3, b, ns, ws, rs3, rowOf tr, rfl, s16.at hA, X3.rl, s16.at hB, X3.fr, by omega, hSq.len, hl, (fun f hf => ⟨(hok f hf).1, (hok f hf).2.2⟩), hz, (fun w h => (hw w h).1), fun t H7 s7 ht hT => ?_⟩
  have s17 := s16.trans s7
  refine ⟨(by show 1 ≤ sizeLine; decide), fun l1 hl1 => ?_⟩
  have s8 := same_new hl1 (.lst [.ref t])
  refine ⟨fo, l1, _, _, rfl, rfl, s8.at (s7.at (s6.at hFo)), upd_same, (by show 2 + 1 ≤ sizeLine; decide), fun p hp => ?_⟩
  have s9 := same_new hp (.lst ([.int (maxL (dl ns row1)), .int (wl ws (dl ns row2)).sum] ++ [.ref t]))
  have A := accL_Wall hl hSq.len hz
  refine q p t _ _ (accL (z3 ns ws (rowOf tr))) _ (s17.trans (s8.trans s9)) (s17.trans s8 |>.free hp) upd_same ((s8.trans s9).at hT) ⟨⟨row1, i1, j1, E1, rfl⟩, ⟨_, _, E2.2.2, cost_sm E2.1 hl⟩, ⟨_, hSq, SqP.fp (ns := ns) (ws := ws) hok, rfl⟩⟩ ?_
  have := A.b2
  omega

end
end K1

set_option Elab.async false
set_option linter.all false
set_option maxRecDepth 100000
set_option maxHeartbeats 8000000
namespace K1
open PySem L2 Fr1 Up
section
variable {P : Program} {w : World} {K : PySem.W.Frag} {mg : Str → Option Value} {base : Heap} {f : Addr} {fd : FuncData} {c : CA}
theorem ok_law (M : Bn mg) (F__law_numbers : FnA P w K mg base "_law_numbers" ["_law_script"] 1 (spNumbers K)) (F__law_weights : FnA P w K mg base "_law_weights" ["_law_script"] 1 (spWeights K)) (F__law_costs : FnA P w K mg base "_law_costs" ["_law_numbers_here", "_law_weights_here"] 10 spCosts) (F__law_low : FnA P w K mg base "_law_low" ["_law_above", "_law_below"] 1 spLowW) (F_squared : FnA P w K mg base "squared" ["numbers", "weights"] 7 (spSquaredW c)) (C_Squared : ClsA K mg "Squared" c.Squared) (N_Squared : NaSquared K c.Squared) (F : Fun K "law" "law" s_law f fd) : FnOk P w K mg base CX0 12 f fd ["_law_script"] (spLaw K) := by
  refine F.ok sc_law (fun vs H Q E h => ?_) (fun cdv A outer s H vs Q E hr h => ?_)
  · obtain ⟨a, ns, rfl, _⟩ := h; rfl
  obtain ⟨a, ns, rfl, hA, h63, hb, q⟩ := h
  refine ⟨_, (pss_cons (ps_par (i := 1) (j := 2) rfl sc_law.nd rfl rfl (by decide) rfl rfl (pa_cons (pe_callA F__law_numbers (hr.mono (by decide)) rfl (pa_cons (pv 0) pa_nil)) (pa_cons (pe_callA F__law_weights (hr.mono (by decide)) rfl (pa_cons (pv 0) pa_nil)) pa_nil)) rfl)
      (pss_cons (ps_par (i := 3) (j := 4) rfl sc_law.nd rfl rfl (by decide) rfl rfl (pa_cons (pe_callA F__law_costs (hr.mono (by decide)) rfl (pa_cons (pv 1) (pa_cons (pv 2) pa_nil))) (pa_cons (pe_fld (pe_callA F_squared (hr.mono (by decide)) rfl (pa_cons (pv 1) (pa_cons (pv 2) pa_nil))) rfl) pa_nil)) rfl)
      (pss_cons (ps_asg (pe_tup (pa_cons (pe_rev (pe_comp rfl (CompScope.none ["_law_number"]) (pi_list (pv 1)) (fun _ _ _ _ _ => (pg_name (i := 0) (show (["_law_number"] : List Str).Nodup by decide +kernel) rfl (Or.inl rfl) (Or.inr rfl))) (fun _ _ _ _ _ => (pe_un un_neg (pv 0))))) (pa_cons (pe_rev (pv 2)) (pa_cons (pe_op op_add (pe_callB (call_sumL rfl) rfl M.sum' PyProof.Rows.boot_sum (pa_cons (pv 0) pa_nil)) pe_int) pa_nil)))) (pg_threeC (K := K) (i := 5) (j := 6) (l := 7) rfl rfl sc_law.nd rfl rfl rfl rfl rfl (Or.inr rfl) rfl))
      (pss_cons (ps_if (pt_cmpR (op_neL hr.units) (pe_callA F__law_costs (hr.mono (by decide)) rfl (pa_cons (pv 5) (pa_cons (pv 6) pa_nil))) (pv 3) (nomark _)) (pss_one (ps_ret pe_bl)) pss_nil)
      (pss_cons (ps_if (pt_cmpR (op_neL hr.units) (pe_fld (pe_callA F_squared (hr.mono (by decide)) rfl (pa_cons (pv 5) (pa_cons (pv 6) pa_nil))) rfl) (pe_comp rfl (CompScope.none ["_law_above", "_law_below"]) (pi_list (pe_rev (pv 4))) (fun _ _ _ _ _ => (pg_two (K := K) (i := 0) (j := 1) rfl rfl (show (["_law_above", "_law_below"] : List Str).Nodup by decide +kernel) rfl rfl rfl rfl)) (fun _ _ _ _ _ => (pe_tup (pa_cons (pe_un un_neg (pv 0)) (pa_cons (pv 1) pa_nil))))) (nomark _)) (pss_one (ps_ret pe_bl)) pss_nil)
      (pss_cons (ps_comp (i := 8) rfl sc_law.nd rfl rfl (CompScope.one ["_law_number"] "_law_far" 7) (pi_list (pv 1)) (fun _ _ _ _ _ => (pg_name (i := 0) (show (["_law_number", "_law_far"] : List Str).Nodup by decide +kernel) rfl (Or.inl rfl) (Or.inr rfl))) (fun _ _ _ _ _ => (pe_op op_add (pv 0) (pv 1))))
      (pss_cons (ps_if (pt_cmpR (op_neL hr.units) (pe_callA F__law_costs (hr.mono (by decide)) rfl (pa_cons (pv 8) (pa_cons (pv 2) pa_nil))) (pv 3) (nomark _)) (pss_one (ps_ret pe_bl)) pss_nil)
      (pss_cons (ps_if (pt_cmpR (op_neL hr.units) (pe_fld (pe_callA F_squared (hr.mono (by decide)) rfl (pa_cons (pv 8) (pa_cons (pv 2) pa_nil))) rfl) (pe_comp rfl (CompScope.one ["_law_above", "_law_below"] "_law_far" 7) (pi_list (pv 4)) (fun _ _ _ _ _ => (pg_two (K := K) (i := 0) (j := 1) rfl rfl (show (["_law_above", "_law_below", "_law_far"] : List Str).Nodup by decide +kernel) rfl rfl rfl rfl)) (fun _ _ _ _ _ => (pe_callA F__law_low (hr.mono (by decide)) rfl (pa_cons (pe_op op_add (pv 0) (pe_op op_mul (pv 2) (pv 1))) (pa_cons (pv 1) pa_nil))))) (nomark _)) (pss_one (ps_ret pe_bl)) pss_nil)
      (pss_cons (ps_comp (i := 9) rfl sc_law.nd rfl rfl (CompScope.none ["_law_number"]) (pi_list (pv 1)) (fun _ _ _ _ _ => (pg_name (i := 0) (show (["_law_number"] : List Str).Nodup by decide +kernel) rfl (Or.inl rfl) (Or.inr rfl))) (fun _ _ _ _ _ => (pe_op op_mul pe_int (pv 0))))
      (pss_cons (ps_set (i := 10) sc_law.nd rfl (Or.inl rfl) (pe_callA F__law_costs (hr.mono (by decide)) rfl (pa_cons (pv 9) (pa_cons (pv 2) pa_nil))))
      (pss_cons (ps_if (PW.pt (pw_or (pt_cmpR op_ne (pe_ix ix_list (pv 10) pe_int (fun _ _ => rfl)) (pe_op op_mul pe_int (pe_ix ix_list (pv 3) pe_int (fun _ _ => rfl))) (nomark _)) (pw_or1 (pt_cmpR (op_neT hr.units) (pe_ix ix_list (pv 10) pe_int (fun _ _ => rfl)) (pe_callA F__law_low (hr.mono (by decide)) rfl (pa_cons (pe_op op_mul pe_int (pe_ix ix_tup (pe_ix ix_list (pv 3) pe_int (fun _ _ => rfl)) pe_int (fun _ _ => rfl))) (pa_cons (pe_ix ix_tup (pe_ix ix_list (pv 3) pe_int (fun _ _ => rfl)) pe_int (fun _ _ => rfl)) pa_nil))) (nomark _))))) (pss_one (ps_ret pe_bl)) pss_nil)
      (pss_cons (ps_if (pt_cmpR (op_neL hr.units) (pe_fld (pe_callA F_squared (hr.mono (by decide)) rfl (pa_cons (pv 9) (pa_cons (pv 2) pa_nil))) rfl) (pe_comp rfl (CompScope.none ["_law_above", "_law_below"]) (pi_list (pv 4)) (fun _ _ _ _ _ => (pg_two (K := K) (i := 0) (j := 1) rfl rfl (show (["_law_above", "_law_below"] : List Str).Nodup by decide +kernel) rfl rfl rfl rfl)) (fun _ _ _ _ _ => (pe_callA F__law_low (hr.mono (by decide)) rfl (pa_cons (pe_op op_mul pe_int (pv 0)) (pa_cons (pv 1) pa_nil))))) (nomark _)) (pss_one (ps_ret pe_bl)) pss_nil)
      (pss_cons (ps_if (pt_cmpR (op_neL hr.units) (pe_fld (pe_callA F_squared (hr.mono (by decide)) rfl (pa_cons (pv 1) (pa_cons (pe_comp rfl (CompScope.none ["_law_one"]) (pi_list (pv 2)) (fun _ _ _ _ _ => (pg_name (i := 0) (show (["_law_one"] : List Str).Nodup by decide +kernel) rfl (Or.inl rfl) (Or.inr rfl))) (fun _ _ _ _ _ => (pe_op op_mul pe_int (pv 0)))) pa_nil))) rfl) (pv 4) (nomark _)) (pss_one (ps_ret pe_bl)) pss_nil)
      (pss_one (ps_ret (pe_cmpR (op_eqL hr.units) (pe_callA F__law_costs (hr.mono (by decide)) rfl (pa_cons (pe_callB call_sortedL rfl M.sorted' PyProof.Rows.boot_sorted (pa_cons (pv 1) pa_nil)) (pa_cons (pv 2) pa_nil))) (pe_lst (pa_cons pe_int (pa_cons pe_int (pa_cons (pe_tup (pa_cons pe_int (pa_cons pe_int pa_nil))) pa_nil)))) (nomark _))))))))))))))))), ?_⟩
  refine ⟨_, rfl, a, ns, rfl, hA, h63, hb, fun p H1 ms s1 hp hP hml hmb => ?_⟩
  refine ⟨_, rfl, a, ns, rfl, s1.seq hA, h63, fun pw H2 ws s2 hpw hW hwl hwb => ⟨_, _, rfl, ?_⟩⟩
  have hwok : WOk ws := fun w hw => ⟨(hwb w hw).1, by have := (hwb w hw).2; omega⟩
  have hw1 : ∀ w ∈ ws, 1 ≤ w := fun w hw => (hwb w hw).1
  have hlw : ws.length = ms.length := by omega
  have s12 := s1.trans s2
  have hP2 := s2.at hP
  have hmB : ∀ m ∈ ms, bits m ≤ 1048576 := hmb
  -- the costs, the row
  refine ⟨_, rfl, _, rfl, p, pw, ms, ws, rfl, hP2, hW, by omega, hlw, (fun m hm => Nat.le_trans (hmB m hm) (by decide)), hwb, fun pd td g s f H3 s3 hpd hD0 hTd hC hfb => ?_⟩
  refine ⟨_, rfl, _, rfl, p, pw, ms, ws, rfl, s3.at hP2, s3.at hW, by omega, hlw, hwok, fun x r rs tr H4 hX s4 hx hr0 hRuns hok => ?_⟩
  obtain ⟨dx, fl, ob, l1, l2⟩ := hX.ob
  have hE := runs_sq hRuns
  have hFP : FP (rowOf tr) := SqP.fp (ns := ms) (ws := ws) hok
  refine ⟨x, _, dx, fl, _, rfl, ob, C_Squared.cl, N_Squared.r, l1, ⟨_, _, rfl, ?_⟩⟩
  have s34 := s3.trans s4
  -- turned
  refine ⟨_, rfl, p, rfl, ⟨_, SqL.of (s34.at hP2)⟩, ?_⟩
  refine comp_list (xs := ms.map V.int) (by rw [List.length_map]; exact le1000 (by omega)) (fun i ys H' => H' = H4 ∧ ys = ((ms.take i).map fun x => -x).map V.int) ⟨rfl, rfl⟩ (fun i ys H' _ h => by rw [h.1]; exact SqL.of (s34.at hP2)) ?_ ?_
  · rintro i x ys H' hx ⟨rfl, rfl⟩
    obtain ⟨z, hz, rfl⟩ := ints_at hx
    refine ⟨⟨rfl, rfl⟩, _, rfl, z, rfl, rfl, ?_⟩
    rw [map_snoc _ hz, List.map_append]; rfl
  rintro ys H' ⟨rfl, rfl⟩ D hD
  rw [List.length_map, take_all]
  have sD := same_new hD (.lst ((ms.map fun x => -x).map V.int))
  refine ⟨D, _, rfl, SqL.of upd_same, fun tn htn => ?_⟩
  have sT := same_new htn (.lst ((ms.map fun x => -x).map V.int).reverse)
  have u5 := sD.trans sT
  have s35 := s34.trans (sD.trans sT)
  generalize hH5 : upd (upd H' D (.lst ((ms.map fun x => -x).map V.int))) tn (.lst ((ms.map fun x => -x).map V.int).reverse) = H5 at sT u5 s35 ⊢
  have hTn : H5 tn = some (.lst ((tnL ms).map V.int)) := by rw [← hH5, upd_same]; unfold tnL; rw [List.map_reverse]
  refine ⟨_, rfl, pw, _, rfl, SqL.of (s35.at hW), fun bk hbk => ?_⟩
  have sB := same_new hbk (.lst (ws.map V.int).reverse)
  refine ⟨_, rfl, a, ns, rfl, sB.seq (s35.seq (s12.seq hA)), _, _, rfl, rfl, (by show 3 ≤ sizeLine; decide), fun tp htp => ?_⟩
  have sP := same_new htp (.tup [.ref tn, .ref bk, .int (ns.sum + 7)])
  have u6 := u5.trans (sB.trans sP)
  have s36 := s35.trans (sB.trans sP)
  generalize hH6 : upd (upd H5 bk (.lst (ws.map V.int).reverse)) tp (.tup [.ref tn, .ref bk, .int (ns.sum + 7)]) = H6 at sP u6 s36 ⊢
  refine ⟨tp, _, rfl, SqT.of (by rw [← hH6]; exact upd_same), rfl, _, _, rfl, _, _, rfl, _, _, rfl, rfl, ?_⟩
  have hTn6 := (sB.trans sP).at hTn
  have hBk6 : H6 bk = some (.lst (ws.reverse.map V.int)) := by rw [sP.at upd_same, List.map_reverse]
  have hD6 := (s4.trans u6).at hD0
  have hTd6 := (s4.trans u6).at hTd
  have hTl := tnL_length ms
  have hwr : ∀ w ∈ ws.reverse, 1 ≤ w ∧ w ≤ 1000000000 := fun w hw => hwb w (List.mem_reverse.mp hw)
  have hwrok : WOk ws.reverse := fun w hw => hwok w (List.mem_reverse.mp hw)
  refine ⟨_, rfl, _, rfl, tn, bk, tnL ms, ws.reverse, rfl, hTn6, hBk6, by omega, by rw [List.length_reverse]; omega, tn_bits (fun m hm => Nat.le_trans (hmB m hm) (by decide)), hwr, fun pc tc g2 z2 f2 H7 s7 hpc hC7 hT7 hC2 _ => ?_⟩
  obtain ⟨ea, eb, ec⟩ := hC.turn hlw hw1 hC2
  rw [ea, eb] at hC7
  rw [ec] at hT7
  refine ⟨_, rfl, 1, true, by decide, EqL.cost (SqL.of hC7) (SqL.of (s7.at hD6)) (SqT.of hT7) (SqT.of (s7.at hTd6)), _, rfl, iteF ?_⟩
  have s47 := u6.trans s7
  -- its row
  refine ⟨_, rfl, _, rfl, tn, bk, tnL ms, ws.reverse, rfl, s7.at hTn6, s7.at hBk6, by omega, by rw [List.length_reverse]; omega, hwrok, fun x2 r2 rs2 tr2 H8 hX2 s8 hx2 hr2 hR2 hok2 => ?_⟩
  obtain ⟨dx2, fl2, ob2, l21, l22⟩ := hX2.ob
  have e2 := sq_turn hlw hw1 hE hFP (runs_sq hR2) (SqP.fp (ns := ms) (ws := ws) hok2)
  refine ⟨x2, _, dx2, fl2, _, rfl, ob2, C_Squared.cl, N_Squared.r, l21, ?_⟩
  have s48 := s47.trans s8
  have hXa := hX.same s48
  refine ⟨_, rfl, r, _, rfl, SqL.of hXa.rl, fun rr hrr => ?_⟩
  have s9 := same_new hrr (.lst (rs.map V.ref).reverse)
  have hRR : upd H8 rr (.lst (rs.map V.ref).reverse) rr = some (.lst (rs.reverse.map V.ref)) := by rw [upd_same, List.map_reverse]
  have hFr := (hXa.fr.same s9).rev
  refine ⟨rr, rfl, ⟨_, SqL.of hRR⟩, ?_⟩
  refine comp_list (xs := rs.reverse.map V.ref) (by rw [List.length_map, List.length_reverse, hX.fr.1, hE.len]; exact le1000 (by omega)) (fun i ys H' => Same (upd H8 rr (.lst (rs.map V.ref).reverse)) H' ∧ ∃ ts : List Addr, ys = ts.map V.ref ∧ FrAt H' ts ((tnF (rowOf tr)).take i)) ⟨Same.refl _, [], rfl, FrAt.nil _⟩ (fun i ys H' _ h => SqL.of (h.1.at hRR)) ?_ ?_
  · rintro i y ys H' hy ⟨sy, ts, rfl, hF⟩
    obtain ⟨u, hu, rfl⟩ := refs_at hy
    have hi : i < (rowOf tr).length := by rw [← hX.fr.1, ← List.length_reverse]; exact (List.getElem?_eq_some_iff.mp hu).1
    obtain ⟨v, hv⟩ := get_of (xs := (rowOf tr).reverse) (i := i) (by rw [List.length_reverse]; exact hi)
    have hU := (hFr.same sy).2 i u v hu hv
    refine ⟨u, _, rfl, SqT.of hU, rfl, _, _, rfl, _, _, rfl, rfl, ⟨rfl, rfl⟩, _, rfl, _, rfl, _, rfl, (by show 2 ≤ sizeLine; decide), fun t ht => ⟨sy.new ht _, ts ++ [t], ?_, ?_⟩⟩
    · rw [List.map_append]; rfl
    · have e : (tnF (rowOf tr))[i]? = some (-v.1, v.2) := by unfold tnF; rw [List.getElem?_map, hv]; rfl
      rw [take_snoc e]
      exact hF.snoc ht
  rintro ys H' ⟨sy, ts, rfl, hF⟩ D2 hD2
  rw [List.length_map, List.length_reverse, hX.fr.1, ← tnF_length, take_all] at hF
  have sD2 := same_new hD2 (.lst (ts.map V.ref))
  refine ⟨1, true, by decide, EqL.tups (SqL.of ((s9.trans (sy.trans sD2)).at hX2.rl)) (SqL.of upd_same) (hX2.fr.same (s9.trans (sy.trans sD2))) (hF.same sD2) e2, _, rfl, iteF ?_⟩
  have s49 := s48.trans (s9.trans (sy.trans sD2))
  generalize upd H' D2 (.lst (ts.map V.ref)) = H10 at sD2 s49 ⊢
  -- moved
  have m10 := s34.trans s49
  refine ⟨_, rfl, p, rfl, ⟨_, SqL.of (m10.at hP2)⟩, ?_⟩
  refine comp_list (xs := ms.map V.int) (by rw [List.length_map]; exact le1000 (by omega)) (fun i ys H' => H' = H10 ∧ ys = ((ms.take i).map fun x => x + (ns.sum + 7)).map V.int) ⟨rfl, rfl⟩ (fun i ys H' _ h => by rw [h.1]; exact SqL.of (m10.at hP2)) ?_ ?_
  · rintro i x ys H' hx ⟨rfl, rfl⟩
    obtain ⟨z, hz, rfl⟩ := ints_at hx
    refine ⟨⟨rfl, rfl⟩, _, rfl, _, rfl, _, _, rfl, rfl, rfl, ?_⟩
    rw [map_snoc _ hz, List.map_append]; rfl
  rintro ys H'' ⟨rfl, rfl⟩ mv hmv
  rw [List.length_map, take_all]
  have s11 := same_new hmv (.lst ((ms.map fun x => x + (ns.sum + 7)).map V.int))
  have t11 := s49.trans s11
  have m11 := m10.trans s11
  generalize hH11 : upd H'' mv (.lst ((ms.map fun x => x + (ns.sum + 7)).map V.int)) = H11 at s11 t11 m11 ⊢
  have hMv : H11 mv = some (.lst ((mvL (ns.sum + 7) ms).map V.int)) := by rw [← hH11]; exact upd_same
  have hfar : bits (ns.sum + 7) ≤ 1060000 := by
    have z1 := sum_bits (k := 1048576) (by decide) ns hb
    have z2 := intBits_add_le z1 (show bits 7 ≤ 3 by decide)
    refine Nat.le_trans z2 ?_
    rw [Nat.max_def]
    split <;> omega
  have hml' : (mvL (ns.sum + 7) ms).length = ms.length := by unfold mvL; rw [List.length_map]
  refine ⟨_, rfl, _, rfl, mv, pw, mvL (ns.sum + 7) ms, ws, rfl, hMv, m11.at hW, by omega, by omega, (fun m hm => Nat.le_trans (mv_bits hmB hfar (by decide) m hm) (by decide)), hwb, fun pc tc g2 z2 f2 H12 s12' hpc hC12 hT12 hC2' _ => ?_⟩
  obtain ⟨ea, eb, ec⟩ := hC.move (ns.sum + 7) hlw hw1 hC2'
  rw [ea, eb] at hC12
  rw [ec] at hT12
  have t12 := t11.trans s12'
  refine ⟨_, rfl, 1, true, by decide, EqL.cost (SqL.of hC12) (SqL.of ((s4.trans t12).at hD0)) (SqT.of hT12) (SqT.of ((s4.trans t12).at hTd)), _, rfl, iteF ?_⟩
  have m12 := m11.trans s12'
  refine ⟨_, rfl, _, rfl, mv, pw, mvL (ns.sum + 7) ms, ws, rfl, s12'.at hMv, m12.at hW, by omega, by omega, hwok, fun x3 r3 rs3 tr3 H13 hX3 s13 hx3 hr3 hR3 hok3 => ?_⟩
  obtain ⟨dx3, fl3, ob3, l31, l32⟩ := hX3.ob
  have e3 := sq_move (ns.sum + 7) hlw hw1 hE hFP (runs_sq hR3) (SqP.fp (ns := ms) (ws := ws) hok3)
  refine ⟨x3, _, dx3, fl3, _, rfl, ob3, C_Squared.cl, N_Squared.r, l31, ?_⟩
  have t13 := t12.trans s13
  have hXb := hX.same t13
  refine ⟨_, rfl, r, rfl, ⟨_, SqL.of hXb.rl⟩, ?_⟩
  refine comp_list (xs := rs.map V.ref) (by rw [List.length_map, hX.fr.1, hE.len]; exact le1000 (by omega)) (fun i ys H' => Same H13 H' ∧ ∃ ts : List Addr, ys = ts.map V.ref ∧ FrAt H' ts ((mvF (ns.sum + 7) (rowOf tr)).take i)) ⟨Same.refl _, [], rfl, FrAt.nil _⟩ (fun i ys H' _ h => SqL.of (h.1.at hXb.rl)) ?_ ?_
  · rintro i y ys H' hy ⟨sy, ts, rfl, hF⟩
    obtain ⟨u, hu, rfl⟩ := refs_at hy
    have hi : i < (rowOf tr).length := by rw [← hX.fr.1]; exact (List.getElem?_eq_some_iff.mp hu).1
    obtain ⟨v, hv⟩ := get_of (xs := rowOf tr) (i := i) hi
    have hU := (hXb.fr.same sy).2 i u v hu hv
    have ho := hok v (List.mem_of_getElem? hv)
    refine ⟨u, _, rfl, SqT.of hU, rfl, _, _, rfl, _, _, rfl, rfl, ⟨rfl, rfl⟩, _, rfl, _, rfl, _, rfl, _, _, rfl, rfl, .inr ⟨by omega, by omega⟩, _, _, rfl, rfl, _, rfl, _, _, rfl, by omega, by omega, fun t ht => ⟨sy.new ht _, ts ++ [t], ?_, ?_⟩⟩
    · rw [List.map_append]; rfl
    · have e : (mvF (ns.sum + 7) (rowOf tr))[i]? = some (lowP (v.1 + (ns.sum + 7) * v.2) v.2) := by unfold mvF; rw [List.getElem?_map, hv]; rfl
      rw [take_snoc e]
      exact hF.snoc ht
  rintro ys H' ⟨sy, ts3, rfl, hF⟩ D3 hD3
  rw [List.length_map, hX.fr.1, show (rowOf tr).length = (mvF (ns.sum + 7) (rowOf tr)).length by unfold mvF; rw [List.length_map], take_all] at hF
  have sD3 := same_new hD3 (.lst (ts3.map V.ref))
  refine ⟨1, true, by decide, EqL.tups (SqL.of ((sy.trans sD3).at hX3.rl)) (SqL.of upd_same) (hX3.fr.same (sy.trans sD3)) (hF.same sD3) e3, _, rfl, iteF ?_⟩
  have t14 := t13.trans (sy.trans sD3)
  generalize upd H' D3 (.lst (ts3.map V.ref)) = H14 at sD3 t14 ⊢
  -- three times as great
  have m14 := s34.trans t14
  refine ⟨_, rfl, p, rfl, ⟨_, SqL.of (m14.at hP2)⟩, ?_⟩
  refine comp_list (xs := ms.map V.int) (by rw [List.length_map]; exact le1000 (by omega)) (fun i ys H' => H' = H14 ∧ ys = ((ms.take i).map fun x => 3 * x).map V.int) ⟨rfl, rfl⟩ (fun i ys H' _ h => by rw [h.1]; exact SqL.of (m14.at hP2)) ?_ ?_
  · rintro i x ys H' hx ⟨rfl, rfl⟩
    obtain ⟨z, hz, rfl⟩ := ints_at hx
    refine ⟨⟨rfl, rfl⟩, _, rfl, _, _, rfl, rfl, .inl ⟨by decide, by decide⟩, rfl, ?_⟩
    rw [map_snoc _ hz, List.map_append]; rfl
  rintro ys Hg ⟨rfl, rfl⟩ gr hgr
  rw [List.length_map, take_all]
  have s15 := same_new hgr (.lst ((ms.map fun x => 3 * x).map V.int))
  have t15 := t14.trans s15
  have m15 := m14.trans s15
  generalize hH15 : upd Hg gr (.lst ((ms.map fun x => 3 * x).map V.int)) = H15 at s15 t15 m15 ⊢
  have hGr : H15 gr = some (.lst ((grL ms).map V.int)) := by rw [← hH15]; exact upd_same
  have hgl : (grL ms).length = ms.length := by unfold grL; rw [List.length_map]
  refine ⟨_, rfl, _, rfl, gr, pw, grL ms, ws, rfl, hGr, m15.at hW, by omega, by omega, (fun m hm => Nat.le_trans (gr_bits hmB m hm) (by decide)), hwb, fun pc tc g3 z3' f3 H16 s16 hpc hC16 hT16 hC3 _ => ?_⟩
  obtain ⟨rfl, rfl⟩ := hC.great hlw hw1 hC3
  have t16 := t15.trans s16
  have m16 := m15.trans s16
  have fp := hC.fp hlw
  have hD16 := (s4.trans t16).at hD0
  have hTd16 := (s4.trans t16).at hTd
  refine ⟨_, rfl, pc, _, 1, _, rfl, rfl, SqL.of hC16, rfl, _, rfl, pd, _, 1, _, rfl, rfl, SqL.of hD16, rfl, _, _, rfl, rfl, .inl ⟨by decide, by decide⟩, rfl, ?_⟩
  refine ⟨_, rfl, iteNF rfl ?_⟩
  refine ⟨_, rfl, pc, _, 2, _, rfl, rfl, SqL.of hC16, rfl, _, rfl, pd, _, 2, _, rfl, rfl, SqL.of hD16, rfl, td, _, 0, _, rfl, rfl, SqT.of hTd16, rfl, _, _, rfl, rfl, .inl ⟨by decide, by decide⟩, _, rfl, pd, _, 2, _, rfl, rfl, SqL.of hD16, rfl, td, _, 1, _, rfl, rfl, SqT.of hTd16, rfl, _, _, rfl, fp.1, .inr hfb, fun lo hlo => ?_⟩
  have s17 := same_new hlo (.tup [.int (lowP (9 * f.1) f.2).1, .int (lowP (9 * f.1) f.2).2])
  refine ⟨1, true, by decide, EqT.pair (SqT.of (s17.at hT16)) (SqT.of upd_same), _, rfl, iteF ?_⟩
  have t17 := t16.trans s17
  have m17 := m16.trans s17
  have hGr17 := s17.at (s16.at hGr)
  generalize upd H16 lo (.tup [.int (lowP (9 * f.1) f.2).1, .int (lowP (9 * f.1) f.2).2]) = H17 at s17 t17 m17 hGr17 ⊢
  refine ⟨_, rfl, _, rfl, gr, pw, grL ms, ws, rfl, hGr17, m17.at hW, by omega, by omega, hwok, fun x4 r4 rs4 tr4 H18 hX4 s18 hx4 hr4 hR4 hok4 => ?_⟩
  obtain ⟨dx4, fl4, ob4, l41, l42⟩ := hX4.ob
  have e4 := sq_great hlw hw1 hE hFP (runs_sq hR4) (SqP.fp (ns := ms) (ws := ws) hok4)
  refine ⟨x4, _, dx4, fl4, _, rfl, ob4, C_Squared.cl, N_Squared.r, l41, ?_⟩
  have t18 := t17.trans s18
  have hXc := hX.same t18
  refine ⟨_, rfl, r, rfl, ⟨_, SqL.of hXc.rl⟩, ?_⟩
  refine comp_list (xs := rs.map V.ref) (by rw [List.length_map, hX.fr.1, hE.len]; exact le1000 (by omega)) (fun i ys H' => Same H18 H' ∧ ∃ ts : List Addr, ys = ts.map V.ref ∧ FrAt H' ts ((grF (rowOf tr)).take i)) ⟨Same.refl _, [], rfl, FrAt.nil _⟩ (fun i ys H' _ h => SqL.of (h.1.at hXc.rl)) ?_ ?_
  · rintro i y ys H' hy ⟨sy, ts, rfl, hF⟩
    obtain ⟨u, hu, rfl⟩ := refs_at hy
    have hi : i < (rowOf tr).length := by rw [← hX.fr.1]; exact (List.getElem?_eq_some_iff.mp hu).1
    obtain ⟨v, hv⟩ := get_of (xs := rowOf tr) (i := i) hi
    have hU := (hXc.fr.same sy).2 i u v hu hv
    have ho := hok v (List.mem_of_getElem? hv)
    refine ⟨u, _, rfl, SqT.of hU, rfl, _, _, rfl, _, _, rfl, rfl, ⟨rfl, rfl⟩, _, rfl, _, _, rfl, rfl, .inl ⟨by decide, by decide⟩, _, rfl, _, _, rfl, by omega, by omega, fun t ht => ⟨sy.new ht _, ts ++ [t], ?_, ?_⟩⟩
    · rw [List.map_append]; rfl
    · have e : (grF (rowOf tr))[i]? = some (lowP (3 * v.1) v.2) := by unfold grF; rw [List.getElem?_map, hv]; rfl
      rw [take_snoc e]
      exact hF.snoc ht
  rintro ys H' ⟨sy, ts4, rfl, hF⟩ D4 hD4
  rw [List.length_map, hX.fr.1, show (rowOf tr).length = (grF (rowOf tr)).length by unfold grF; rw [List.length_map], take_all] at hF
  have sD4 := same_new hD4 (.lst (ts4.map V.ref))
  refine ⟨1, true, by decide, EqL.tups (SqL.of ((sy.trans sD4).at hX4.rl)) (SqL.of upd_same) (hX4.fr.same (sy.trans sD4)) (hF.same sD4) e4, _, rfl, iteF ?_⟩
  have t19 := t18.trans (sy.trans sD4)
  generalize upd H' D4 (.lst (ts4.map V.ref)) = H19 at sD4 t19 ⊢
  -- heavier
  have m19 := s34.trans t19
  refine ⟨_, rfl, _, rfl, pw, rfl, ⟨_, SqL.of (m19.at hW)⟩, ?_⟩
  refine comp_list (xs := ws.map V.int) (by rw [List.length_map]; exact le1000 (by omega)) (fun i ys H' => H' = H19 ∧ ys = ((ws.take i).map fun x => 3 * x).map V.int) ⟨rfl, rfl⟩ (fun i ys H' _ h => by rw [h.1]; exact SqL.of (m19.at hW)) ?_ ?_
  · rintro i x ys H' hx ⟨rfl, rfl⟩
    obtain ⟨z, hz, rfl⟩ := ints_at hx
    refine ⟨⟨rfl, rfl⟩, _, rfl, _, _, rfl, rfl, .inl ⟨by decide, by decide⟩, rfl, ?_⟩
    rw [map_snoc _ hz, List.map_append]; rfl
  rintro ys Hh ⟨rfl, rfl⟩ hv hhv
  rw [List.length_map, take_all]
  have s20 := same_new hhv (.lst ((ws.map fun x => 3 * x).map V.int))
  have t20 := t19.trans s20
  have m20 := m19.trans s20
  generalize hH20 : upd Hh hv (.lst ((ws.map fun x => 3 * x).map V.int)) = H20 at s20 t20 m20 ⊢
  have hHv : H20 hv = some (.lst ((grL ws).map V.int)) := by rw [← hH20]; exact upd_same
  refine ⟨p, hv, ms, grL ws, rfl, m20.at hP2, hHv, by omega, (by unfold grL; rw [List.length_map]; omega), (fun w hw => by obtain ⟨x, hx, rfl⟩ := mem_gr hw; have := hwb x hx; omega), fun x5 r5 rs5 tr5 H21 hX5 s21 hx5 hr5 hR5 hok5 => ?_⟩
  obtain ⟨dx5, fl5, ob5, l51, l52⟩ := hX5.ob
  have e5 := sq_heavy hlw hw1 hE hFP (runs_sq hR5) (SqP.fp (ns := ms) (ws := ws) hok5)
  have t21 := t20.trans s21
  have hXd := hX.same t21
  refine ⟨x5, _, dx5, fl5, _, rfl, ob5, C_Squared.cl, N_Squared.r, l51, ?_⟩
  refine ⟨_, rfl, 1, true, by decide, EqL.tups (SqL.of hX5.rl) (SqL.of hXd.rl) hX5.fr hXd.fr e5, _, rfl, iteF ?_⟩
  -- sorted
  have m21 := m20.trans s21
  refine ⟨_, rfl, p, ms, rfl, SqL.of (m21.at hP2), by omega, fun so l hperm hpw' hl => ?_⟩
  have s22 := same_new hl (.lst (so.map V.int))
  have hsl : so.length = ms.length := hperm.length_eq
  refine ⟨_, rfl, l, pw, so, ws, rfl, upd_same, (m21.trans s22).at hW, by omega, by omega, (fun m hm => Nat.le_trans (hmB m (hperm.mem_iff.mp hm)) (by decide)), hwb, fun pe te g5 z5 f5 H23 s23 hpe hC23 hT23 hC5 _ => ?_⟩
  obtain ⟨rfl, rfl, rfl⟩ := hC5.rest (by omega) hw1 (pw_rise hpw')
  refine ⟨(by show 2 ≤ sizeLine; decide), fun tz htz => ⟨(by show 3 ≤ sizeLine; decide), fun lz hlz => ?_⟩⟩
  have s24 := same_new htz (.tup [.int 0, .int 1])
  have s25 := same_new hlz (.lst [.int 0, .int 0, .ref tz])
  refine ⟨1, true, by decide, EqL.cost (SqL.of ((s24.trans s25).at hC23)) (SqL.of upd_same) (SqT.of ((s24.trans s25).at hT23)) (SqT.of (s25.at upd_same)), ?_⟩
  exact q _

end
end K1

set_option Elab.async false
set_option linter.all false
set_option maxRecDepth 100000
set_option maxHeartbeats 8000000
namespace K1
open PySem L2 Fr1 Up
theorem all_mk {l : PySem.W.OpenLaw} {w : World} {K : PySem.W.Frag} {h : Heap} {mg : Str → Option Value} {fa f : Addr} {cAnswer : Addr} {cEvened : Addr} {cSummed : Addr} {cSquared : Addr} {cBand : Addr} {cBarred : Addr} (X : K.In h) (G : h.Ns mainGlobals mg) (hfa : mg "law" = some (.ref fa))
    {oc kV doc pm cdv ct : Value} {od an : Option Addr} {osl : Array (Option Value)}
    (aL : PySem.W.nsIn K mainGlobals "law" = some (some (.ref f))) (lL : K.lookup f = some ⟨oc, od, .func (PySem.W.fnOf "law" "law" (defArgs s_law) (defBody s_law) (defScope s_law) .none kV doc pm an cdv ct), osl⟩) (cL : PySem.W.codeIn K cdv "law" = true) (kL : PySem.W.keepIn K (.ref f) = true)
    (K_Evened : ClsA K mg "Evened" cEvened)
    (K_Summed : ClsA K mg "Summed" cSummed)
    (K_Squared : ClsA K mg "Squared" cSquared)
    (N_Evened : NaEvened K cEvened)
    (N_Summed : NaSummed K cSummed)
    (N_Squared : NaSquared K cSquared)
    (D__law_numbers : DefAt K mg "_law_numbers" s__law_numbers ["_law_script"])
    (D__law_weights : DefAt K mg "_law_weights" s__law_weights ["_law_script"])
    (D_is_whole : DefAt K mg "is_whole" s_is_whole ["value"])
    (D_is_list_of_wholes : DefAt K mg "is_list_of_wholes" s_is_list_of_wholes ["values"])
    (D_check_numbers : DefAt K mg "check_numbers" s_check_numbers ["numbers"])
    (D_is_whole_row : DefAt K mg "is_whole_row" s_is_whole_row ["numbers", "row"])
    (D_check_whole_row : DefAt K mg "check_whole_row" s_check_whole_row ["numbers", "row"])
    (D_differences : DefAt K mg "differences" s_differences ["numbers", "row"])
    (D_greatest : DefAt K mg "greatest" s_greatest ["numbers", "row"])
    (D_deepest_fall : DefAt K mg "deepest_fall" s_deepest_fall ["numbers"])
    (D_upper_row : DefAt K mg "upper_row" s_upper_row ["numbers"])
    (D_least_stands : DefAt K mg "least_stands" s_least_stands ["numbers", "most"])
    (D_Evened___init__ : InitAt K mg "Evened" cEvened "Evened.__init__" s_Evened___init__ ["self", "row", "first", "second"])
    (D_evened : DefAt K mg "evened" s_evened ["numbers"])
    (D_are_weights : DefAt K mg "are_weights" s_are_weights ["numbers", "weights"])
    (D_check_weights : DefAt K mg "check_weights" s_check_weights ["numbers", "weights"])
    (D_summed_up : DefAt K mg "summed_up" s_summed_up ["numbers", "row", "weights"])
    (D_put_in : DefAt K mg "put_in" s_put_in ["heap", "value", "share"])
    (D_greater_below : DefAt K mg "greater_below" s_greater_below ["heap", "place"])
    (D_take_top : DefAt K mg "take_top" s_take_top ["heap"])
    (D_take_shares : DefAt K mg "take_shares" s_take_shares ["heap", "amount"])
    (D_cheapest_ends : DefAt K mg "cheapest_ends" s_cheapest_ends ["numbers", "weights"])
    (D_lower_row : DefAt K mg "lower_row" s_lower_row ["numbers"])
    (D_greatest_pull : DefAt K mg "greatest_pull" s_greatest_pull ["number", "stand", "weight"])
    (D_sums_from_ahead : DefAt K mg "sums_from_ahead" s_sums_from_ahead ["numbers", "row", "weights"])
    (D_least_pull : DefAt K mg "least_pull" s_least_pull ["number", "stand", "weight"])
    (D_sums_from_behind : DefAt K mg "sums_from_behind" s_sums_from_behind ["numbers", "row", "weights"])
    (D_pulls_of : DefAt K mg "pulls_of" s_pulls_of ["numbers", "row", "weights"])
    (D_Summed___init__ : InitAt K mg "Summed" cSummed "Summed.__init__" s_Summed___init__ ["self", "row", "pulls"])
    (D_summed : DefAt K mg "summed" s_summed ["numbers", "weights"])
    (D_common_divisor : DefAt K mg "common_divisor" s_common_divisor ["one", "other"])
    (D_is_fraction : DefAt K mg "is_fraction" s_is_fraction ["value"])
    (D_is_list_of_fractions : DefAt K mg "is_list_of_fractions" s_is_list_of_fractions ["values"])
    (D_is_fraction_row : DefAt K mg "is_fraction_row" s_is_fraction_row ["numbers", "row"])
    (D_check_fraction_row : DefAt K mg "check_fraction_row" s_check_fraction_row ["numbers", "row"])
    (D_lowest : DefAt K mg "lowest" s_lowest ["top", "bottom"])
    (D_plus : DefAt K mg "plus" s_plus ["one", "other"])
    (D_weighted_square : DefAt K mg "weighted_square" s_weighted_square ["number", "fraction", "weight"])
    (D_squares : DefAt K mg "squares" s_squares ["numbers", "row", "weights"])
    (D_is_less : DefAt K mg "is_less" s_is_less ["one", "other"])
    (D_joined : DefAt K mg "joined" s_joined ["one", "other"])
    (D_level_runs : DefAt K mg "level_runs" s_level_runs ["numbers", "weights"])
    (D_Squared___init__ : InitAt K mg "Squared" cSquared "Squared.__init__" s_Squared___init__ ["self", "row"])
    (D_squared : DefAt K mg "squared" s_squared ["numbers", "weights"])
    (D__law_costs : DefAt K mg "_law_costs" s__law_costs ["_law_numbers_here", "_law_weights_here"])
    (D__law_low : DefAt K mg "_law_low" s__law_low ["_law_above", "_law_below"])
    (M : Bn mg) :
    ∃ fd : FuncData, (∀ (s : Shared) (v : Value), BindsTo s fd ⟨[v], []⟩ [("_law_script", v)]) ∧ ∀ base : Heap, K.In base → base.Ns mainGlobals mg → FnOk l.prog w K mg base CX0 12 fa fd ["_law_script"] (spLaw K) := by
  have e := hfa.symm.trans (PySem.W.mg_of X G aL)
  cases e
  have F := fun_mk (st := s_law) lL cL kL
  refine ⟨PySem.W.fnOf "law" "law" (defArgs s_law) (defBody s_law) (defScope s_law) .none kV doc pm an cdv ct, fun s v => .of_eq rfl, fun base _ _ => ?_⟩
  let c : CA := ⟨cAnswer, cEvened, cSummed, cSquared, cBand, cBarred⟩
  have F__law_numbers : FnA l.prog w K mg base "_law_numbers" ["_law_script"] 1 (spNumbers K) := D__law_numbers.fnA fun f fd F => ok__law_numbers M  F
  have F__law_weights : FnA l.prog w K mg base "_law_weights" ["_law_script"] 1 (spWeights K) := D__law_weights.fnA fun f fd F => ok__law_weights M  F
  have F_is_whole : FnA l.prog w K mg base "is_whole" ["value"] 1 spWhole := D_is_whole.fnA fun f fd F => ok_is_whole M  F
  have F_is_list_of_wholes : FnA l.prog w K mg base "is_list_of_wholes" ["values"] 3 spListW := D_is_list_of_wholes.fnA fun f fd F => ok_is_list_of_wholes M F_is_whole F
  have F_check_numbers : FnA l.prog w K mg base "check_numbers" ["numbers"] 4 spChk1 := D_check_numbers.fnA fun f fd F => ok_check_numbers M F_is_list_of_wholes F
  have F_is_whole_row : FnA l.prog w K mg base "is_whole_row" ["numbers", "row"] 4 spRowW := D_is_whole_row.fnA fun f fd F => ok_is_whole_row M F_is_list_of_wholes F
  have F_check_whole_row : FnA l.prog w K mg base "check_whole_row" ["numbers", "row"] 5 spChk2 := D_check_whole_row.fnA fun f fd F => ok_check_whole_row M F_is_whole_row F
  have F_differences : FnA l.prog w K mg base "differences" ["numbers", "row"] 1 spDiff := D_differences.fnA fun f fd F => ok_differences M  F
  have F_greatest : FnA l.prog w K mg base "greatest" ["numbers", "row"] 6 spGreat := D_greatest.fnA fun f fd F => ok_greatest M F_check_numbers F_check_whole_row F_differences F
  have F_deepest_fall : FnA l.prog w K mg base "deepest_fall" ["numbers"] 2 spFall := D_deepest_fall.fnA fun f fd F => ok_deepest_fall M  F
  have F_upper_row : FnA l.prog w K mg base "upper_row" ["numbers"] 2 spUp := D_upper_row.fnA fun f fd F => ok_upper_row M  F
  have F_least_stands : FnA l.prog w K mg base "least_stands" ["numbers", "most"] 3 spLeast := D_least_stands.fnA fun f fd F => ok_least_stands M F_upper_row F
  have F_Evened___init__ : MakeA l.prog w K mg base "Evened" c.Evened ["self", "row", "first", "second"] 1 (spEvInit c) := D_Evened___init__.makeA fun f fd F => ok_Evened___init__ (c := c) M K_Evened N_Evened F
  have F_evened : FnA l.prog w K mg base "evened" ["numbers"] 8 (spEvened c) := D_evened.fnA fun f fd F => ok_evened (c := c) M F_check_numbers F_deepest_fall F_least_stands F_Evened___init__ F
  have F_are_weights : FnA l.prog w K mg base "are_weights" ["numbers", "weights"] 5 spWts := D_are_weights.fnA fun f fd F => ok_are_weights M F_is_whole_row F
  have F_check_weights : FnA l.prog w K mg base "check_weights" ["numbers", "weights"] 6 spChkW := D_check_weights.fnA fun f fd F => ok_check_weights M F_are_weights F
  have F_summed_up : FnA l.prog w K mg base "summed_up" ["numbers", "row", "weights"] 7 spSummed := D_summed_up.fnA fun f fd F => ok_summed_up M F_check_numbers F_check_whole_row F_check_weights F_differences F
  have F_put_in : FnA l.prog w K mg base "put_in" ["heap", "value", "share"] 1 spPut := D_put_in.fnA fun f fd F => ok_put_in M  F
  have F_greater_below : FnA l.prog w K mg base "greater_below" ["heap", "place"] 1 spGrB := D_greater_below.fnA fun f fd F => ok_greater_below M  F
  have F_take_top : FnA l.prog w K mg base "take_top" ["heap"] 2 spTake := D_take_top.fnA fun f fd F => ok_take_top M F_greater_below F
  have F_take_shares : FnA l.prog w K mg base "take_shares" ["heap", "amount"] 3 spShares := D_take_shares.fnA fun f fd F => ok_take_shares M F_take_top F
  have F_cheapest_ends : FnA l.prog w K mg base "cheapest_ends" ["numbers", "weights"] 4 spEnds := D_cheapest_ends.fnA fun f fd F => ok_cheapest_ends M F_put_in F_take_shares F
  have F_lower_row : FnA l.prog w K mg base "lower_row" ["numbers"] 2 spLo := D_lower_row.fnA fun f fd F => ok_lower_row M  F
  have F_greatest_pull : FnA l.prog w K mg base "greatest_pull" ["number", "stand", "weight"] 1 spGP := D_greatest_pull.fnA fun f fd F => ok_greatest_pull M  F
  have F_sums_from_ahead : FnA l.prog w K mg base "sums_from_ahead" ["numbers", "row", "weights"] 2 (spSums AA) := D_sums_from_ahead.fnA fun f fd F => ok_sums_from_ahead M F_greatest_pull F
  have F_least_pull : FnA l.prog w K mg base "least_pull" ["number", "stand", "weight"] 1 spLP := D_least_pull.fnA fun f fd F => ok_least_pull M  F
  have F_sums_from_behind : FnA l.prog w K mg base "sums_from_behind" ["numbers", "row", "weights"] 2 (spSums bhd) := D_sums_from_behind.fnA fun f fd F => ok_sums_from_behind M F_least_pull F
  have F_pulls_of : FnA l.prog w K mg base "pulls_of" ["numbers", "row", "weights"] 3 (spSums pl) := D_pulls_of.fnA fun f fd F => ok_pulls_of M F_sums_from_ahead F_sums_from_behind F
  have F_Summed___init__ : MakeA l.prog w K mg base "Summed" c.Summed ["self", "row", "pulls"] 1 (spSuInit c) := D_Summed___init__.makeA fun f fd F => ok_Summed___init__ (c := c) M K_Summed N_Summed F
  have F_summed : FnA l.prog w K mg base "summed" ["numbers", "weights"] 9 (spSumP c) := D_summed.fnA fun f fd F => ok_summed (c := c) M F_check_numbers F_check_weights F_cheapest_ends F_lower_row F_pulls_of F_Summed___init__ F
  have F_common_divisor : FnA l.prog w K mg base "common_divisor" ["one", "other"] 1 spGcd := D_common_divisor.fnA fun f fd F => ok_common_divisor M  F
  have F_is_fraction : FnA l.prog w K mg base "is_fraction" ["value"] 2 spFrac := D_is_fraction.fnA fun f fd F => ok_is_fraction M F_is_whole F_common_divisor F
  have F_is_list_of_fractions : FnA l.prog w K mg base "is_list_of_fractions" ["values"] 3 spListF := D_is_list_of_fractions.fnA fun f fd F => ok_is_list_of_fractions M F_is_fraction F
  have F_is_fraction_row : FnA l.prog w K mg base "is_fraction_row" ["numbers", "row"] 4 spRowF := D_is_fraction_row.fnA fun f fd F => ok_is_fraction_row M F_is_list_of_fractions F
  have F_check_fraction_row : FnA l.prog w K mg base "check_fraction_row" ["numbers", "row"] 5 spChkF := D_check_fraction_row.fnA fun f fd F => ok_check_fraction_row M F_is_fraction_row F
  have F_lowest : FnA l.prog w K mg base "lowest" ["top", "bottom"] 2 spLowW := D_lowest.fnA fun f fd F => ok_lowest M F_common_divisor F
  have F_plus : FnA l.prog w K mg base "plus" ["one", "other"] 2 spPlusW := D_plus.fnA fun f fd F => ok_plus M F_common_divisor F
  have F_weighted_square : FnA l.prog w K mg base "weighted_square" ["number", "fraction", "weight"] 3 spWSqW := D_weighted_square.fnA fun f fd F => ok_weighted_square M F_lowest F
  have F_squares : FnA l.prog w K mg base "squares" ["numbers", "row", "weights"] 7 spSquaresW := D_squares.fnA fun f fd F => ok_squares M F_check_numbers F_check_fraction_row F_check_weights F_lowest F_plus F_weighted_square F
  have F_is_less : FnA l.prog w K mg base "is_less" ["one", "other"] 1 spLess := D_is_less.fnA fun f fd F => ok_is_less M  F
  have F_joined : FnA l.prog w K mg base "joined" ["one", "other"] 1 spJoin := D_joined.fnA fun f fd F => ok_joined M  F
  have F_level_runs : FnA l.prog w K mg base "level_runs" ["numbers", "weights"] 2 spRuns := D_level_runs.fnA fun f fd F => ok_level_runs M F_is_less F_joined F
  have F_Squared___init__ : MakeA l.prog w K mg base "Squared" c.Squared ["self", "row"] 1 (spSqInit c) := D_Squared___init__.makeA fun f fd F => ok_Squared___init__ (c := c) M K_Squared N_Squared F
  have F_squared : FnA l.prog w K mg base "squared" ["numbers", "weights"] 7 (spSquaredW c) := D_squared.fnA fun f fd F => ok_squared (c := c) M F_check_numbers F_check_weights F_level_runs F_lowest F_Squared___init__ F
  have F__law_costs : FnA l.prog w K mg base "_law_costs" ["_law_numbers_here", "_law_weights_here"] 10 spCosts := D__law_costs.fnA fun f fd F => ok__law_costs (c := c) M F_greatest F_evened F_summed_up F_summed F_squares F_squared K_Evened N_Evened K_Summed N_Summed K_Squared N_Squared F
  have F__law_low : FnA l.prog w K mg base "_law_low" ["_law_above", "_law_below"] 1 spLowW := D__law_low.fnA fun f fd F => ok__law_low M  F
  exact ok_law (c := c) M F__law_numbers F__law_weights F__law_costs F__law_low F_squared K_Squared N_Squared F
theorem walk {l : PySem.W.OpenLaw} {q : Program} {loose : List Str} {XP : (Str → Option Value) → Heap → Prop} {YP : World → Heap → Prop} {d : DefRec} {K : Params → PySem.W.Frag} (hn : l.most = some 63) (hdf : d.params.defaults = [])
    (hY : ∀ (w : World) (h : Heap), YP w h → (K w.params).In h)
    (F : ∀ (w : World) (mg : Str → Option Value) (fa : Addr) (h : Heap), (K w.params).In h → h.Ns mainGlobals mg → mg d.name = some (.ref fa) →
      ∃ fd : FuncData, (∀ (s : Shared) (u : Value), BindsTo s fd ⟨[u], []⟩ [("_law_script", u)]) ∧ ∀ base : Heap, (K w.params).In base → base.Ns mainGlobals mg → FnOk l.prog w (K w.params) mg base CX0 12 fa fd ["_law_script"] (spLaw (K w.params))) :
    PySem.W.WalkO q loose XP YP l.row.toRowW d [] (fun f vs => PySem.call f vs) :=
  walk_bits (n := 63) (k := 12) (x := "_law_script") (CX := CX0) (sp := spLaw) hn (by decide) hdf ⟨rfl, by decide, by decide⟩ hY F (fun _ _ a ns hl hb _ hS => ⟨a, ns, rfl, hS, hl, hb, fun _ => rfl⟩) fun _ _ _ _ z => z
end K1
/-! names that the head would make great twins under: taken, so that it does without (the compiled text stays small) -/
def PySem.W.Fast.tw15236124681028641042 : Unit := ()
def PySem.W.Fast.tw12399694153398682067 : Unit := ()
def PySem.W.Fast.tw3558888045923901096 : Unit := ()
def PySem.W.Fast.tw13412455046156933533 : Unit := ()
def PySem.W.Fast.tw5139504771361343174 : Unit := ()
def PySem.W.Fast.tw5489258318831238724 : Unit := ()
def PySem.W.Fast.tw7930522387253094296 : Unit := ()
def PySem.W.Fast.tw16872854570951640410 : Unit := ()
def PySem.W.Fast.tw10788221111944665446 : Unit := ()
def PySem.W.Fast.tw18200678133503559756 : Unit := ()
open PySem PySem.W PyProof.Rows
set_option maxRecDepth 100000 in
set_option maxHeartbeats 0 in
theorem PySem.Challenge.cw_uprow_k06_turned_holds : PySem.Challenge.rw_uprow_k06_turned.Holds := by
  w_on; o_law; k_head; (case hw => w_witness2)
  k_fill
  refine K1.walk (l := PySem.Challenge.rw_uprow_k06_turned) rfl rfl (fun w h Y => PySem.W.kIn_of Y) ?F
  case F =>
    intro w mg fa h KX G hmg
    refine' K1.all_mk (cAnswer := (0 : Nat)) (cBand := (0 : Nat)) (cBarred := (0 : Nat)) KX G hmg ?aL ?lL ?cL ?kL ?G0 ?G1 ?G2 ?G3 ?G4 ?G5 ?G6 ?G7 ?G8 ?G9 ?G10 ?G11 ?G12 ?G13 ?G14 ?G15 ?G16 ?G17 ?G18 ?G19 ?G20 ?G21 ?G22 ?G23 ?G24 ?G25 ?G26 ?G27 ?G28 ?G29 ?G30 ?G31 ?G32 ?G33 ?G34 ?G35 ?G36 ?G37 ?G38 ?G39 ?G40 ?G41 ?G42 ?G43 ?G44 ?G45 ?G46 ?G47 ?G48 ?G49 ?G50 ?G51 ?bnM
    (case aL => k_is); (case lL => k_is); (case cL => k_is); (case kL => k_is)
    (case G0 =>
      refine' L2.clsA_mk KX G ?a ?b1 ?b2 ?b3 ?b4 ?b5 ?b6 ?b7 ?b8
      (case a => k_is); (case b1 => k_is); (case b2 => k_is); (case b3 => k_is); (case b4 => k_is); (case b5 => k_is); (case b6 => k_is); (case b7 => k_is); (case b8 => k_is))
    (case G1 =>
      refine' L2.clsA_mk KX G ?a ?b1 ?b2 ?b3 ?b4 ?b5 ?b6 ?b7 ?b8
      (case a => k_is); (case b1 => k_is); (case b2 => k_is); (case b3 => k_is); (case b4 => k_is); (case b5 => k_is); (case b6 => k_is); (case b7 => k_is); (case b8 => k_is))
    (case G2 =>
      refine' L2.clsA_mk KX G ?a ?b1 ?b2 ?b3 ?b4 ?b5 ?b6 ?b7 ?b8
      (case a => k_is); (case b1 => k_is); (case b2 => k_is); (case b3 => k_is); (case b4 => k_is); (case b5 => k_is); (case b6 => k_is); (case b7 => k_is); (case b8 => k_is))
    (case G3 =>
      refine' ⟨?n0, ?n1, ?n2⟩
      (case n0 => show PySem.W.findIn _ (.ref _) _ = some none; k_is); (case n1 => show PySem.W.findIn _ (.ref _) _ = some none; k_is); (case n2 => show PySem.W.findIn _ (.ref _) _ = some none; k_is))
    (case G4 =>
      refine' ⟨?n0, ?n1⟩
      (case n0 => show PySem.W.findIn _ (.ref _) _ = some none; k_is); (case n1 => show PySem.W.findIn _ (.ref _) _ = some none; k_is))
    (case G5 =>
      refine' ⟨?n0⟩
      (case n0 => show PySem.W.findIn _ (.ref _) _ = some none; k_is))
    (case G6 =>
      refine' L2.defAt_mk KX G (fun _ _ _ _ _ _ us hl => match us, hl with | [_], _ => rfl) ?a ?l ?c ?k
      (case a => k_is); (case l => k_is); (case c => k_is); (case k => k_is))
    (case G7 =>
      refine' L2.defAt_mk KX G (fun _ _ _ _ _ _ us hl => match us, hl with | [_], _ => rfl) ?a ?l ?c ?k
      (case a => k_is); (case l => k_is); (case c => k_is); (case k => k_is))
    (case G8 =>
      refine' L2.defAt_mk KX G (fun _ _ _ _ _ _ us hl => match us, hl with | [_], _ => rfl) ?a ?l ?c ?k
      (case a => k_is); (case l => k_is); (case c => k_is); (case k => k_is))
    (case G9 =>
      refine' L2.defAt_mk KX G (fun _ _ _ _ _ _ us hl => match us, hl with | [_], _ => rfl) ?a ?l ?c ?k
      (case a => k_is); (case l => k_is); (case c => k_is); (case k => k_is))
    (case G10 =>
      refine' L2.defAt_mk KX G (fun _ _ _ _ _ _ us hl => match us, hl with | [_], _ => rfl) ?a ?l ?c ?k
      (case a => k_is); (case l => k_is); (case c => k_is); (case k => k_is))
    (case G11 =>
      refine' L2.defAt_mk KX G (fun _ _ _ _ _ _ us hl => match us, hl with | [_, _], _ => rfl) ?a ?l ?c ?k
      (case a => k_is); (case l => k_is); (case c => k_is); (case k => k_is))
    (case G12 =>
      refine' L2.defAt_mk KX G (fun _ _ _ _ _ _ us hl => match us, hl with | [_, _], _ => rfl) ?a ?l ?c ?k
      (case a => k_is); (case l => k_is); (case c => k_is); (case k => k_is))
    (case G13 =>
      refine' L2.defAt_mk KX G (fun _ _ _ _ _ _ us hl => match us, hl with | [_, _], _ => rfl) ?a ?l ?c ?k
      (case a => k_is); (case l => k_is); (case c => k_is); (case k => k_is))
    (case G14 =>
      refine' L2.defAt_mk KX G (fun _ _ _ _ _ _ us hl => match us, hl with | [_, _], _ => rfl) ?a ?l ?c ?k
      (case a => k_is); (case l => k_is); (case c => k_is); (case k => k_is))
    (case G15 =>
      refine' L2.defAt_mk KX G (fun _ _ _ _ _ _ us hl => match us, hl with | [_], _ => rfl) ?a ?l ?c ?k
      (case a => k_is); (case l => k_is); (case c => k_is); (case k => k_is))
    (case G16 =>
      refine' L2.defAt_mk KX G (fun _ _ _ _ _ _ us hl => match us, hl with | [_], _ => rfl) ?a ?l ?c ?k
      (case a => k_is); (case l => k_is); (case c => k_is); (case k => k_is))
    (case G17 =>
      refine' L2.defAt_mk KX G (fun _ _ _ _ _ _ us hl => match us, hl with | [_, _], _ => rfl) ?a ?l ?c ?k
      (case a => k_is); (case l => k_is); (case c => k_is); (case k => k_is))
    (case G18 =>
      refine' L2.initAt_mk KX G (fun _ _ _ _ _ _ us hl => match us, hl with | [_, _, _, _], _ => rfl) ?a ?i ?l ?c ?k ?nq ?mq ?pq
      (case a => k_is); (case i => k_is); (case l => k_is); (case c => k_is); (case k => k_is); (case nq => k_is); (case mq => k_is); (case pq => k_is))
    (case G19 =>
      refine' L2.defAt_mk KX G (fun _ _ _ _ _ _ us hl => match us, hl with | [_], _ => rfl) ?a ?l ?c ?k
      (case a => k_is); (case l => k_is); (case c => k_is); (case k => k_is))
    (case G20 =>
      refine' L2.defAt_mk KX G (fun _ _ _ _ _ _ us hl => match us, hl with | [_, _], _ => rfl) ?a ?l ?c ?k
      (case a => k_is); (case l => k_is); (case c => k_is); (case k => k_is))
    (case G21 =>
      refine' L2.defAt_mk KX G (fun _ _ _ _ _ _ us hl => match us, hl with | [_, _], _ => rfl) ?a ?l ?c ?k
      (case a => k_is); (case l => k_is); (case c => k_is); (case k => k_is))
    (case G22 =>
      refine' L2.defAt_mk KX G (fun _ _ _ _ _ _ us hl => match us, hl with | [_, _, _], _ => rfl) ?a ?l ?c ?k
      (case a => k_is); (case l => k_is); (case c => k_is); (case k => k_is))
    (case G23 =>
      refine' L2.defAt_mk KX G (fun _ _ _ _ _ _ us hl => match us, hl with | [_, _, _], _ => rfl) ?a ?l ?c ?k
      (case a => k_is); (case l => k_is); (case c => k_is); (case k => k_is))
    (case G24 =>
      refine' L2.defAt_mk KX G (fun _ _ _ _ _ _ us hl => match us, hl with | [_, _], _ => rfl) ?a ?l ?c ?k
      (case a => k_is); (case l => k_is); (case c => k_is); (case k => k_is))
    (case G25 =>
      refine' L2.defAt_mk KX G (fun _ _ _ _ _ _ us hl => match us, hl with | [_], _ => rfl) ?a ?l ?c ?k
      (case a => k_is); (case l => k_is); (case c => k_is); (case k => k_is))
    (case G26 =>
      refine' L2.defAt_mk KX G (fun _ _ _ _ _ _ us hl => match us, hl with | [_, _], _ => rfl) ?a ?l ?c ?k
      (case a => k_is); (case l => k_is); (case c => k_is); (case k => k_is))
    (case G27 =>
      refine' L2.defAt_mk KX G (fun _ _ _ _ _ _ us hl => match us, hl with | [_, _], _ => rfl) ?a ?l ?c ?k
      (case a => k_is); (case l => k_is); (case c => k_is); (case k => k_is))
    (case G28 =>
      refine' L2.defAt_mk KX G (fun _ _ _ _ _ _ us hl => match us, hl with | [_], _ => rfl) ?a ?l ?c ?k
      (case a => k_is); (case l => k_is); (case c => k_is); (case k => k_is))
    (case G29 =>
      refine' L2.defAt_mk KX G (fun _ _ _ _ _ _ us hl => match us, hl with | [_, _, _], _ => rfl) ?a ?l ?c ?k
      (case a => k_is); (case l => k_is); (case c => k_is); (case k => k_is))
    (case G30 =>
      refine' L2.defAt_mk KX G (fun _ _ _ _ _ _ us hl => match us, hl with | [_, _, _], _ => rfl) ?a ?l ?c ?k
      (case a => k_is); (case l => k_is); (case c => k_is); (case k => k_is))
    (case G31 =>
      refine' L2.defAt_mk KX G (fun _ _ _ _ _ _ us hl => match us, hl with | [_, _, _], _ => rfl) ?a ?l ?c ?k
      (case a => k_is); (case l => k_is); (case c => k_is); (case k => k_is))
    (case G32 =>
      refine' L2.defAt_mk KX G (fun _ _ _ _ _ _ us hl => match us, hl with | [_, _, _], _ => rfl) ?a ?l ?c ?k
      (case a => k_is); (case l => k_is); (case c => k_is); (case k => k_is))
    (case G33 =>
      refine' L2.defAt_mk KX G (fun _ _ _ _ _ _ us hl => match us, hl with | [_, _, _], _ => rfl) ?a ?l ?c ?k
      (case a => k_is); (case l => k_is); (case c => k_is); (case k => k_is))
    (case G34 =>
      refine' L2.initAt_mk KX G (fun _ _ _ _ _ _ us hl => match us, hl with | [_, _, _], _ => rfl) ?a ?i ?l ?c ?k ?nq ?mq ?pq
      (case a => k_is); (case i => k_is); (case l => k_is); (case c => k_is); (case k => k_is); (case nq => k_is); (case mq => k_is); (case pq => k_is))
    (case G35 =>
      refine' L2.defAt_mk KX G (fun _ _ _ _ _ _ us hl => match us, hl with | [_, _], _ => rfl) ?a ?l ?c ?k
      (case a => k_is); (case l => k_is); (case c => k_is); (case k => k_is))
    (case G36 =>
      refine' L2.defAt_mk KX G (fun _ _ _ _ _ _ us hl => match us, hl with | [_, _], _ => rfl) ?a ?l ?c ?k
      (case a => k_is); (case l => k_is); (case c => k_is); (case k => k_is))
    (case G37 =>
      refine' L2.defAt_mk KX G (fun _ _ _ _ _ _ us hl => match us, hl with | [_], _ => rfl) ?a ?l ?c ?k
      (case a => k_is); (case l => k_is); (case c => k_is); (case k => k_is))
    (case G38 =>
      refine' L2.defAt_mk KX G (fun _ _ _ _ _ _ us hl => match us, hl with | [_], _ => rfl) ?a ?l ?c ?k
      (case a => k_is); (case l => k_is); (case c => k_is); (case k => k_is))
    (case G39 =>
      refine' L2.defAt_mk KX G (fun _ _ _ _ _ _ us hl => match us, hl with | [_, _], _ => rfl) ?a ?l ?c ?k
      (case a => k_is); (case l => k_is); (case c => k_is); (case k => k_is))
    (case G40 =>
      refine' L2.defAt_mk KX G (fun _ _ _ _ _ _ us hl => match us, hl with | [_, _], _ => rfl) ?a ?l ?c ?k
      (case a => k_is); (case l => k_is); (case c => k_is); (case k => k_is))
    (case G41 =>
      refine' L2.defAt_mk KX G (fun _ _ _ _ _ _ us hl => match us, hl with | [_, _], _ => rfl) ?a ?l ?c ?k
      (case a => k_is); (case l => k_is); (case c => k_is); (case k => k_is))
    (case G42 =>
      refine' L2.defAt_mk KX G (fun _ _ _ _ _ _ us hl => match us, hl with | [_, _], _ => rfl) ?a ?l ?c ?k
      (case a => k_is); (case l => k_is); (case c => k_is); (case k => k_is))
    (case G43 =>
      refine' L2.defAt_mk KX G (fun _ _ _ _ _ _ us hl => match us, hl with | [_, _, _], _ => rfl) ?a ?l ?c ?k
      (case a => k_is); (case l => k_is); (case c => k_is); (case k => k_is))
    (case G44 =>
      refine' L2.defAt_mk KX G (fun _ _ _ _ _ _ us hl => match us, hl with | [_, _, _], _ => rfl) ?a ?l ?c ?k
      (case a => k_is); (case l => k_is); (case c => k_is); (case k => k_is))
    (case G45 =>
      refine' L2.defAt_mk KX G (fun _ _ _ _ _ _ us hl => match us, hl with | [_, _], _ => rfl) ?a ?l ?c ?k
      (case a => k_is); (case l => k_is); (case c => k_is); (case k => k_is))
    (case G46 =>
      refine' L2.defAt_mk KX G (fun _ _ _ _ _ _ us hl => match us, hl with | [_, _], _ => rfl) ?a ?l ?c ?k
      (case a => k_is); (case l => k_is); (case c => k_is); (case k => k_is))
    (case G47 =>
      refine' L2.defAt_mk KX G (fun _ _ _ _ _ _ us hl => match us, hl with | [_, _], _ => rfl) ?a ?l ?c ?k
      (case a => k_is); (case l => k_is); (case c => k_is); (case k => k_is))
    (case G48 =>
      refine' L2.initAt_mk KX G (fun _ _ _ _ _ _ us hl => match us, hl with | [_, _], _ => rfl) ?a ?i ?l ?c ?k ?nq ?mq ?pq
      (case a => k_is); (case i => k_is); (case l => k_is); (case c => k_is); (case k => k_is); (case nq => k_is); (case mq => k_is); (case pq => k_is))
    (case G49 =>
      refine' L2.defAt_mk KX G (fun _ _ _ _ _ _ us hl => match us, hl with | [_, _], _ => rfl) ?a ?l ?c ?k
      (case a => k_is); (case l => k_is); (case c => k_is); (case k => k_is))
    (case G50 =>
      refine' L2.defAt_mk KX G (fun _ _ _ _ _ _ us hl => match us, hl with | [_, _], _ => rfl) ?a ?l ?c ?k
      (case a => k_is); (case l => k_is); (case c => k_is); (case k => k_is))
    (case G51 =>
      refine' L2.defAt_mk KX G (fun _ _ _ _ _ _ us hl => match us, hl with | [_, _], _ => rfl) ?a ?l ?c ?k
      (case a => k_is); (case l => k_is); (case c => k_is); (case k => k_is))
    (case bnM =>
      refine' ⟨PySem.W.mg_none_of KX G ?z0, PySem.W.mg_none_of KX G ?z1, PySem.W.mg_none_of KX G ?z2, PySem.W.mg_none_of KX G ?z3, PySem.W.mg_none_of KX G ?z4, PySem.W.mg_none_of KX G ?z5, PySem.W.mg_none_of KX G ?z6, PySem.W.mg_none_of KX G ?z7, PySem.W.mg_none_of KX G ?z8, PySem.W.mg_none_of KX G ?z9, PySem.W.mg_none_of KX G ?z10, PySem.W.mg_none_of KX G ?z11, PySem.W.mg_none_of KX G ?z12, PySem.W.mg_none_of KX G ?z13, PySem.W.mg_none_of KX G ?z14, PySem.W.mg_none_of KX G ?z15, PySem.W.mg_none_of KX G ?z16⟩
      (case z0 => k_is); (case z1 => k_is); (case z2 => k_is); (case z3 => k_is); (case z4 => k_is); (case z5 => k_is); (case z6 => k_is); (case z7 => k_is); (case z8 => k_is); (case z9 => k_is); (case z10 => k_is); (case z11 => k_is); (case z12 => k_is); (case z13 => k_is); (case z14 => k_is); (case z15 => k_is); (case z16 => k_is))
#print axioms PySem.Challenge.cw_uprow_k06_turned_holds
